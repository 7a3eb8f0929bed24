/- The slowest level that would do, if each task takes any cycles; with all that it may have it is the one that would do for all, and with no more it is no faster. -/
import Derived.Test.YtgecandbbmljbabAdmAns
import Derived.Test.YtgecandbbmljbabAdmGood
import Derived.Test.YtgecandbbmljbabAdmRSpr
import Derived.Test.YtgecandbbmljbabAdmSprP
import Derived.Test.YtgecandbbmljbabAdmApp
import Derived.Test.YtgecandbbmljbabKArgs
import Derived.Deep.CutRange
namespace Go.Proofs.Ytgecandbbmljbab.AD
open Go.ChangeShapes Go.WideShapes Go.ChangeAt Go.RowKit Go.Proofs.Ytgecandbbmljbab.AR Go.Proofs.Ytgecandbbmljbab.TB Go.Proofs.Ytgecandbbmljbab.TK Go.Proofs.Ytgecandbbmljbab.FX

theorem u16_in {x : Int} (h : (Lit.int .u16 x).wf = true) : 0 ≤ x ∧ x ≤ 65535 := by
  simp [Lit.wf, IntKind.min, IntKind.max, IntKind.signed, IntKind.bits] at h
  omega

/-- the lesser one -/
def mn (a b : Int) : Int := if b < a then b else a
theorem run_min2 (ts : Array TypeId) (t : TypeId) (a b : Int) (w : World) : (Builtin.min_ ts t #[.int .i64 a, .int .i64 b]).run Try.prog w = .ok (.int .i64 (mn a b)) w := by
  unfold mn
  simp [Builtin.min_, Builtin.min2]

/-- the three lists, of the first k tasks -/
def Sp (B : Nat) (wB wx : World) (k : Nat) (L : List Tk) (s m a : Value) : Prop :=
  ∃ X Y, Th B wB wx k k k X Y ((cyc L).take k) s m a ∧ X.length = k ∧ Y.length = k ∧ Cy X k ∧ ∀ i, i < k → 0 ≤ Y.getD i 0 ∧ Y.getD i 0 ≤ (cyc L).getD i 0

theorem sp_new (w : World) (L : List Tk) : Sp w.heap.size w w 0 L (.slice none 0 0) (.slice none 0 0) (.slice none 0 0) :=
  ⟨[], [], ⟨rfl, Kp.refl _, ⟨rfl, .inl ⟨rfl, rfl⟩⟩, ⟨rfl, .inl ⟨rfl, rfl⟩⟩, ⟨rfl, .inl ⟨rfl, rfl⟩⟩, fun g q => (by cases q.1), fun g q => (by cases q.1), fun g q => (by cases q.1)⟩, rfl, rfl, fun i hi => by omega, fun i hi => by omega⟩

theorem getD_more {X : List Int} {k : Nat} {x : Int} (h : X.length = k) {i : Nat} : (i < k → (X ++ [x]).getD i 0 = X.getD i 0) ∧ (X ++ [x]).getD k 0 = x := by
  refine ⟨fun hi => ?_, ?_⟩
  · simp only [List.getD_eq_getElem?_getD]
    rw [List.getElem?_append_left (by omega)]
  · subst h
    simp [List.getD_eq_getElem?_getD]

theorem sp_more {B : Nat} {wB wx : World} {k : Nat} {L : List Tk} {X Y : List Int} {s m a : Value} {t : Tk} {n : Int} (hg : L[k]? = some t) (h : Th B wB wx (k + 1) (k + 1) (k + 1) (X ++ [n]) (Y ++ [mn n t.c]) ((cyc L).take k ++ [t.c]) s m a)
    (hX : X.length = k) (hY : Y.length = k) (hc : Cy X k) (hl : ∀ i, i < k → 0 ≤ Y.getD i 0 ∧ Y.getD i 0 ≤ (cyc L).getD i 0) (hn : 0 ≤ n ∧ n ≤ 4096) (ht : 0 ≤ t.c) : Sp B wB wx (k + 1) L s m a := by
  have e : (cyc L).take (k + 1) = (cyc L).take k ++ [t.c] := take_succ (by simp [cyc, hg])
  refine ⟨X ++ [n], Y ++ [mn n t.c], by rw [e]; exact h, by simp [hX], by simp [hY], fun i hi => ?_, fun i hi => ?_⟩
  · by_cases q : i < k
    · rw [(getD_more hX).1 q]; exact hc i q
    · obtain rfl : i = k := by omega
      rw [(getD_more hX (i := i)).2]; exact hn
  · by_cases q : i < k
    · rw [(getD_more hY).1 q]; exact hl i q
    · obtain rfl : i = k := by omega
      rw [(getD_more hY (i := i)).2, cyc_at hg]
      unfold mn; split <;> omega

/-- a list of the call's own, as a list of numbers -/
theorem rw_nat {B : Nat} {w : World} {v : Value} {k : Nat} {X : List Int} (h : Rw B w v k X) (hl : X.length = k) (hc : Cy X k) (hk : k ≤ 64) : ∃ av cs, v = .slice av k cs ∧ NAt w av k X := by
  have ok : ∀ z ∈ X, I64 z := fun z hz => by
    obtain ⟨i, hi, e⟩ := List.mem_iff_getElem.1 hz
    have := hc i (by omega)
    simp only [List.getD_eq_getElem?_getD, List.getElem?_eq_getElem hi, Option.getD_some, e] at this
    unfold I64; omega
  rcases h.2 with ⟨rfl, h0⟩ | ⟨g, cap, cur, rfl, hb, hg, h1, h2, hs, ht⟩
  · subst h0
    exact ⟨none, 0, rfl, ⟨hl, ok, .inl rfl⟩, by omega⟩
  · refine ⟨some ⟨g, 0, none⟩, cap, rfl, ⟨hl, ok, .inr ⟨g, 0, rfl, lt_blk hg, fun i hi => ?_⟩⟩, by omega⟩
    have hil : i < X.length := by omega
    rw [show 0 + i = i from by omega, World.ownsRow.cellAt h i (by omega)]
    simp [List.getD_eq_getElem?_getD, hil]

set_option maxRecDepth 100000 in
set_option maxHeartbeats 16000000 in
theorem admitSpare_go (m : Mc) (ao : Option Addr) (len cap : Nat) (L : List Tk) (au : Option Addr) (lu cu : Nat) (us : List Int) (w : World) (hm : m.At w) (h : LAt w ao len L) (hu : KIntsAt .u16 w au lu us) :
    Calls Try.prog 4 #[m.v, .slice ao len cap, .slice au lu cu] w fun e w' => e = .returned (.bool true) ∧ Below w.heap.size w w' := by
  have HE : Hid (∀ w', Kp w w' → Below w.heap.size w w') := fun w' q => q
  have hby := h.by'
  have huy := hu.by'
  have HL0 : Hid (LAt w ao len L) := h
  have HU0 : Hid (KIntsAt .u16 w au lu us) := hu
  have HG : Hid (∀ W, Kp w W → Calls Try.prog 5 #[m.v, .slice ao len cap] W fun e w' => e = .returned (.bool (goodB m L)) ∧ Kp W w') := fun W k => good_any m ao len cap L W (hm.kept k) (h.kept k)
  have HD : Hid (goodB m L = true → Gd m L) := fun q => (good_t q).1
  have HS : Hid (Gd m L → ∀ W av cs zs, Kp w W → NAt W av len zs → Cy zs len → Calls Try.prog 9 #[m.v, .slice ao len cap, .slice av len cs] W fun e w' => e = .returned (.int .i64 (spr m L zs m.lL : Nat)) ∧ Kp W w') := fun d W av cs zs k q1 q2 => spare_any m ao len cap L av cs zs W (hm.kept k) (h.kept k) d q1 q2
  have HRS : Hid (Gd m L → ∀ W av cs zs, Kp w W → NAt W av len zs → Cy zs len → Calls Try.prog 10 #[m.v, .slice ao len cap, .slice av len cs] W fun e w' => e = .returned (.int .i64 (spr m L zs m.lL : Nat)) ∧ Kp W w') := fun d W av cs zs k q1 q2 => rspare_any m ao len cap L av cs zs W (hm.kept k) (h.kept k) d q1 q2
  have HQ : Hid (Gd m L → ∀ W, Kp w W → Calls Try.prog 7 #[m.v, .slice ao len cap] W fun e w' => e = .returned (.int .i64 (spr m L (cyc L) m.lL : Nat)) ∧ Kp W w') := fun d W k => slowest_any m ao len cap L W (hm.kept k) (h.kept k) d
  clear hm h hu
  obtain ⟨W0, HW, K0, P0⟩ := one_box w m
  have HP : Hid (∀ W, Kp W0 W → B9 W w.heap.size m) := fun W k => P0.kp k
  have HK : Hid (Kp w W0) := K0
  generalize goodB m L = gd at *
  obtain ⟨p0, p1, p2, p3, p4, p5, p6, p7, p8⟩ := P0.all
  unfold Mc.v at *
  clear P0 K0
  cases gd with
  | false =>
    go_enter Try.func4, Try.ntmps4
    go_wp2_with fail
    rw [← HW.out]
    refine (HG.out _ HK.out).mono ?_
    rintro e w1 ⟨rfl, k1⟩
    go_wp2_with fail
    refine (aanswers_any _).mono ?_
    rintro e w2 ⟨rfl, k2⟩
    go_wp2
    go_ret
    exact ⟨rfl, HE.out _ ((HK.out.trans k1).trans k2)⟩
  | true =>
    have d := HD.out rfl
    by_cases hlu : lu < len
    · have hlu' : (lu : Int) < (len : Int) := by omega
      clear HS HRS HQ d HD
      go_enter Try.func4, Try.ntmps4
      go_wp2_with fail
      rw [← HW.out]
      refine (HG.out _ HK.out).mono ?_
      rintro e w1 ⟨rfl, k1⟩
      go_wp2_with fail
      refine (aanswers_any _).mono ?_
      rintro e w2 ⟨rfl, k2⟩
      go_wp2
      go_ret
      exact ⟨rfl, HE.out _ ((HK.out.trans k1).trans k2)⟩
    · have hlu' : ¬ (lu : Int) < (len : Int) := by omega
      have HDD : Hid (Gd m L) := d
      have HS1 : Hid (∀ W av cs zs, Kp w W → NAt W av len zs → Cy zs len → Calls Try.prog 9 #[.agg #[.slice m.aL m.lL m.cL, .slice m.aS m.lS m.cS, .slice m.aD m.lD m.cD, .int .i64 m.idle, .int .i64 m.crit, .int .i64 m.sw, .int .i64 m.swe, .int .i64 m.sems, .int .i64 m.hor], .slice ao len cap, .slice av len cs] W fun e w' => e = .returned (.int .i64 (spr m L zs m.lL : Nat)) ∧ Kp W w') := HS.out d
      have HR1 : Hid (∀ W av cs zs, Kp w W → NAt W av len zs → Cy zs len → Calls Try.prog 10 #[.agg #[.slice m.aL m.lL m.cL, .slice m.aS m.lS m.cS, .slice m.aD m.lD m.cD, .int .i64 m.idle, .int .i64 m.crit, .int .i64 m.sw, .int .i64 m.swe, .int .i64 m.sems, .int .i64 m.hor], .slice ao len cap, .slice av len cs] W fun e w' => e = .returned (.int .i64 (spr m L zs m.lL : Nat)) ∧ Kp W w') := HRS.out d
      have HQ1 : Hid (∀ W, Kp w W → Calls Try.prog 7 #[.agg #[.slice m.aL m.lL m.cL, .slice m.aS m.lS m.cS, .slice m.aD m.lD m.cD, .int .i64 m.idle, .int .i64 m.crit, .int .i64 m.sw, .int .i64 m.swe, .int .i64 m.sems, .int .i64 m.hor], .slice ao len cap] W fun e w' => e = .returned (.int .i64 (spr m L (cyc L) m.lL : Nat)) ∧ Kp W w') := HQ.out d
      obtain ⟨i0, hi, hz0, hz1, hz2⟩ := info_parts int_info
      have HI : Hid (Try.prog.info? 3 = some i0 ∧ i0.zero = some (.int .i64 0) ∧ i0.size = 1 ∧ i0.bytes = 8) := ⟨hi, hz0, hz1, hz2⟩
      clear HS HRS HQ d HD hi hz0 hz1 hz2
      go_enter Try.func4, Try.ntmps4
      try dsimp only [List.append]
      go_wp2_with fail
      rw [← HW.out]
      clear HW
      refine (HG.out _ HK.out).mono ?_
      rintro e w2 ⟨rfl, k2⟩
      have HK2 : Hid (Kp W0 w2) := k2
      clear k2 p0 p1 p2 p3 p4 p5 p6 p7 p8 HG
      go_wp2_with fail
      go_loopw [7, 8, 9, 10] (fun s r a i wr => ∃ k : Nat, k ≤ len ∧ i = .int .i64 k ∧ Hid (Sp w2.heap.size w2 wr k L s r a)) (fun _ _ _ i _ => len - (intOf i).toNat)
      case atStart => exact ⟨0, Nat.zero_le _, rfl, sp_new w2 L⟩
      case round =>
        obtain ⟨k, hk, rfl, HR⟩ := hrel
        obtain ⟨X, Y, T0, hX, hY, hcX, hcY⟩ := HR.out
        have KV : Hid (Kp w2 wr) := T0.kp
        by_cases hlt : k < len
        · have hlt' : (k : Int) < (len : Int) := by omega
          have hk0 : (0 : Int) ≤ (k : Int) := by omega
          have hkn : (k : Int).toNat = k := by omega
          have hku : (k : Int) < (lu : Int) := by omega
          obtain ⟨b, off, t, rfl, hb, hg, ht, d0, d1, d2, d3⟩ := (HL0.out.kept (HK.out.trans HK2.out)).one hlt
          have hbt := HDD.out.t t (List.mem_of_getElem? hg)
          have hk64 : k ≤ 64 := by have := HDD.out.n; have := HL0.out.ln; omega
          have HC : Hid (∀ W, Kp w2 W → W.cell? ⟨b, off + k * 4 + 1, none⟩ = some (.int .i64 t.c)) := fun W q => (q.cell (by exact hb)).trans d1
          obtain ⟨bu, ou, rfl, hbu, cz, wz⟩ := (HU0.out.kept ((HK.out.trans HK2.out).trans KV.out)).one (i := k) (by omega)
          obtain ⟨z0, z1⟩ := u16_in wz
          have c1 := HC.out _ KV.out
          clear wz d0 d1 d2 d3 ht
          generalize us.getD k 0 = z at *
          have HF : Hid (∀ V s r a, Th w2.heap.size w2 V (k + 1) (k + 1) (k + 1) (X ++ [z % 4097]) (Y ++ [mn (z % 4097) t.c]) ((cyc L).take k ++ [t.c]) s r a → Sp w2.heap.size w2 V (k + 1) L s r a) := fun V s r a q => sp_more hg q hX hY hcX hcY (by omega) hbt.c.1
          have MN : ∀ ts ty w, (Builtin.min_ ts ty #[.int .i64 (z % 4097), .int .i64 t.c]).run Try.prog w = .ok (.int .i64 (mn (z % 4097) t.c)) w := fun ts ty w => run_min2 ts ty _ _ w
          have HT0 : Hid (Th w2.heap.size w2 wr k k k X Y ((cyc L).take k) _ _ _) := T0
          clear hX hY hcX hcY hg hbt T0 HR
          go_upto_region 8 with fail
          have e1 : IntKind.i64.wrap (z % 4097) = z % 4097 := wrapI (by omega)
          clear e1
          generalize z % 4097 = n at *
          generalize mn n t.c = mm at *
          refine wp_region_noPanic ?_
          refine wp_region_held_drew (S := fun w' => w'.cell? ⟨b, off + k * 4 + 1, none⟩ = some (.int .i64 t.c)) (by kernel_rfl) ?_ (fun hHeld => ?_)
          · exact HC.out _ (KV.out.trans (tkp_drew _))
          obtain ⟨V0, HV0⟩ : ∃ V0, Hid (V0 = wr.drew) := ⟨_, rfl⟩
          have T0 := HT0.out.goes (tkp_drew wr)
          rw [← HV0.out] at T0
          rw [← HV0.out]
          clear HV0 c1 HT0
          have hHeld0 := HC.out _ T0.kp
          refine wpAnyH_take (i := 0) (oi := Oper.mk (some 37) _ _ _ _ _) (v := ?v0a) rfl (by kernel_rfl) (by kernel_rfl) (by kernel_rfl) (fun _ _ _ h => h) (Or.inl ⟨by rfl, ?hy0a⟩) (by assumption) ?rest0a
          case hy0a => (intro w0 hSw; (try dsimp only at hSw); go_simp; try with_reducible rfl)
          try simp only [Act.put, List.setIfInBounds_toArray, List.set_cons_zero, List.set_cons_succ]
          refine wpAnyH_take (i := 1) (oi := Oper.mk (some 38) _ _ _ _ _) (v := ?v1a) rfl (by kernel_rfl) (by kernel_rfl) (by kernel_rfl) (fun _ _ _ h => h) (Or.inl ⟨by rfl, ?hy1a⟩) (by assumption) ?rest1a
          case hy1a => (intro w0 hSw; (try dsimp only at hSw); go_simp; try with_reducible rfl)
          try simp only [Act.put, List.setIfInBounds_toArray, List.set_cons_zero, List.set_cons_succ]
          refine wpAnyH_take (i := 4) (oi := Oper.mk (some 41) _ _ _ _ _) (v := ?v4a) rfl (by kernel_rfl) (by kernel_rfl) (by kernel_rfl) (fun _ _ _ h => h) (Or.inl ⟨by rfl, ?hy4a⟩) (by assumption) ?rest4a
          case hy4a => (intro w0 hSw; (try dsimp only at hSw); go_simp; try with_reducible rfl)
          try simp only [Act.put, List.setIfInBounds_toArray, List.set_cons_zero, List.set_cons_succ]
          refine wpAnyH_take (i := 5) (oi := Oper.mk (some 42) _ _ _ _ _) (v := ?v5a) rfl (by kernel_rfl) (by kernel_rfl) (by kernel_rfl) (fun _ _ _ h => h) (Or.inl ⟨by rfl, ?hy5a⟩) (by assumption) ?rest5a
          case hy5a => (intro w0 hSw; (try dsimp only at hSw); go_simp; try with_reducible rfl)
          try simp only [Act.put, List.setIfInBounds_toArray, List.set_cons_zero, List.set_cons_succ]
          refine wpAnyH_take (i := 6) (oi := Oper.mk (some 43) _ _ _ _ _) (v := ?v6a) rfl (by kernel_rfl) (by kernel_rfl) (by kernel_rfl) (fun _ _ _ h => h) (Or.inl ⟨by rfl, ?hy6a⟩) (by assumption) ?rest6a
          case hy6a => (intro w0 hSw; (try dsimp only at hSw); go_simp; try with_reducible rfl)
          try simp only [Act.put, List.setIfInBounds_toArray, List.set_cons_zero, List.set_cons_succ]
          refine wpAnyH_take (i := 7) (oi := Oper.mk (some 44) _ _ _ _ _) (v := ?v7a) rfl (by kernel_rfl) (by kernel_rfl) (by kernel_rfl) (fun _ _ _ h => h) (Or.inl ⟨by rfl, ?hy7a⟩) (by assumption) ?rest7a
          case hy7a => (intro w0 hSw; (try dsimp only at hSw); go_simp; try with_reducible rfl)
          try simp only [Act.put, List.setIfInBounds_toArray, List.set_cons_zero, List.set_cons_succ]
          refine wpAnyH_take (i := 8) (oi := Oper.mk (some 45) _ _ _ _ _) (v := ?v8a) rfl (by kernel_rfl) (by kernel_rfl) (by kernel_rfl) (fun _ _ _ h => h) (Or.inl ⟨by rfl, ?hy8a⟩) (by assumption) ?rest8a
          case hy8a => (intro w0 hSw; (try dsimp only at hSw); go_simp; try with_reducible rfl)
          try simp only [Act.put, List.setIfInBounds_toArray, List.set_cons_zero, List.set_cons_succ]
          refine wpAnyH_take (i := 9) (oi := Oper.mk (some 46) _ _ _ _ _) (v := ?v9a) rfl (by kernel_rfl) (by kernel_rfl) (by kernel_rfl) (fun _ _ _ h => h) (Or.inl ⟨by rfl, ?hy9a⟩) (by assumption) ?rest9a
          case hy9a => (intro w0 hSw; (try dsimp only at hSw); go_simp; try with_reducible rfl)
          try simp only [Act.put, List.setIfInBounds_toArray, List.set_cons_zero, List.set_cons_succ]
          refine wpAnyH_take (i := 10) (oi := Oper.mk (some 47) _ _ _ _ _) (v := ?v10a) rfl (by kernel_rfl) (by kernel_rfl) (by kernel_rfl) (fun _ _ _ h => h) (Or.inl ⟨by rfl, ?hy10a⟩) (by assumption) ?rest10a
          case hy10a => (intro w0 hSw; (try dsimp only at hSw); go_simp; try with_reducible rfl)
          try simp only [Act.put, List.setIfInBounds_toArray, List.set_cons_zero, List.set_cons_succ]
          refine wpAnyH_take (i := 11) (oi := Oper.mk (some 48) _ _ _ _ _) (v := ?v11a) rfl (by kernel_rfl) (by kernel_rfl) (by kernel_rfl) (fun _ _ _ h => h) (Or.inl ⟨by rfl, ?hy11a⟩) (by assumption) ?rest11a
          case hy11a => (intro w0 hSw; (try dsimp only at hSw); go_simp; try with_reducible rfl)
          try simp only [Act.put, List.setIfInBounds_toArray, List.set_cons_zero, List.set_cons_succ]
          refine wpAnyH_take (i := 14) (oi := Oper.mk (some 51) _ _ _ _ _) (v := ?v14a) rfl (by kernel_rfl) (by kernel_rfl) (by kernel_rfl) (fun _ _ _ h => h) (Or.inl ⟨by rfl, ?hy14a⟩) (by assumption) ?rest14a
          case hy14a => (intro w0 hSw; (try dsimp only at hSw); go_simp; try with_reducible rfl)
          try simp only [Act.put, List.setIfInBounds_toArray, List.set_cons_zero, List.set_cons_succ]
          refine wpAnyH_take (i := 15) (oi := Oper.mk (some 52) _ _ _ _ _) (v := ?v15a) rfl (by kernel_rfl) (by kernel_rfl) (by kernel_rfl) (fun _ _ _ h => h) (Or.inl ⟨by rfl, ?hy15a⟩) (by assumption) ?rest15a
          case hy15a => (intro w0 hSw; (try dsimp only at hSw); go_simp; try with_reducible rfl)
          try simp only [Act.put, List.setIfInBounds_toArray, List.set_cons_zero, List.set_cons_succ]
          refine wpAnyH_take (i := 16) (oi := Oper.mk (some 53) _ _ _ _ _) (v := ?v16a) rfl (by kernel_rfl) (by kernel_rfl) (by kernel_rfl) (fun _ _ _ h => h) (Or.inl ⟨by rfl, ?hy16a⟩) (by assumption) ?rest16a
          case hy16a => (intro w0 hSw; (try dsimp only at hSw); go_simp; try with_reducible rfl)
          try simp only [Act.put, List.setIfInBounds_toArray, List.set_cons_zero, List.set_cons_succ]
          refine wpAnyH_take (i := 17) (oi := Oper.mk (some 54) _ _ _ _ _) (v := ?v17a) rfl (by kernel_rfl) (by kernel_rfl) (by kernel_rfl) (fun _ _ _ h => h) (Or.inl ⟨by rfl, ?hy17a⟩) (by assumption) ?rest17a
          case hy17a => (intro w0 hSw; (try dsimp only at hSw); go_simp; try with_reducible rfl)
          try simp only [Act.put, List.setIfInBounds_toArray, List.set_cons_zero, List.set_cons_succ]
          refine wpAnyH_take (i := 18) (oi := Oper.mk (some 55) _ _ _ _ _) (v := ?v18a) rfl (by kernel_rfl) (by kernel_rfl) (by kernel_rfl) (fun _ _ _ h => h) (Or.inl ⟨by rfl, ?hy18a⟩) (by assumption) ?rest18a
          case hy18a => (intro w0 hSw; (try dsimp only at hSw); go_simp; try with_reducible rfl)
          try simp only [Act.put, List.setIfInBounds_toArray, List.set_cons_zero, List.set_cons_succ]
          refine wpAnyH_take (i := 19) (oi := Oper.mk (some 56) _ _ _ _ _) (v := ?v19a) rfl (by kernel_rfl) (by kernel_rfl) (by kernel_rfl) (fun _ _ _ h => h) (Or.inl ⟨by rfl, ?hy19a⟩) (by assumption) ?rest19a
          case hy19a => (intro w0 hSw; (try dsimp only at hSw); go_simp; try with_reducible rfl)
          try simp only [Act.put, List.setIfInBounds_toArray, List.set_cons_zero, List.set_cons_succ]
          refine wpAnyH_ready (rs := [2, 12, 20]) (by kernel_rfl) (by simp) ?_
          refine AllReadyH.cons (o := Oper.mk (some 39) _ _ _ _ _) rfl (fun K hK => ?_) (AllReadyH.cons (o := Oper.mk (some 49) _ _ _ _ _) rfl (fun K hK => ?_) (AllReadyH.cons (o := Oper.mk (some 57) _ _ _ _ _) rfl (fun K hK => ?_) AllReadyH.nil))
          · go_simp
            go_wp2_with fail
            obtain ⟨V1, HV1⟩ : ∃ V1, Hid (V1 = V0.alloc (.cells #[.int .i64 n] 3)) := ⟨_, rfl⟩
            have T1 := T0.alloc (.cells #[.int .i64 n] 3)
            have EA1 := bt_new T0 (n)
            rw [← HV1.out] at T1 EA1
            rw [← HV1.out]
            clear HV1
            refine hK.out _ _ ?_ (fun hHeld => ?_)
            · exact HC.out _ T1.kp
            clear hK K
            try simp only [Act.put, List.setIfInBounds_toArray, List.set_cons_zero, List.set_cons_succ]
            refine wpAnyH_ready (rs := [3, 12, 20]) (by kernel_rfl) (by simp) ?_
            refine AllReadyH.cons (o := Oper.mk (some 40) _ _ _ _ _) rfl (fun K hK => ?_) (AllReadyH.cons (o := Oper.mk (some 49) _ _ _ _ _) rfl (fun K hK => ?_) (AllReadyH.cons (o := Oper.mk (some 57) _ _ _ _ _) rfl (fun K hK => ?_) AllReadyH.nil))
            · refine step_append_num V1 (by rfl) _ _ 34 rfl w2.heap.size i0 Try.underlying34 HI.out.1 HI.out.2.1 HI.out.2.2.1 HI.out.2.2.2 _ k X rfl T1.rs _ (n) rfl EA1.blk (by omega) T1.kp.size ?_
              intro v2 V2 R2 G2 U2
              have T2 := T1.ofS G2 R2 U2
              refine hK.out _ _ ?_ (fun hHeld => ?_)
              · exact HC.out _ T2.kp
              clear hK K
              try simp only [Act.put, List.setIfInBounds_toArray, List.set_cons_zero, List.set_cons_succ]
              refine wpAnyH_ready (rs := [12, 20]) (by kernel_rfl) (by simp) ?_
              refine AllReadyH.cons (o := Oper.mk (some 49) _ _ _ _ _) rfl (fun K hK => ?_) (AllReadyH.cons (o := Oper.mk (some 57) _ _ _ _ _) rfl (fun K hK => ?_) AllReadyH.nil)
              · go_simp
                go_wp2_with fail
                obtain ⟨V3, HV3⟩ : ∃ V3, Hid (V3 = V2.alloc (.cells #[.int .i64 mm] 3)) := ⟨_, rfl⟩
                have T3 := T2.alloc (.cells #[.int .i64 mm] 3)
                have EB3 := bt_new T2 (mm)
                rw [← HV3.out] at T3 EB3
                rw [← HV3.out]
                clear HV3
                refine hK.out _ _ ?_ (fun hHeld => ?_)
                · exact HC.out _ T3.kp
                clear hK K
                try simp only [Act.put, List.setIfInBounds_toArray, List.set_cons_zero, List.set_cons_succ]
                refine wpAnyH_ready (rs := [13, 20]) (by kernel_rfl) (by simp) ?_
                refine AllReadyH.cons (o := Oper.mk (some 50) _ _ _ _ _) rfl (fun K hK => ?_) (AllReadyH.cons (o := Oper.mk (some 57) _ _ _ _ _) rfl (fun K hK => ?_) AllReadyH.nil)
                · refine step_append_num V3 (by rfl) _ _ 34 rfl w2.heap.size i0 Try.underlying34 HI.out.1 HI.out.2.1 HI.out.2.2.1 HI.out.2.2.2 _ k Y rfl T3.rm _ (mm) rfl EB3.blk (by omega) T3.kp.size ?_
                  intro v4 V4 R4 G4 U4
                  have T4 := T3.ofM G4 R4 U4
                  refine hK.out _ _ ?_ (fun hHeld => ?_)
                  · exact HC.out _ T4.kp
                  clear hK K
                  try simp only [Act.put, List.setIfInBounds_toArray, List.set_cons_zero, List.set_cons_succ]
                  refine wpAnyH_ready (rs := [20]) (by kernel_rfl) (by simp) ?_
                  refine AllReadyH.cons (o := Oper.mk (some 57) _ _ _ _ _) rfl (fun K hK => ?_) AllReadyH.nil
                  go_simp
                  go_wp2_with fail
                  obtain ⟨V5, HV5⟩ : ∃ V5, Hid (V5 = V4.alloc (.cells #[.int .i64 t.c] 3)) := ⟨_, rfl⟩
                  have T5 := T4.alloc (.cells #[.int .i64 t.c] 3)
                  have EC5 := bt_new T4 (t.c)
                  rw [← HV5.out] at T5 EC5
                  rw [← HV5.out]
                  clear HV5
                  refine hK.out _ _ ?_ (fun hHeld => ?_)
                  · exact HC.out _ T5.kp
                  clear hK K
                  try simp only [Act.put, List.setIfInBounds_toArray, List.set_cons_zero, List.set_cons_succ]
                  refine wpAnyH_ready (rs := [21]) (by kernel_rfl) (by simp) ?_
                  refine AllReadyH.cons (o := Oper.mk (some 58) _ _ _ _ _) rfl (fun K hK => ?_) AllReadyH.nil
                  refine step_append_num V5 (by rfl) _ _ 34 rfl w2.heap.size i0 Try.underlying34 HI.out.1 HI.out.2.1 HI.out.2.2.1 HI.out.2.2.2 _ k ((cyc L).take k) rfl T5.ra _ (t.c) rfl EC5.blk (by omega) T5.kp.size ?_
                  intro v6 V6 R6 G6 U6
                  have T6 := T5.ofA G6 R6 U6
                  refine hK.out _ _ ?_ (fun hHeld => ?_)
                  · exact HC.out _ T6.kp
                  clear hK K
                  try simp only [Act.put, List.setIfInBounds_toArray, List.set_cons_zero, List.set_cons_succ]
                  refine wpAnyH_take (i := 22) (oi := Oper.mk (some 7) _ _ _ _ _) (v := ?v22f1) rfl (by kernel_rfl) (by kernel_rfl) (by kernel_rfl) (fun _ _ _ h => h) (Or.inl ⟨by rfl, ?hy22f1⟩) (by assumption) ?rest22f1
                  case hy22f1 => (intro w0 hSw; (try dsimp only at hSw); go_simp; try with_reducible rfl)
                  try simp only [Act.put, List.setIfInBounds_toArray, List.set_cons_zero, List.set_cons_succ]
                  refine wpAnyH_take (i := 23) (oi := Oper.mk (some 8) _ _ _ _ _) (v := ?v23f1) rfl (by kernel_rfl) (by kernel_rfl) (by kernel_rfl) (fun _ _ _ h => h) (Or.inl ⟨by rfl, ?hy23f1⟩) (by assumption) ?rest23f1
                  case hy23f1 => (intro w0 hSw; (try dsimp only at hSw); go_simp; try with_reducible rfl)
                  try simp only [Act.put, List.setIfInBounds_toArray, List.set_cons_zero, List.set_cons_succ]
                  refine wpAnyH_take (i := 24) (oi := Oper.mk (some 9) _ _ _ _ _) (v := ?v24f1) rfl (by kernel_rfl) (by kernel_rfl) (by kernel_rfl) (fun _ _ _ h => h) (Or.inl ⟨by rfl, ?hy24f1⟩) (by assumption) ?rest24f1
                  case hy24f1 => (intro w0 hSw; (try dsimp only at hSw); go_simp; try with_reducible rfl)
                  try simp only [Act.put, List.setIfInBounds_toArray, List.set_cons_zero, List.set_cons_succ]
                  refine wpAnyH_done (by kernel_rfl) ?_ _
                  refine NoPanic.normal ?_
                  have HX := HF.out _ _ _ _ T6
                  clear T0 T1 T2 T3 T4 T5 T6 hHeld0
                  go_wp2
                  go_roundw
                  case rel => exact ⟨k + 1, by omega, by go_num, HX⟩
                  case measure => simp [intOf]; omega
                · go_simp
                  go_wp2_with fail
                  obtain ⟨V4, HV4⟩ : ∃ V4, Hid (V4 = V3.alloc (.cells #[.int .i64 t.c] 3)) := ⟨_, rfl⟩
                  have T4 := T3.alloc (.cells #[.int .i64 t.c] 3)
                  have EC4 := bt_new T3 (t.c)
                  have EB4 := EB3.alloc (.cells #[.int .i64 t.c] 3)
                  rw [← HV4.out] at T4 EC4 EB4
                  rw [← HV4.out]
                  clear HV4
                  refine hK.out _ _ ?_ (fun hHeld => ?_)
                  · exact HC.out _ T4.kp
                  clear hK K
                  try simp only [Act.put, List.setIfInBounds_toArray, List.set_cons_zero, List.set_cons_succ]
                  refine wpAnyH_ready (rs := [13]) (by kernel_rfl) (by simp) ?_
                  refine AllReadyH.cons (o := Oper.mk (some 50) _ _ _ _ _) rfl (fun K hK => ?_) AllReadyH.nil
                  refine step_append_num V4 (by rfl) _ _ 34 rfl w2.heap.size i0 Try.underlying34 HI.out.1 HI.out.2.1 HI.out.2.2.1 HI.out.2.2.2 _ k Y rfl T4.rm _ (mm) rfl EB4.blk (by omega) T4.kp.size ?_
                  intro v5 V5 R5 G5 U5
                  have T5 := T4.ofM G5 R5 U5
                  have EC5 := EC4.ofM G5 U5
                  refine hK.out _ _ ?_ (fun hHeld => ?_)
                  · exact HC.out _ T5.kp
                  clear hK K
                  try simp only [Act.put, List.setIfInBounds_toArray, List.set_cons_zero, List.set_cons_succ]
                  refine wpAnyH_ready (rs := [21]) (by kernel_rfl) (by simp) ?_
                  refine AllReadyH.cons (o := Oper.mk (some 58) _ _ _ _ _) rfl (fun K hK => ?_) AllReadyH.nil
                  refine step_append_num V5 (by rfl) _ _ 34 rfl w2.heap.size i0 Try.underlying34 HI.out.1 HI.out.2.1 HI.out.2.2.1 HI.out.2.2.2 _ k ((cyc L).take k) rfl T5.ra _ (t.c) rfl EC5.blk (by omega) T5.kp.size ?_
                  intro v6 V6 R6 G6 U6
                  have T6 := T5.ofA G6 R6 U6
                  refine hK.out _ _ ?_ (fun hHeld => ?_)
                  · exact HC.out _ T6.kp
                  clear hK K
                  try simp only [Act.put, List.setIfInBounds_toArray, List.set_cons_zero, List.set_cons_succ]
                  refine wpAnyH_take (i := 22) (oi := Oper.mk (some 7) _ _ _ _ _) (v := ?v22f2) rfl (by kernel_rfl) (by kernel_rfl) (by kernel_rfl) (fun _ _ _ h => h) (Or.inl ⟨by rfl, ?hy22f2⟩) (by assumption) ?rest22f2
                  case hy22f2 => (intro w0 hSw; (try dsimp only at hSw); go_simp; try with_reducible rfl)
                  try simp only [Act.put, List.setIfInBounds_toArray, List.set_cons_zero, List.set_cons_succ]
                  refine wpAnyH_take (i := 23) (oi := Oper.mk (some 8) _ _ _ _ _) (v := ?v23f2) rfl (by kernel_rfl) (by kernel_rfl) (by kernel_rfl) (fun _ _ _ h => h) (Or.inl ⟨by rfl, ?hy23f2⟩) (by assumption) ?rest23f2
                  case hy23f2 => (intro w0 hSw; (try dsimp only at hSw); go_simp; try with_reducible rfl)
                  try simp only [Act.put, List.setIfInBounds_toArray, List.set_cons_zero, List.set_cons_succ]
                  refine wpAnyH_take (i := 24) (oi := Oper.mk (some 9) _ _ _ _ _) (v := ?v24f2) rfl (by kernel_rfl) (by kernel_rfl) (by kernel_rfl) (fun _ _ _ h => h) (Or.inl ⟨by rfl, ?hy24f2⟩) (by assumption) ?rest24f2
                  case hy24f2 => (intro w0 hSw; (try dsimp only at hSw); go_simp; try with_reducible rfl)
                  try simp only [Act.put, List.setIfInBounds_toArray, List.set_cons_zero, List.set_cons_succ]
                  refine wpAnyH_done (by kernel_rfl) ?_ _
                  refine NoPanic.normal ?_
                  have HX := HF.out _ _ _ _ T6
                  clear T0 T1 T2 T3 T4 T5 T6 hHeld0
                  go_wp2
                  go_roundw
                  case rel => exact ⟨k + 1, by omega, by go_num, HX⟩
                  case measure => simp [intOf]; omega
              · go_simp
                go_wp2_with fail
                obtain ⟨V3, HV3⟩ : ∃ V3, Hid (V3 = V2.alloc (.cells #[.int .i64 t.c] 3)) := ⟨_, rfl⟩
                have T3 := T2.alloc (.cells #[.int .i64 t.c] 3)
                have EC3 := bt_new T2 (t.c)
                rw [← HV3.out] at T3 EC3
                rw [← HV3.out]
                clear HV3
                refine hK.out _ _ ?_ (fun hHeld => ?_)
                · exact HC.out _ T3.kp
                clear hK K
                try simp only [Act.put, List.setIfInBounds_toArray, List.set_cons_zero, List.set_cons_succ]
                refine wpAnyH_ready (rs := [12]) (by kernel_rfl) (by simp) ?_
                refine AllReadyH.cons (o := Oper.mk (some 49) _ _ _ _ _) rfl (fun K hK => ?_) AllReadyH.nil
                go_simp
                go_wp2_with fail
                obtain ⟨V4, HV4⟩ : ∃ V4, Hid (V4 = V3.alloc (.cells #[.int .i64 mm] 3)) := ⟨_, rfl⟩
                have T4 := T3.alloc (.cells #[.int .i64 mm] 3)
                have EB4 := bt_new T3 (mm)
                have EC4 := EC3.alloc (.cells #[.int .i64 mm] 3)
                rw [← HV4.out] at T4 EB4 EC4
                rw [← HV4.out]
                clear HV4
                refine hK.out _ _ ?_ (fun hHeld => ?_)
                · exact HC.out _ T4.kp
                clear hK K
                try simp only [Act.put, List.setIfInBounds_toArray, List.set_cons_zero, List.set_cons_succ]
                refine wpAnyH_ready (rs := [13]) (by kernel_rfl) (by simp) ?_
                refine AllReadyH.cons (o := Oper.mk (some 50) _ _ _ _ _) rfl (fun K hK => ?_) AllReadyH.nil
                refine step_append_num V4 (by rfl) _ _ 34 rfl w2.heap.size i0 Try.underlying34 HI.out.1 HI.out.2.1 HI.out.2.2.1 HI.out.2.2.2 _ k Y rfl T4.rm _ (mm) rfl EB4.blk (by omega) T4.kp.size ?_
                intro v5 V5 R5 G5 U5
                have T5 := T4.ofM G5 R5 U5
                have EC5 := EC4.ofM G5 U5
                refine hK.out _ _ ?_ (fun hHeld => ?_)
                · exact HC.out _ T5.kp
                clear hK K
                try simp only [Act.put, List.setIfInBounds_toArray, List.set_cons_zero, List.set_cons_succ]
                refine wpAnyH_ready (rs := [21]) (by kernel_rfl) (by simp) ?_
                refine AllReadyH.cons (o := Oper.mk (some 58) _ _ _ _ _) rfl (fun K hK => ?_) AllReadyH.nil
                refine step_append_num V5 (by rfl) _ _ 34 rfl w2.heap.size i0 Try.underlying34 HI.out.1 HI.out.2.1 HI.out.2.2.1 HI.out.2.2.2 _ k ((cyc L).take k) rfl T5.ra _ (t.c) rfl EC5.blk (by omega) T5.kp.size ?_
                intro v6 V6 R6 G6 U6
                have T6 := T5.ofA G6 R6 U6
                refine hK.out _ _ ?_ (fun hHeld => ?_)
                · exact HC.out _ T6.kp
                clear hK K
                try simp only [Act.put, List.setIfInBounds_toArray, List.set_cons_zero, List.set_cons_succ]
                refine wpAnyH_take (i := 22) (oi := Oper.mk (some 7) _ _ _ _ _) (v := ?v22f3) rfl (by kernel_rfl) (by kernel_rfl) (by kernel_rfl) (fun _ _ _ h => h) (Or.inl ⟨by rfl, ?hy22f3⟩) (by assumption) ?rest22f3
                case hy22f3 => (intro w0 hSw; (try dsimp only at hSw); go_simp; try with_reducible rfl)
                try simp only [Act.put, List.setIfInBounds_toArray, List.set_cons_zero, List.set_cons_succ]
                refine wpAnyH_take (i := 23) (oi := Oper.mk (some 8) _ _ _ _ _) (v := ?v23f3) rfl (by kernel_rfl) (by kernel_rfl) (by kernel_rfl) (fun _ _ _ h => h) (Or.inl ⟨by rfl, ?hy23f3⟩) (by assumption) ?rest23f3
                case hy23f3 => (intro w0 hSw; (try dsimp only at hSw); go_simp; try with_reducible rfl)
                try simp only [Act.put, List.setIfInBounds_toArray, List.set_cons_zero, List.set_cons_succ]
                refine wpAnyH_take (i := 24) (oi := Oper.mk (some 9) _ _ _ _ _) (v := ?v24f3) rfl (by kernel_rfl) (by kernel_rfl) (by kernel_rfl) (fun _ _ _ h => h) (Or.inl ⟨by rfl, ?hy24f3⟩) (by assumption) ?rest24f3
                case hy24f3 => (intro w0 hSw; (try dsimp only at hSw); go_simp; try with_reducible rfl)
                try simp only [Act.put, List.setIfInBounds_toArray, List.set_cons_zero, List.set_cons_succ]
                refine wpAnyH_done (by kernel_rfl) ?_ _
                refine NoPanic.normal ?_
                have HX := HF.out _ _ _ _ T6
                clear T0 T1 T2 T3 T4 T5 T6 hHeld0
                go_wp2
                go_roundw
                case rel => exact ⟨k + 1, by omega, by go_num, HX⟩
                case measure => simp [intOf]; omega
            · go_simp
              go_wp2_with fail
              obtain ⟨V2, HV2⟩ : ∃ V2, Hid (V2 = V1.alloc (.cells #[.int .i64 mm] 3)) := ⟨_, rfl⟩
              have T2 := T1.alloc (.cells #[.int .i64 mm] 3)
              have EB2 := bt_new T1 (mm)
              have EA2 := EA1.alloc (.cells #[.int .i64 mm] 3)
              rw [← HV2.out] at T2 EB2 EA2
              rw [← HV2.out]
              clear HV2
              refine hK.out _ _ ?_ (fun hHeld => ?_)
              · exact HC.out _ T2.kp
              clear hK K
              try simp only [Act.put, List.setIfInBounds_toArray, List.set_cons_zero, List.set_cons_succ]
              refine wpAnyH_ready (rs := [3, 20]) (by kernel_rfl) (by simp) ?_
              refine AllReadyH.cons (o := Oper.mk (some 40) _ _ _ _ _) rfl (fun K hK => ?_) (AllReadyH.cons (o := Oper.mk (some 57) _ _ _ _ _) rfl (fun K hK => ?_) AllReadyH.nil)
              · refine step_append_num V2 (by rfl) _ _ 34 rfl w2.heap.size i0 Try.underlying34 HI.out.1 HI.out.2.1 HI.out.2.2.1 HI.out.2.2.2 _ k X rfl T2.rs _ (n) rfl EA2.blk (by omega) T2.kp.size ?_
                intro v3 V3 R3 G3 U3
                have T3 := T2.ofS G3 R3 U3
                have EB3 := EB2.ofS G3 U3
                refine hK.out _ _ ?_ (fun hHeld => ?_)
                · exact HC.out _ T3.kp
                clear hK K
                try simp only [Act.put, List.setIfInBounds_toArray, List.set_cons_zero, List.set_cons_succ]
                refine wpAnyH_ready (rs := [13, 20]) (by kernel_rfl) (by simp) ?_
                refine AllReadyH.cons (o := Oper.mk (some 50) _ _ _ _ _) rfl (fun K hK => ?_) (AllReadyH.cons (o := Oper.mk (some 57) _ _ _ _ _) rfl (fun K hK => ?_) AllReadyH.nil)
                · refine step_append_num V3 (by rfl) _ _ 34 rfl w2.heap.size i0 Try.underlying34 HI.out.1 HI.out.2.1 HI.out.2.2.1 HI.out.2.2.2 _ k Y rfl T3.rm _ (mm) rfl EB3.blk (by omega) T3.kp.size ?_
                  intro v4 V4 R4 G4 U4
                  have T4 := T3.ofM G4 R4 U4
                  refine hK.out _ _ ?_ (fun hHeld => ?_)
                  · exact HC.out _ T4.kp
                  clear hK K
                  try simp only [Act.put, List.setIfInBounds_toArray, List.set_cons_zero, List.set_cons_succ]
                  refine wpAnyH_ready (rs := [20]) (by kernel_rfl) (by simp) ?_
                  refine AllReadyH.cons (o := Oper.mk (some 57) _ _ _ _ _) rfl (fun K hK => ?_) AllReadyH.nil
                  go_simp
                  go_wp2_with fail
                  obtain ⟨V5, HV5⟩ : ∃ V5, Hid (V5 = V4.alloc (.cells #[.int .i64 t.c] 3)) := ⟨_, rfl⟩
                  have T5 := T4.alloc (.cells #[.int .i64 t.c] 3)
                  have EC5 := bt_new T4 (t.c)
                  rw [← HV5.out] at T5 EC5
                  rw [← HV5.out]
                  clear HV5
                  refine hK.out _ _ ?_ (fun hHeld => ?_)
                  · exact HC.out _ T5.kp
                  clear hK K
                  try simp only [Act.put, List.setIfInBounds_toArray, List.set_cons_zero, List.set_cons_succ]
                  refine wpAnyH_ready (rs := [21]) (by kernel_rfl) (by simp) ?_
                  refine AllReadyH.cons (o := Oper.mk (some 58) _ _ _ _ _) rfl (fun K hK => ?_) AllReadyH.nil
                  refine step_append_num V5 (by rfl) _ _ 34 rfl w2.heap.size i0 Try.underlying34 HI.out.1 HI.out.2.1 HI.out.2.2.1 HI.out.2.2.2 _ k ((cyc L).take k) rfl T5.ra _ (t.c) rfl EC5.blk (by omega) T5.kp.size ?_
                  intro v6 V6 R6 G6 U6
                  have T6 := T5.ofA G6 R6 U6
                  refine hK.out _ _ ?_ (fun hHeld => ?_)
                  · exact HC.out _ T6.kp
                  clear hK K
                  try simp only [Act.put, List.setIfInBounds_toArray, List.set_cons_zero, List.set_cons_succ]
                  refine wpAnyH_take (i := 22) (oi := Oper.mk (some 7) _ _ _ _ _) (v := ?v22f4) rfl (by kernel_rfl) (by kernel_rfl) (by kernel_rfl) (fun _ _ _ h => h) (Or.inl ⟨by rfl, ?hy22f4⟩) (by assumption) ?rest22f4
                  case hy22f4 => (intro w0 hSw; (try dsimp only at hSw); go_simp; try with_reducible rfl)
                  try simp only [Act.put, List.setIfInBounds_toArray, List.set_cons_zero, List.set_cons_succ]
                  refine wpAnyH_take (i := 23) (oi := Oper.mk (some 8) _ _ _ _ _) (v := ?v23f4) rfl (by kernel_rfl) (by kernel_rfl) (by kernel_rfl) (fun _ _ _ h => h) (Or.inl ⟨by rfl, ?hy23f4⟩) (by assumption) ?rest23f4
                  case hy23f4 => (intro w0 hSw; (try dsimp only at hSw); go_simp; try with_reducible rfl)
                  try simp only [Act.put, List.setIfInBounds_toArray, List.set_cons_zero, List.set_cons_succ]
                  refine wpAnyH_take (i := 24) (oi := Oper.mk (some 9) _ _ _ _ _) (v := ?v24f4) rfl (by kernel_rfl) (by kernel_rfl) (by kernel_rfl) (fun _ _ _ h => h) (Or.inl ⟨by rfl, ?hy24f4⟩) (by assumption) ?rest24f4
                  case hy24f4 => (intro w0 hSw; (try dsimp only at hSw); go_simp; try with_reducible rfl)
                  try simp only [Act.put, List.setIfInBounds_toArray, List.set_cons_zero, List.set_cons_succ]
                  refine wpAnyH_done (by kernel_rfl) ?_ _
                  refine NoPanic.normal ?_
                  have HX := HF.out _ _ _ _ T6
                  clear T0 T1 T2 T3 T4 T5 T6 hHeld0
                  go_wp2
                  go_roundw
                  case rel => exact ⟨k + 1, by omega, by go_num, HX⟩
                  case measure => simp [intOf]; omega
                · go_simp
                  go_wp2_with fail
                  obtain ⟨V4, HV4⟩ : ∃ V4, Hid (V4 = V3.alloc (.cells #[.int .i64 t.c] 3)) := ⟨_, rfl⟩
                  have T4 := T3.alloc (.cells #[.int .i64 t.c] 3)
                  have EC4 := bt_new T3 (t.c)
                  have EB4 := EB3.alloc (.cells #[.int .i64 t.c] 3)
                  rw [← HV4.out] at T4 EC4 EB4
                  rw [← HV4.out]
                  clear HV4
                  refine hK.out _ _ ?_ (fun hHeld => ?_)
                  · exact HC.out _ T4.kp
                  clear hK K
                  try simp only [Act.put, List.setIfInBounds_toArray, List.set_cons_zero, List.set_cons_succ]
                  refine wpAnyH_ready (rs := [13]) (by kernel_rfl) (by simp) ?_
                  refine AllReadyH.cons (o := Oper.mk (some 50) _ _ _ _ _) rfl (fun K hK => ?_) AllReadyH.nil
                  refine step_append_num V4 (by rfl) _ _ 34 rfl w2.heap.size i0 Try.underlying34 HI.out.1 HI.out.2.1 HI.out.2.2.1 HI.out.2.2.2 _ k Y rfl T4.rm _ (mm) rfl EB4.blk (by omega) T4.kp.size ?_
                  intro v5 V5 R5 G5 U5
                  have T5 := T4.ofM G5 R5 U5
                  have EC5 := EC4.ofM G5 U5
                  refine hK.out _ _ ?_ (fun hHeld => ?_)
                  · exact HC.out _ T5.kp
                  clear hK K
                  try simp only [Act.put, List.setIfInBounds_toArray, List.set_cons_zero, List.set_cons_succ]
                  refine wpAnyH_ready (rs := [21]) (by kernel_rfl) (by simp) ?_
                  refine AllReadyH.cons (o := Oper.mk (some 58) _ _ _ _ _) rfl (fun K hK => ?_) AllReadyH.nil
                  refine step_append_num V5 (by rfl) _ _ 34 rfl w2.heap.size i0 Try.underlying34 HI.out.1 HI.out.2.1 HI.out.2.2.1 HI.out.2.2.2 _ k ((cyc L).take k) rfl T5.ra _ (t.c) rfl EC5.blk (by omega) T5.kp.size ?_
                  intro v6 V6 R6 G6 U6
                  have T6 := T5.ofA G6 R6 U6
                  refine hK.out _ _ ?_ (fun hHeld => ?_)
                  · exact HC.out _ T6.kp
                  clear hK K
                  try simp only [Act.put, List.setIfInBounds_toArray, List.set_cons_zero, List.set_cons_succ]
                  refine wpAnyH_take (i := 22) (oi := Oper.mk (some 7) _ _ _ _ _) (v := ?v22f5) rfl (by kernel_rfl) (by kernel_rfl) (by kernel_rfl) (fun _ _ _ h => h) (Or.inl ⟨by rfl, ?hy22f5⟩) (by assumption) ?rest22f5
                  case hy22f5 => (intro w0 hSw; (try dsimp only at hSw); go_simp; try with_reducible rfl)
                  try simp only [Act.put, List.setIfInBounds_toArray, List.set_cons_zero, List.set_cons_succ]
                  refine wpAnyH_take (i := 23) (oi := Oper.mk (some 8) _ _ _ _ _) (v := ?v23f5) rfl (by kernel_rfl) (by kernel_rfl) (by kernel_rfl) (fun _ _ _ h => h) (Or.inl ⟨by rfl, ?hy23f5⟩) (by assumption) ?rest23f5
                  case hy23f5 => (intro w0 hSw; (try dsimp only at hSw); go_simp; try with_reducible rfl)
                  try simp only [Act.put, List.setIfInBounds_toArray, List.set_cons_zero, List.set_cons_succ]
                  refine wpAnyH_take (i := 24) (oi := Oper.mk (some 9) _ _ _ _ _) (v := ?v24f5) rfl (by kernel_rfl) (by kernel_rfl) (by kernel_rfl) (fun _ _ _ h => h) (Or.inl ⟨by rfl, ?hy24f5⟩) (by assumption) ?rest24f5
                  case hy24f5 => (intro w0 hSw; (try dsimp only at hSw); go_simp; try with_reducible rfl)
                  try simp only [Act.put, List.setIfInBounds_toArray, List.set_cons_zero, List.set_cons_succ]
                  refine wpAnyH_done (by kernel_rfl) ?_ _
                  refine NoPanic.normal ?_
                  have HX := HF.out _ _ _ _ T6
                  clear T0 T1 T2 T3 T4 T5 T6 hHeld0
                  go_wp2
                  go_roundw
                  case rel => exact ⟨k + 1, by omega, by go_num, HX⟩
                  case measure => simp [intOf]; omega
              · go_simp
                go_wp2_with fail
                obtain ⟨V3, HV3⟩ : ∃ V3, Hid (V3 = V2.alloc (.cells #[.int .i64 t.c] 3)) := ⟨_, rfl⟩
                have T3 := T2.alloc (.cells #[.int .i64 t.c] 3)
                have EC3 := bt_new T2 (t.c)
                have EA3 := EA2.alloc (.cells #[.int .i64 t.c] 3)
                have EB3 := EB2.alloc (.cells #[.int .i64 t.c] 3)
                rw [← HV3.out] at T3 EC3 EA3 EB3
                rw [← HV3.out]
                clear HV3
                refine hK.out _ _ ?_ (fun hHeld => ?_)
                · exact HC.out _ T3.kp
                clear hK K
                try simp only [Act.put, List.setIfInBounds_toArray, List.set_cons_zero, List.set_cons_succ]
                refine wpAnyH_ready (rs := [3]) (by kernel_rfl) (by simp) ?_
                refine AllReadyH.cons (o := Oper.mk (some 40) _ _ _ _ _) rfl (fun K hK => ?_) AllReadyH.nil
                refine step_append_num V3 (by rfl) _ _ 34 rfl w2.heap.size i0 Try.underlying34 HI.out.1 HI.out.2.1 HI.out.2.2.1 HI.out.2.2.2 _ k X rfl T3.rs _ (n) rfl EA3.blk (by omega) T3.kp.size ?_
                intro v4 V4 R4 G4 U4
                have T4 := T3.ofS G4 R4 U4
                have EB4 := EB3.ofS G4 U4
                have EC4 := EC3.ofS G4 U4
                refine hK.out _ _ ?_ (fun hHeld => ?_)
                · exact HC.out _ T4.kp
                clear hK K
                try simp only [Act.put, List.setIfInBounds_toArray, List.set_cons_zero, List.set_cons_succ]
                refine wpAnyH_ready (rs := [13]) (by kernel_rfl) (by simp) ?_
                refine AllReadyH.cons (o := Oper.mk (some 50) _ _ _ _ _) rfl (fun K hK => ?_) AllReadyH.nil
                refine step_append_num V4 (by rfl) _ _ 34 rfl w2.heap.size i0 Try.underlying34 HI.out.1 HI.out.2.1 HI.out.2.2.1 HI.out.2.2.2 _ k Y rfl T4.rm _ (mm) rfl EB4.blk (by omega) T4.kp.size ?_
                intro v5 V5 R5 G5 U5
                have T5 := T4.ofM G5 R5 U5
                have EC5 := EC4.ofM G5 U5
                refine hK.out _ _ ?_ (fun hHeld => ?_)
                · exact HC.out _ T5.kp
                clear hK K
                try simp only [Act.put, List.setIfInBounds_toArray, List.set_cons_zero, List.set_cons_succ]
                refine wpAnyH_ready (rs := [21]) (by kernel_rfl) (by simp) ?_
                refine AllReadyH.cons (o := Oper.mk (some 58) _ _ _ _ _) rfl (fun K hK => ?_) AllReadyH.nil
                refine step_append_num V5 (by rfl) _ _ 34 rfl w2.heap.size i0 Try.underlying34 HI.out.1 HI.out.2.1 HI.out.2.2.1 HI.out.2.2.2 _ k ((cyc L).take k) rfl T5.ra _ (t.c) rfl EC5.blk (by omega) T5.kp.size ?_
                intro v6 V6 R6 G6 U6
                have T6 := T5.ofA G6 R6 U6
                refine hK.out _ _ ?_ (fun hHeld => ?_)
                · exact HC.out _ T6.kp
                clear hK K
                try simp only [Act.put, List.setIfInBounds_toArray, List.set_cons_zero, List.set_cons_succ]
                refine wpAnyH_take (i := 22) (oi := Oper.mk (some 7) _ _ _ _ _) (v := ?v22f6) rfl (by kernel_rfl) (by kernel_rfl) (by kernel_rfl) (fun _ _ _ h => h) (Or.inl ⟨by rfl, ?hy22f6⟩) (by assumption) ?rest22f6
                case hy22f6 => (intro w0 hSw; (try dsimp only at hSw); go_simp; try with_reducible rfl)
                try simp only [Act.put, List.setIfInBounds_toArray, List.set_cons_zero, List.set_cons_succ]
                refine wpAnyH_take (i := 23) (oi := Oper.mk (some 8) _ _ _ _ _) (v := ?v23f6) rfl (by kernel_rfl) (by kernel_rfl) (by kernel_rfl) (fun _ _ _ h => h) (Or.inl ⟨by rfl, ?hy23f6⟩) (by assumption) ?rest23f6
                case hy23f6 => (intro w0 hSw; (try dsimp only at hSw); go_simp; try with_reducible rfl)
                try simp only [Act.put, List.setIfInBounds_toArray, List.set_cons_zero, List.set_cons_succ]
                refine wpAnyH_take (i := 24) (oi := Oper.mk (some 9) _ _ _ _ _) (v := ?v24f6) rfl (by kernel_rfl) (by kernel_rfl) (by kernel_rfl) (fun _ _ _ h => h) (Or.inl ⟨by rfl, ?hy24f6⟩) (by assumption) ?rest24f6
                case hy24f6 => (intro w0 hSw; (try dsimp only at hSw); go_simp; try with_reducible rfl)
                try simp only [Act.put, List.setIfInBounds_toArray, List.set_cons_zero, List.set_cons_succ]
                refine wpAnyH_done (by kernel_rfl) ?_ _
                refine NoPanic.normal ?_
                have HX := HF.out _ _ _ _ T6
                clear T0 T1 T2 T3 T4 T5 T6 hHeld0
                go_wp2
                go_roundw
                case rel => exact ⟨k + 1, by omega, by go_num, HX⟩
                case measure => simp [intOf]; omega
            · go_simp
              go_wp2_with fail
              obtain ⟨V2, HV2⟩ : ∃ V2, Hid (V2 = V1.alloc (.cells #[.int .i64 t.c] 3)) := ⟨_, rfl⟩
              have T2 := T1.alloc (.cells #[.int .i64 t.c] 3)
              have EC2 := bt_new T1 (t.c)
              have EA2 := EA1.alloc (.cells #[.int .i64 t.c] 3)
              rw [← HV2.out] at T2 EC2 EA2
              rw [← HV2.out]
              clear HV2
              refine hK.out _ _ ?_ (fun hHeld => ?_)
              · exact HC.out _ T2.kp
              clear hK K
              try simp only [Act.put, List.setIfInBounds_toArray, List.set_cons_zero, List.set_cons_succ]
              refine wpAnyH_ready (rs := [3, 12]) (by kernel_rfl) (by simp) ?_
              refine AllReadyH.cons (o := Oper.mk (some 40) _ _ _ _ _) rfl (fun K hK => ?_) (AllReadyH.cons (o := Oper.mk (some 49) _ _ _ _ _) rfl (fun K hK => ?_) AllReadyH.nil)
              · refine step_append_num V2 (by rfl) _ _ 34 rfl w2.heap.size i0 Try.underlying34 HI.out.1 HI.out.2.1 HI.out.2.2.1 HI.out.2.2.2 _ k X rfl T2.rs _ (n) rfl EA2.blk (by omega) T2.kp.size ?_
                intro v3 V3 R3 G3 U3
                have T3 := T2.ofS G3 R3 U3
                have EC3 := EC2.ofS G3 U3
                refine hK.out _ _ ?_ (fun hHeld => ?_)
                · exact HC.out _ T3.kp
                clear hK K
                try simp only [Act.put, List.setIfInBounds_toArray, List.set_cons_zero, List.set_cons_succ]
                refine wpAnyH_ready (rs := [12]) (by kernel_rfl) (by simp) ?_
                refine AllReadyH.cons (o := Oper.mk (some 49) _ _ _ _ _) rfl (fun K hK => ?_) AllReadyH.nil
                go_simp
                go_wp2_with fail
                obtain ⟨V4, HV4⟩ : ∃ V4, Hid (V4 = V3.alloc (.cells #[.int .i64 mm] 3)) := ⟨_, rfl⟩
                have T4 := T3.alloc (.cells #[.int .i64 mm] 3)
                have EB4 := bt_new T3 (mm)
                have EC4 := EC3.alloc (.cells #[.int .i64 mm] 3)
                rw [← HV4.out] at T4 EB4 EC4
                rw [← HV4.out]
                clear HV4
                refine hK.out _ _ ?_ (fun hHeld => ?_)
                · exact HC.out _ T4.kp
                clear hK K
                try simp only [Act.put, List.setIfInBounds_toArray, List.set_cons_zero, List.set_cons_succ]
                refine wpAnyH_ready (rs := [13]) (by kernel_rfl) (by simp) ?_
                refine AllReadyH.cons (o := Oper.mk (some 50) _ _ _ _ _) rfl (fun K hK => ?_) AllReadyH.nil
                refine step_append_num V4 (by rfl) _ _ 34 rfl w2.heap.size i0 Try.underlying34 HI.out.1 HI.out.2.1 HI.out.2.2.1 HI.out.2.2.2 _ k Y rfl T4.rm _ (mm) rfl EB4.blk (by omega) T4.kp.size ?_
                intro v5 V5 R5 G5 U5
                have T5 := T4.ofM G5 R5 U5
                have EC5 := EC4.ofM G5 U5
                refine hK.out _ _ ?_ (fun hHeld => ?_)
                · exact HC.out _ T5.kp
                clear hK K
                try simp only [Act.put, List.setIfInBounds_toArray, List.set_cons_zero, List.set_cons_succ]
                refine wpAnyH_ready (rs := [21]) (by kernel_rfl) (by simp) ?_
                refine AllReadyH.cons (o := Oper.mk (some 58) _ _ _ _ _) rfl (fun K hK => ?_) AllReadyH.nil
                refine step_append_num V5 (by rfl) _ _ 34 rfl w2.heap.size i0 Try.underlying34 HI.out.1 HI.out.2.1 HI.out.2.2.1 HI.out.2.2.2 _ k ((cyc L).take k) rfl T5.ra _ (t.c) rfl EC5.blk (by omega) T5.kp.size ?_
                intro v6 V6 R6 G6 U6
                have T6 := T5.ofA G6 R6 U6
                refine hK.out _ _ ?_ (fun hHeld => ?_)
                · exact HC.out _ T6.kp
                clear hK K
                try simp only [Act.put, List.setIfInBounds_toArray, List.set_cons_zero, List.set_cons_succ]
                refine wpAnyH_take (i := 22) (oi := Oper.mk (some 7) _ _ _ _ _) (v := ?v22f7) rfl (by kernel_rfl) (by kernel_rfl) (by kernel_rfl) (fun _ _ _ h => h) (Or.inl ⟨by rfl, ?hy22f7⟩) (by assumption) ?rest22f7
                case hy22f7 => (intro w0 hSw; (try dsimp only at hSw); go_simp; try with_reducible rfl)
                try simp only [Act.put, List.setIfInBounds_toArray, List.set_cons_zero, List.set_cons_succ]
                refine wpAnyH_take (i := 23) (oi := Oper.mk (some 8) _ _ _ _ _) (v := ?v23f7) rfl (by kernel_rfl) (by kernel_rfl) (by kernel_rfl) (fun _ _ _ h => h) (Or.inl ⟨by rfl, ?hy23f7⟩) (by assumption) ?rest23f7
                case hy23f7 => (intro w0 hSw; (try dsimp only at hSw); go_simp; try with_reducible rfl)
                try simp only [Act.put, List.setIfInBounds_toArray, List.set_cons_zero, List.set_cons_succ]
                refine wpAnyH_take (i := 24) (oi := Oper.mk (some 9) _ _ _ _ _) (v := ?v24f7) rfl (by kernel_rfl) (by kernel_rfl) (by kernel_rfl) (fun _ _ _ h => h) (Or.inl ⟨by rfl, ?hy24f7⟩) (by assumption) ?rest24f7
                case hy24f7 => (intro w0 hSw; (try dsimp only at hSw); go_simp; try with_reducible rfl)
                try simp only [Act.put, List.setIfInBounds_toArray, List.set_cons_zero, List.set_cons_succ]
                refine wpAnyH_done (by kernel_rfl) ?_ _
                refine NoPanic.normal ?_
                have HX := HF.out _ _ _ _ T6
                clear T0 T1 T2 T3 T4 T5 T6 hHeld0
                go_wp2
                go_roundw
                case rel => exact ⟨k + 1, by omega, by go_num, HX⟩
                case measure => simp [intOf]; omega
              · go_simp
                go_wp2_with fail
                obtain ⟨V3, HV3⟩ : ∃ V3, Hid (V3 = V2.alloc (.cells #[.int .i64 mm] 3)) := ⟨_, rfl⟩
                have T3 := T2.alloc (.cells #[.int .i64 mm] 3)
                have EB3 := bt_new T2 (mm)
                have EA3 := EA2.alloc (.cells #[.int .i64 mm] 3)
                have EC3 := EC2.alloc (.cells #[.int .i64 mm] 3)
                rw [← HV3.out] at T3 EB3 EA3 EC3
                rw [← HV3.out]
                clear HV3
                refine hK.out _ _ ?_ (fun hHeld => ?_)
                · exact HC.out _ T3.kp
                clear hK K
                try simp only [Act.put, List.setIfInBounds_toArray, List.set_cons_zero, List.set_cons_succ]
                refine wpAnyH_ready (rs := [3]) (by kernel_rfl) (by simp) ?_
                refine AllReadyH.cons (o := Oper.mk (some 40) _ _ _ _ _) rfl (fun K hK => ?_) AllReadyH.nil
                refine step_append_num V3 (by rfl) _ _ 34 rfl w2.heap.size i0 Try.underlying34 HI.out.1 HI.out.2.1 HI.out.2.2.1 HI.out.2.2.2 _ k X rfl T3.rs _ (n) rfl EA3.blk (by omega) T3.kp.size ?_
                intro v4 V4 R4 G4 U4
                have T4 := T3.ofS G4 R4 U4
                have EB4 := EB3.ofS G4 U4
                have EC4 := EC3.ofS G4 U4
                refine hK.out _ _ ?_ (fun hHeld => ?_)
                · exact HC.out _ T4.kp
                clear hK K
                try simp only [Act.put, List.setIfInBounds_toArray, List.set_cons_zero, List.set_cons_succ]
                refine wpAnyH_ready (rs := [13]) (by kernel_rfl) (by simp) ?_
                refine AllReadyH.cons (o := Oper.mk (some 50) _ _ _ _ _) rfl (fun K hK => ?_) AllReadyH.nil
                refine step_append_num V4 (by rfl) _ _ 34 rfl w2.heap.size i0 Try.underlying34 HI.out.1 HI.out.2.1 HI.out.2.2.1 HI.out.2.2.2 _ k Y rfl T4.rm _ (mm) rfl EB4.blk (by omega) T4.kp.size ?_
                intro v5 V5 R5 G5 U5
                have T5 := T4.ofM G5 R5 U5
                have EC5 := EC4.ofM G5 U5
                refine hK.out _ _ ?_ (fun hHeld => ?_)
                · exact HC.out _ T5.kp
                clear hK K
                try simp only [Act.put, List.setIfInBounds_toArray, List.set_cons_zero, List.set_cons_succ]
                refine wpAnyH_ready (rs := [21]) (by kernel_rfl) (by simp) ?_
                refine AllReadyH.cons (o := Oper.mk (some 58) _ _ _ _ _) rfl (fun K hK => ?_) AllReadyH.nil
                refine step_append_num V5 (by rfl) _ _ 34 rfl w2.heap.size i0 Try.underlying34 HI.out.1 HI.out.2.1 HI.out.2.2.1 HI.out.2.2.2 _ k ((cyc L).take k) rfl T5.ra _ (t.c) rfl EC5.blk (by omega) T5.kp.size ?_
                intro v6 V6 R6 G6 U6
                have T6 := T5.ofA G6 R6 U6
                refine hK.out _ _ ?_ (fun hHeld => ?_)
                · exact HC.out _ T6.kp
                clear hK K
                try simp only [Act.put, List.setIfInBounds_toArray, List.set_cons_zero, List.set_cons_succ]
                refine wpAnyH_take (i := 22) (oi := Oper.mk (some 7) _ _ _ _ _) (v := ?v22f8) rfl (by kernel_rfl) (by kernel_rfl) (by kernel_rfl) (fun _ _ _ h => h) (Or.inl ⟨by rfl, ?hy22f8⟩) (by assumption) ?rest22f8
                case hy22f8 => (intro w0 hSw; (try dsimp only at hSw); go_simp; try with_reducible rfl)
                try simp only [Act.put, List.setIfInBounds_toArray, List.set_cons_zero, List.set_cons_succ]
                refine wpAnyH_take (i := 23) (oi := Oper.mk (some 8) _ _ _ _ _) (v := ?v23f8) rfl (by kernel_rfl) (by kernel_rfl) (by kernel_rfl) (fun _ _ _ h => h) (Or.inl ⟨by rfl, ?hy23f8⟩) (by assumption) ?rest23f8
                case hy23f8 => (intro w0 hSw; (try dsimp only at hSw); go_simp; try with_reducible rfl)
                try simp only [Act.put, List.setIfInBounds_toArray, List.set_cons_zero, List.set_cons_succ]
                refine wpAnyH_take (i := 24) (oi := Oper.mk (some 9) _ _ _ _ _) (v := ?v24f8) rfl (by kernel_rfl) (by kernel_rfl) (by kernel_rfl) (fun _ _ _ h => h) (Or.inl ⟨by rfl, ?hy24f8⟩) (by assumption) ?rest24f8
                case hy24f8 => (intro w0 hSw; (try dsimp only at hSw); go_simp; try with_reducible rfl)
                try simp only [Act.put, List.setIfInBounds_toArray, List.set_cons_zero, List.set_cons_succ]
                refine wpAnyH_done (by kernel_rfl) ?_ _
                refine NoPanic.normal ?_
                have HX := HF.out _ _ _ _ T6
                clear T0 T1 T2 T3 T4 T5 T6 hHeld0
                go_wp2
                go_roundw
                case rel => exact ⟨k + 1, by omega, by go_num, HX⟩
                case measure => simp [intOf]; omega
          · go_simp
            go_wp2_with fail
            obtain ⟨V1, HV1⟩ : ∃ V1, Hid (V1 = V0.alloc (.cells #[.int .i64 mm] 3)) := ⟨_, rfl⟩
            have T1 := T0.alloc (.cells #[.int .i64 mm] 3)
            have EB1 := bt_new T0 (mm)
            rw [← HV1.out] at T1 EB1
            rw [← HV1.out]
            clear HV1
            refine hK.out _ _ ?_ (fun hHeld => ?_)
            · exact HC.out _ T1.kp
            clear hK K
            try simp only [Act.put, List.setIfInBounds_toArray, List.set_cons_zero, List.set_cons_succ]
            refine wpAnyH_ready (rs := [2, 20]) (by kernel_rfl) (by simp) ?_
            refine AllReadyH.cons (o := Oper.mk (some 39) _ _ _ _ _) rfl (fun K hK => ?_) (AllReadyH.cons (o := Oper.mk (some 57) _ _ _ _ _) rfl (fun K hK => ?_) AllReadyH.nil)
            · go_simp
              go_wp2_with fail
              obtain ⟨V2, HV2⟩ : ∃ V2, Hid (V2 = V1.alloc (.cells #[.int .i64 n] 3)) := ⟨_, rfl⟩
              have T2 := T1.alloc (.cells #[.int .i64 n] 3)
              have EA2 := bt_new T1 (n)
              have EB2 := EB1.alloc (.cells #[.int .i64 n] 3)
              rw [← HV2.out] at T2 EA2 EB2
              rw [← HV2.out]
              clear HV2
              refine hK.out _ _ ?_ (fun hHeld => ?_)
              · exact HC.out _ T2.kp
              clear hK K
              try simp only [Act.put, List.setIfInBounds_toArray, List.set_cons_zero, List.set_cons_succ]
              refine wpAnyH_ready (rs := [3, 20]) (by kernel_rfl) (by simp) ?_
              refine AllReadyH.cons (o := Oper.mk (some 40) _ _ _ _ _) rfl (fun K hK => ?_) (AllReadyH.cons (o := Oper.mk (some 57) _ _ _ _ _) rfl (fun K hK => ?_) AllReadyH.nil)
              · refine step_append_num V2 (by rfl) _ _ 34 rfl w2.heap.size i0 Try.underlying34 HI.out.1 HI.out.2.1 HI.out.2.2.1 HI.out.2.2.2 _ k X rfl T2.rs _ (n) rfl EA2.blk (by omega) T2.kp.size ?_
                intro v3 V3 R3 G3 U3
                have T3 := T2.ofS G3 R3 U3
                have EB3 := EB2.ofS G3 U3
                refine hK.out _ _ ?_ (fun hHeld => ?_)
                · exact HC.out _ T3.kp
                clear hK K
                try simp only [Act.put, List.setIfInBounds_toArray, List.set_cons_zero, List.set_cons_succ]
                refine wpAnyH_ready (rs := [13, 20]) (by kernel_rfl) (by simp) ?_
                refine AllReadyH.cons (o := Oper.mk (some 50) _ _ _ _ _) rfl (fun K hK => ?_) (AllReadyH.cons (o := Oper.mk (some 57) _ _ _ _ _) rfl (fun K hK => ?_) AllReadyH.nil)
                · refine step_append_num V3 (by rfl) _ _ 34 rfl w2.heap.size i0 Try.underlying34 HI.out.1 HI.out.2.1 HI.out.2.2.1 HI.out.2.2.2 _ k Y rfl T3.rm _ (mm) rfl EB3.blk (by omega) T3.kp.size ?_
                  intro v4 V4 R4 G4 U4
                  have T4 := T3.ofM G4 R4 U4
                  refine hK.out _ _ ?_ (fun hHeld => ?_)
                  · exact HC.out _ T4.kp
                  clear hK K
                  try simp only [Act.put, List.setIfInBounds_toArray, List.set_cons_zero, List.set_cons_succ]
                  refine wpAnyH_ready (rs := [20]) (by kernel_rfl) (by simp) ?_
                  refine AllReadyH.cons (o := Oper.mk (some 57) _ _ _ _ _) rfl (fun K hK => ?_) AllReadyH.nil
                  go_simp
                  go_wp2_with fail
                  obtain ⟨V5, HV5⟩ : ∃ V5, Hid (V5 = V4.alloc (.cells #[.int .i64 t.c] 3)) := ⟨_, rfl⟩
                  have T5 := T4.alloc (.cells #[.int .i64 t.c] 3)
                  have EC5 := bt_new T4 (t.c)
                  rw [← HV5.out] at T5 EC5
                  rw [← HV5.out]
                  clear HV5
                  refine hK.out _ _ ?_ (fun hHeld => ?_)
                  · exact HC.out _ T5.kp
                  clear hK K
                  try simp only [Act.put, List.setIfInBounds_toArray, List.set_cons_zero, List.set_cons_succ]
                  refine wpAnyH_ready (rs := [21]) (by kernel_rfl) (by simp) ?_
                  refine AllReadyH.cons (o := Oper.mk (some 58) _ _ _ _ _) rfl (fun K hK => ?_) AllReadyH.nil
                  refine step_append_num V5 (by rfl) _ _ 34 rfl w2.heap.size i0 Try.underlying34 HI.out.1 HI.out.2.1 HI.out.2.2.1 HI.out.2.2.2 _ k ((cyc L).take k) rfl T5.ra _ (t.c) rfl EC5.blk (by omega) T5.kp.size ?_
                  intro v6 V6 R6 G6 U6
                  have T6 := T5.ofA G6 R6 U6
                  refine hK.out _ _ ?_ (fun hHeld => ?_)
                  · exact HC.out _ T6.kp
                  clear hK K
                  try simp only [Act.put, List.setIfInBounds_toArray, List.set_cons_zero, List.set_cons_succ]
                  refine wpAnyH_take (i := 22) (oi := Oper.mk (some 7) _ _ _ _ _) (v := ?v22f9) rfl (by kernel_rfl) (by kernel_rfl) (by kernel_rfl) (fun _ _ _ h => h) (Or.inl ⟨by rfl, ?hy22f9⟩) (by assumption) ?rest22f9
                  case hy22f9 => (intro w0 hSw; (try dsimp only at hSw); go_simp; try with_reducible rfl)
                  try simp only [Act.put, List.setIfInBounds_toArray, List.set_cons_zero, List.set_cons_succ]
                  refine wpAnyH_take (i := 23) (oi := Oper.mk (some 8) _ _ _ _ _) (v := ?v23f9) rfl (by kernel_rfl) (by kernel_rfl) (by kernel_rfl) (fun _ _ _ h => h) (Or.inl ⟨by rfl, ?hy23f9⟩) (by assumption) ?rest23f9
                  case hy23f9 => (intro w0 hSw; (try dsimp only at hSw); go_simp; try with_reducible rfl)
                  try simp only [Act.put, List.setIfInBounds_toArray, List.set_cons_zero, List.set_cons_succ]
                  refine wpAnyH_take (i := 24) (oi := Oper.mk (some 9) _ _ _ _ _) (v := ?v24f9) rfl (by kernel_rfl) (by kernel_rfl) (by kernel_rfl) (fun _ _ _ h => h) (Or.inl ⟨by rfl, ?hy24f9⟩) (by assumption) ?rest24f9
                  case hy24f9 => (intro w0 hSw; (try dsimp only at hSw); go_simp; try with_reducible rfl)
                  try simp only [Act.put, List.setIfInBounds_toArray, List.set_cons_zero, List.set_cons_succ]
                  refine wpAnyH_done (by kernel_rfl) ?_ _
                  refine NoPanic.normal ?_
                  have HX := HF.out _ _ _ _ T6
                  clear T0 T1 T2 T3 T4 T5 T6 hHeld0
                  go_wp2
                  go_roundw
                  case rel => exact ⟨k + 1, by omega, by go_num, HX⟩
                  case measure => simp [intOf]; omega
                · go_simp
                  go_wp2_with fail
                  obtain ⟨V4, HV4⟩ : ∃ V4, Hid (V4 = V3.alloc (.cells #[.int .i64 t.c] 3)) := ⟨_, rfl⟩
                  have T4 := T3.alloc (.cells #[.int .i64 t.c] 3)
                  have EC4 := bt_new T3 (t.c)
                  have EB4 := EB3.alloc (.cells #[.int .i64 t.c] 3)
                  rw [← HV4.out] at T4 EC4 EB4
                  rw [← HV4.out]
                  clear HV4
                  refine hK.out _ _ ?_ (fun hHeld => ?_)
                  · exact HC.out _ T4.kp
                  clear hK K
                  try simp only [Act.put, List.setIfInBounds_toArray, List.set_cons_zero, List.set_cons_succ]
                  refine wpAnyH_ready (rs := [13]) (by kernel_rfl) (by simp) ?_
                  refine AllReadyH.cons (o := Oper.mk (some 50) _ _ _ _ _) rfl (fun K hK => ?_) AllReadyH.nil
                  refine step_append_num V4 (by rfl) _ _ 34 rfl w2.heap.size i0 Try.underlying34 HI.out.1 HI.out.2.1 HI.out.2.2.1 HI.out.2.2.2 _ k Y rfl T4.rm _ (mm) rfl EB4.blk (by omega) T4.kp.size ?_
                  intro v5 V5 R5 G5 U5
                  have T5 := T4.ofM G5 R5 U5
                  have EC5 := EC4.ofM G5 U5
                  refine hK.out _ _ ?_ (fun hHeld => ?_)
                  · exact HC.out _ T5.kp
                  clear hK K
                  try simp only [Act.put, List.setIfInBounds_toArray, List.set_cons_zero, List.set_cons_succ]
                  refine wpAnyH_ready (rs := [21]) (by kernel_rfl) (by simp) ?_
                  refine AllReadyH.cons (o := Oper.mk (some 58) _ _ _ _ _) rfl (fun K hK => ?_) AllReadyH.nil
                  refine step_append_num V5 (by rfl) _ _ 34 rfl w2.heap.size i0 Try.underlying34 HI.out.1 HI.out.2.1 HI.out.2.2.1 HI.out.2.2.2 _ k ((cyc L).take k) rfl T5.ra _ (t.c) rfl EC5.blk (by omega) T5.kp.size ?_
                  intro v6 V6 R6 G6 U6
                  have T6 := T5.ofA G6 R6 U6
                  refine hK.out _ _ ?_ (fun hHeld => ?_)
                  · exact HC.out _ T6.kp
                  clear hK K
                  try simp only [Act.put, List.setIfInBounds_toArray, List.set_cons_zero, List.set_cons_succ]
                  refine wpAnyH_take (i := 22) (oi := Oper.mk (some 7) _ _ _ _ _) (v := ?v22f10) rfl (by kernel_rfl) (by kernel_rfl) (by kernel_rfl) (fun _ _ _ h => h) (Or.inl ⟨by rfl, ?hy22f10⟩) (by assumption) ?rest22f10
                  case hy22f10 => (intro w0 hSw; (try dsimp only at hSw); go_simp; try with_reducible rfl)
                  try simp only [Act.put, List.setIfInBounds_toArray, List.set_cons_zero, List.set_cons_succ]
                  refine wpAnyH_take (i := 23) (oi := Oper.mk (some 8) _ _ _ _ _) (v := ?v23f10) rfl (by kernel_rfl) (by kernel_rfl) (by kernel_rfl) (fun _ _ _ h => h) (Or.inl ⟨by rfl, ?hy23f10⟩) (by assumption) ?rest23f10
                  case hy23f10 => (intro w0 hSw; (try dsimp only at hSw); go_simp; try with_reducible rfl)
                  try simp only [Act.put, List.setIfInBounds_toArray, List.set_cons_zero, List.set_cons_succ]
                  refine wpAnyH_take (i := 24) (oi := Oper.mk (some 9) _ _ _ _ _) (v := ?v24f10) rfl (by kernel_rfl) (by kernel_rfl) (by kernel_rfl) (fun _ _ _ h => h) (Or.inl ⟨by rfl, ?hy24f10⟩) (by assumption) ?rest24f10
                  case hy24f10 => (intro w0 hSw; (try dsimp only at hSw); go_simp; try with_reducible rfl)
                  try simp only [Act.put, List.setIfInBounds_toArray, List.set_cons_zero, List.set_cons_succ]
                  refine wpAnyH_done (by kernel_rfl) ?_ _
                  refine NoPanic.normal ?_
                  have HX := HF.out _ _ _ _ T6
                  clear T0 T1 T2 T3 T4 T5 T6 hHeld0
                  go_wp2
                  go_roundw
                  case rel => exact ⟨k + 1, by omega, by go_num, HX⟩
                  case measure => simp [intOf]; omega
              · go_simp
                go_wp2_with fail
                obtain ⟨V3, HV3⟩ : ∃ V3, Hid (V3 = V2.alloc (.cells #[.int .i64 t.c] 3)) := ⟨_, rfl⟩
                have T3 := T2.alloc (.cells #[.int .i64 t.c] 3)
                have EC3 := bt_new T2 (t.c)
                have EA3 := EA2.alloc (.cells #[.int .i64 t.c] 3)
                have EB3 := EB2.alloc (.cells #[.int .i64 t.c] 3)
                rw [← HV3.out] at T3 EC3 EA3 EB3
                rw [← HV3.out]
                clear HV3
                refine hK.out _ _ ?_ (fun hHeld => ?_)
                · exact HC.out _ T3.kp
                clear hK K
                try simp only [Act.put, List.setIfInBounds_toArray, List.set_cons_zero, List.set_cons_succ]
                refine wpAnyH_ready (rs := [3]) (by kernel_rfl) (by simp) ?_
                refine AllReadyH.cons (o := Oper.mk (some 40) _ _ _ _ _) rfl (fun K hK => ?_) AllReadyH.nil
                refine step_append_num V3 (by rfl) _ _ 34 rfl w2.heap.size i0 Try.underlying34 HI.out.1 HI.out.2.1 HI.out.2.2.1 HI.out.2.2.2 _ k X rfl T3.rs _ (n) rfl EA3.blk (by omega) T3.kp.size ?_
                intro v4 V4 R4 G4 U4
                have T4 := T3.ofS G4 R4 U4
                have EB4 := EB3.ofS G4 U4
                have EC4 := EC3.ofS G4 U4
                refine hK.out _ _ ?_ (fun hHeld => ?_)
                · exact HC.out _ T4.kp
                clear hK K
                try simp only [Act.put, List.setIfInBounds_toArray, List.set_cons_zero, List.set_cons_succ]
                refine wpAnyH_ready (rs := [13]) (by kernel_rfl) (by simp) ?_
                refine AllReadyH.cons (o := Oper.mk (some 50) _ _ _ _ _) rfl (fun K hK => ?_) AllReadyH.nil
                refine step_append_num V4 (by rfl) _ _ 34 rfl w2.heap.size i0 Try.underlying34 HI.out.1 HI.out.2.1 HI.out.2.2.1 HI.out.2.2.2 _ k Y rfl T4.rm _ (mm) rfl EB4.blk (by omega) T4.kp.size ?_
                intro v5 V5 R5 G5 U5
                have T5 := T4.ofM G5 R5 U5
                have EC5 := EC4.ofM G5 U5
                refine hK.out _ _ ?_ (fun hHeld => ?_)
                · exact HC.out _ T5.kp
                clear hK K
                try simp only [Act.put, List.setIfInBounds_toArray, List.set_cons_zero, List.set_cons_succ]
                refine wpAnyH_ready (rs := [21]) (by kernel_rfl) (by simp) ?_
                refine AllReadyH.cons (o := Oper.mk (some 58) _ _ _ _ _) rfl (fun K hK => ?_) AllReadyH.nil
                refine step_append_num V5 (by rfl) _ _ 34 rfl w2.heap.size i0 Try.underlying34 HI.out.1 HI.out.2.1 HI.out.2.2.1 HI.out.2.2.2 _ k ((cyc L).take k) rfl T5.ra _ (t.c) rfl EC5.blk (by omega) T5.kp.size ?_
                intro v6 V6 R6 G6 U6
                have T6 := T5.ofA G6 R6 U6
                refine hK.out _ _ ?_ (fun hHeld => ?_)
                · exact HC.out _ T6.kp
                clear hK K
                try simp only [Act.put, List.setIfInBounds_toArray, List.set_cons_zero, List.set_cons_succ]
                refine wpAnyH_take (i := 22) (oi := Oper.mk (some 7) _ _ _ _ _) (v := ?v22f11) rfl (by kernel_rfl) (by kernel_rfl) (by kernel_rfl) (fun _ _ _ h => h) (Or.inl ⟨by rfl, ?hy22f11⟩) (by assumption) ?rest22f11
                case hy22f11 => (intro w0 hSw; (try dsimp only at hSw); go_simp; try with_reducible rfl)
                try simp only [Act.put, List.setIfInBounds_toArray, List.set_cons_zero, List.set_cons_succ]
                refine wpAnyH_take (i := 23) (oi := Oper.mk (some 8) _ _ _ _ _) (v := ?v23f11) rfl (by kernel_rfl) (by kernel_rfl) (by kernel_rfl) (fun _ _ _ h => h) (Or.inl ⟨by rfl, ?hy23f11⟩) (by assumption) ?rest23f11
                case hy23f11 => (intro w0 hSw; (try dsimp only at hSw); go_simp; try with_reducible rfl)
                try simp only [Act.put, List.setIfInBounds_toArray, List.set_cons_zero, List.set_cons_succ]
                refine wpAnyH_take (i := 24) (oi := Oper.mk (some 9) _ _ _ _ _) (v := ?v24f11) rfl (by kernel_rfl) (by kernel_rfl) (by kernel_rfl) (fun _ _ _ h => h) (Or.inl ⟨by rfl, ?hy24f11⟩) (by assumption) ?rest24f11
                case hy24f11 => (intro w0 hSw; (try dsimp only at hSw); go_simp; try with_reducible rfl)
                try simp only [Act.put, List.setIfInBounds_toArray, List.set_cons_zero, List.set_cons_succ]
                refine wpAnyH_done (by kernel_rfl) ?_ _
                refine NoPanic.normal ?_
                have HX := HF.out _ _ _ _ T6
                clear T0 T1 T2 T3 T4 T5 T6 hHeld0
                go_wp2
                go_roundw
                case rel => exact ⟨k + 1, by omega, by go_num, HX⟩
                case measure => simp [intOf]; omega
            · go_simp
              go_wp2_with fail
              obtain ⟨V2, HV2⟩ : ∃ V2, Hid (V2 = V1.alloc (.cells #[.int .i64 t.c] 3)) := ⟨_, rfl⟩
              have T2 := T1.alloc (.cells #[.int .i64 t.c] 3)
              have EC2 := bt_new T1 (t.c)
              have EB2 := EB1.alloc (.cells #[.int .i64 t.c] 3)
              rw [← HV2.out] at T2 EC2 EB2
              rw [← HV2.out]
              clear HV2
              refine hK.out _ _ ?_ (fun hHeld => ?_)
              · exact HC.out _ T2.kp
              clear hK K
              try simp only [Act.put, List.setIfInBounds_toArray, List.set_cons_zero, List.set_cons_succ]
              refine wpAnyH_ready (rs := [2]) (by kernel_rfl) (by simp) ?_
              refine AllReadyH.cons (o := Oper.mk (some 39) _ _ _ _ _) rfl (fun K hK => ?_) AllReadyH.nil
              go_simp
              go_wp2_with fail
              obtain ⟨V3, HV3⟩ : ∃ V3, Hid (V3 = V2.alloc (.cells #[.int .i64 n] 3)) := ⟨_, rfl⟩
              have T3 := T2.alloc (.cells #[.int .i64 n] 3)
              have EA3 := bt_new T2 (n)
              have EB3 := EB2.alloc (.cells #[.int .i64 n] 3)
              have EC3 := EC2.alloc (.cells #[.int .i64 n] 3)
              rw [← HV3.out] at T3 EA3 EB3 EC3
              rw [← HV3.out]
              clear HV3
              refine hK.out _ _ ?_ (fun hHeld => ?_)
              · exact HC.out _ T3.kp
              clear hK K
              try simp only [Act.put, List.setIfInBounds_toArray, List.set_cons_zero, List.set_cons_succ]
              refine wpAnyH_ready (rs := [3]) (by kernel_rfl) (by simp) ?_
              refine AllReadyH.cons (o := Oper.mk (some 40) _ _ _ _ _) rfl (fun K hK => ?_) AllReadyH.nil
              refine step_append_num V3 (by rfl) _ _ 34 rfl w2.heap.size i0 Try.underlying34 HI.out.1 HI.out.2.1 HI.out.2.2.1 HI.out.2.2.2 _ k X rfl T3.rs _ (n) rfl EA3.blk (by omega) T3.kp.size ?_
              intro v4 V4 R4 G4 U4
              have T4 := T3.ofS G4 R4 U4
              have EB4 := EB3.ofS G4 U4
              have EC4 := EC3.ofS G4 U4
              refine hK.out _ _ ?_ (fun hHeld => ?_)
              · exact HC.out _ T4.kp
              clear hK K
              try simp only [Act.put, List.setIfInBounds_toArray, List.set_cons_zero, List.set_cons_succ]
              refine wpAnyH_ready (rs := [13]) (by kernel_rfl) (by simp) ?_
              refine AllReadyH.cons (o := Oper.mk (some 50) _ _ _ _ _) rfl (fun K hK => ?_) AllReadyH.nil
              refine step_append_num V4 (by rfl) _ _ 34 rfl w2.heap.size i0 Try.underlying34 HI.out.1 HI.out.2.1 HI.out.2.2.1 HI.out.2.2.2 _ k Y rfl T4.rm _ (mm) rfl EB4.blk (by omega) T4.kp.size ?_
              intro v5 V5 R5 G5 U5
              have T5 := T4.ofM G5 R5 U5
              have EC5 := EC4.ofM G5 U5
              refine hK.out _ _ ?_ (fun hHeld => ?_)
              · exact HC.out _ T5.kp
              clear hK K
              try simp only [Act.put, List.setIfInBounds_toArray, List.set_cons_zero, List.set_cons_succ]
              refine wpAnyH_ready (rs := [21]) (by kernel_rfl) (by simp) ?_
              refine AllReadyH.cons (o := Oper.mk (some 58) _ _ _ _ _) rfl (fun K hK => ?_) AllReadyH.nil
              refine step_append_num V5 (by rfl) _ _ 34 rfl w2.heap.size i0 Try.underlying34 HI.out.1 HI.out.2.1 HI.out.2.2.1 HI.out.2.2.2 _ k ((cyc L).take k) rfl T5.ra _ (t.c) rfl EC5.blk (by omega) T5.kp.size ?_
              intro v6 V6 R6 G6 U6
              have T6 := T5.ofA G6 R6 U6
              refine hK.out _ _ ?_ (fun hHeld => ?_)
              · exact HC.out _ T6.kp
              clear hK K
              try simp only [Act.put, List.setIfInBounds_toArray, List.set_cons_zero, List.set_cons_succ]
              refine wpAnyH_take (i := 22) (oi := Oper.mk (some 7) _ _ _ _ _) (v := ?v22f12) rfl (by kernel_rfl) (by kernel_rfl) (by kernel_rfl) (fun _ _ _ h => h) (Or.inl ⟨by rfl, ?hy22f12⟩) (by assumption) ?rest22f12
              case hy22f12 => (intro w0 hSw; (try dsimp only at hSw); go_simp; try with_reducible rfl)
              try simp only [Act.put, List.setIfInBounds_toArray, List.set_cons_zero, List.set_cons_succ]
              refine wpAnyH_take (i := 23) (oi := Oper.mk (some 8) _ _ _ _ _) (v := ?v23f12) rfl (by kernel_rfl) (by kernel_rfl) (by kernel_rfl) (fun _ _ _ h => h) (Or.inl ⟨by rfl, ?hy23f12⟩) (by assumption) ?rest23f12
              case hy23f12 => (intro w0 hSw; (try dsimp only at hSw); go_simp; try with_reducible rfl)
              try simp only [Act.put, List.setIfInBounds_toArray, List.set_cons_zero, List.set_cons_succ]
              refine wpAnyH_take (i := 24) (oi := Oper.mk (some 9) _ _ _ _ _) (v := ?v24f12) rfl (by kernel_rfl) (by kernel_rfl) (by kernel_rfl) (fun _ _ _ h => h) (Or.inl ⟨by rfl, ?hy24f12⟩) (by assumption) ?rest24f12
              case hy24f12 => (intro w0 hSw; (try dsimp only at hSw); go_simp; try with_reducible rfl)
              try simp only [Act.put, List.setIfInBounds_toArray, List.set_cons_zero, List.set_cons_succ]
              refine wpAnyH_done (by kernel_rfl) ?_ _
              refine NoPanic.normal ?_
              have HX := HF.out _ _ _ _ T6
              clear T0 T1 T2 T3 T4 T5 T6 hHeld0
              go_wp2
              go_roundw
              case rel => exact ⟨k + 1, by omega, by go_num, HX⟩
              case measure => simp [intOf]; omega
          · go_simp
            go_wp2_with fail
            obtain ⟨V1, HV1⟩ : ∃ V1, Hid (V1 = V0.alloc (.cells #[.int .i64 t.c] 3)) := ⟨_, rfl⟩
            have T1 := T0.alloc (.cells #[.int .i64 t.c] 3)
            have EC1 := bt_new T0 (t.c)
            rw [← HV1.out] at T1 EC1
            rw [← HV1.out]
            clear HV1
            refine hK.out _ _ ?_ (fun hHeld => ?_)
            · exact HC.out _ T1.kp
            clear hK K
            try simp only [Act.put, List.setIfInBounds_toArray, List.set_cons_zero, List.set_cons_succ]
            refine wpAnyH_ready (rs := [2, 12]) (by kernel_rfl) (by simp) ?_
            refine AllReadyH.cons (o := Oper.mk (some 39) _ _ _ _ _) rfl (fun K hK => ?_) (AllReadyH.cons (o := Oper.mk (some 49) _ _ _ _ _) rfl (fun K hK => ?_) AllReadyH.nil)
            · go_simp
              go_wp2_with fail
              obtain ⟨V2, HV2⟩ : ∃ V2, Hid (V2 = V1.alloc (.cells #[.int .i64 n] 3)) := ⟨_, rfl⟩
              have T2 := T1.alloc (.cells #[.int .i64 n] 3)
              have EA2 := bt_new T1 (n)
              have EC2 := EC1.alloc (.cells #[.int .i64 n] 3)
              rw [← HV2.out] at T2 EA2 EC2
              rw [← HV2.out]
              clear HV2
              refine hK.out _ _ ?_ (fun hHeld => ?_)
              · exact HC.out _ T2.kp
              clear hK K
              try simp only [Act.put, List.setIfInBounds_toArray, List.set_cons_zero, List.set_cons_succ]
              refine wpAnyH_ready (rs := [3, 12]) (by kernel_rfl) (by simp) ?_
              refine AllReadyH.cons (o := Oper.mk (some 40) _ _ _ _ _) rfl (fun K hK => ?_) (AllReadyH.cons (o := Oper.mk (some 49) _ _ _ _ _) rfl (fun K hK => ?_) AllReadyH.nil)
              · refine step_append_num V2 (by rfl) _ _ 34 rfl w2.heap.size i0 Try.underlying34 HI.out.1 HI.out.2.1 HI.out.2.2.1 HI.out.2.2.2 _ k X rfl T2.rs _ (n) rfl EA2.blk (by omega) T2.kp.size ?_
                intro v3 V3 R3 G3 U3
                have T3 := T2.ofS G3 R3 U3
                have EC3 := EC2.ofS G3 U3
                refine hK.out _ _ ?_ (fun hHeld => ?_)
                · exact HC.out _ T3.kp
                clear hK K
                try simp only [Act.put, List.setIfInBounds_toArray, List.set_cons_zero, List.set_cons_succ]
                refine wpAnyH_ready (rs := [12]) (by kernel_rfl) (by simp) ?_
                refine AllReadyH.cons (o := Oper.mk (some 49) _ _ _ _ _) rfl (fun K hK => ?_) AllReadyH.nil
                go_simp
                go_wp2_with fail
                obtain ⟨V4, HV4⟩ : ∃ V4, Hid (V4 = V3.alloc (.cells #[.int .i64 mm] 3)) := ⟨_, rfl⟩
                have T4 := T3.alloc (.cells #[.int .i64 mm] 3)
                have EB4 := bt_new T3 (mm)
                have EC4 := EC3.alloc (.cells #[.int .i64 mm] 3)
                rw [← HV4.out] at T4 EB4 EC4
                rw [← HV4.out]
                clear HV4
                refine hK.out _ _ ?_ (fun hHeld => ?_)
                · exact HC.out _ T4.kp
                clear hK K
                try simp only [Act.put, List.setIfInBounds_toArray, List.set_cons_zero, List.set_cons_succ]
                refine wpAnyH_ready (rs := [13]) (by kernel_rfl) (by simp) ?_
                refine AllReadyH.cons (o := Oper.mk (some 50) _ _ _ _ _) rfl (fun K hK => ?_) AllReadyH.nil
                refine step_append_num V4 (by rfl) _ _ 34 rfl w2.heap.size i0 Try.underlying34 HI.out.1 HI.out.2.1 HI.out.2.2.1 HI.out.2.2.2 _ k Y rfl T4.rm _ (mm) rfl EB4.blk (by omega) T4.kp.size ?_
                intro v5 V5 R5 G5 U5
                have T5 := T4.ofM G5 R5 U5
                have EC5 := EC4.ofM G5 U5
                refine hK.out _ _ ?_ (fun hHeld => ?_)
                · exact HC.out _ T5.kp
                clear hK K
                try simp only [Act.put, List.setIfInBounds_toArray, List.set_cons_zero, List.set_cons_succ]
                refine wpAnyH_ready (rs := [21]) (by kernel_rfl) (by simp) ?_
                refine AllReadyH.cons (o := Oper.mk (some 58) _ _ _ _ _) rfl (fun K hK => ?_) AllReadyH.nil
                refine step_append_num V5 (by rfl) _ _ 34 rfl w2.heap.size i0 Try.underlying34 HI.out.1 HI.out.2.1 HI.out.2.2.1 HI.out.2.2.2 _ k ((cyc L).take k) rfl T5.ra _ (t.c) rfl EC5.blk (by omega) T5.kp.size ?_
                intro v6 V6 R6 G6 U6
                have T6 := T5.ofA G6 R6 U6
                refine hK.out _ _ ?_ (fun hHeld => ?_)
                · exact HC.out _ T6.kp
                clear hK K
                try simp only [Act.put, List.setIfInBounds_toArray, List.set_cons_zero, List.set_cons_succ]
                refine wpAnyH_take (i := 22) (oi := Oper.mk (some 7) _ _ _ _ _) (v := ?v22f13) rfl (by kernel_rfl) (by kernel_rfl) (by kernel_rfl) (fun _ _ _ h => h) (Or.inl ⟨by rfl, ?hy22f13⟩) (by assumption) ?rest22f13
                case hy22f13 => (intro w0 hSw; (try dsimp only at hSw); go_simp; try with_reducible rfl)
                try simp only [Act.put, List.setIfInBounds_toArray, List.set_cons_zero, List.set_cons_succ]
                refine wpAnyH_take (i := 23) (oi := Oper.mk (some 8) _ _ _ _ _) (v := ?v23f13) rfl (by kernel_rfl) (by kernel_rfl) (by kernel_rfl) (fun _ _ _ h => h) (Or.inl ⟨by rfl, ?hy23f13⟩) (by assumption) ?rest23f13
                case hy23f13 => (intro w0 hSw; (try dsimp only at hSw); go_simp; try with_reducible rfl)
                try simp only [Act.put, List.setIfInBounds_toArray, List.set_cons_zero, List.set_cons_succ]
                refine wpAnyH_take (i := 24) (oi := Oper.mk (some 9) _ _ _ _ _) (v := ?v24f13) rfl (by kernel_rfl) (by kernel_rfl) (by kernel_rfl) (fun _ _ _ h => h) (Or.inl ⟨by rfl, ?hy24f13⟩) (by assumption) ?rest24f13
                case hy24f13 => (intro w0 hSw; (try dsimp only at hSw); go_simp; try with_reducible rfl)
                try simp only [Act.put, List.setIfInBounds_toArray, List.set_cons_zero, List.set_cons_succ]
                refine wpAnyH_done (by kernel_rfl) ?_ _
                refine NoPanic.normal ?_
                have HX := HF.out _ _ _ _ T6
                clear T0 T1 T2 T3 T4 T5 T6 hHeld0
                go_wp2
                go_roundw
                case rel => exact ⟨k + 1, by omega, by go_num, HX⟩
                case measure => simp [intOf]; omega
              · go_simp
                go_wp2_with fail
                obtain ⟨V3, HV3⟩ : ∃ V3, Hid (V3 = V2.alloc (.cells #[.int .i64 mm] 3)) := ⟨_, rfl⟩
                have T3 := T2.alloc (.cells #[.int .i64 mm] 3)
                have EB3 := bt_new T2 (mm)
                have EA3 := EA2.alloc (.cells #[.int .i64 mm] 3)
                have EC3 := EC2.alloc (.cells #[.int .i64 mm] 3)
                rw [← HV3.out] at T3 EB3 EA3 EC3
                rw [← HV3.out]
                clear HV3
                refine hK.out _ _ ?_ (fun hHeld => ?_)
                · exact HC.out _ T3.kp
                clear hK K
                try simp only [Act.put, List.setIfInBounds_toArray, List.set_cons_zero, List.set_cons_succ]
                refine wpAnyH_ready (rs := [3]) (by kernel_rfl) (by simp) ?_
                refine AllReadyH.cons (o := Oper.mk (some 40) _ _ _ _ _) rfl (fun K hK => ?_) AllReadyH.nil
                refine step_append_num V3 (by rfl) _ _ 34 rfl w2.heap.size i0 Try.underlying34 HI.out.1 HI.out.2.1 HI.out.2.2.1 HI.out.2.2.2 _ k X rfl T3.rs _ (n) rfl EA3.blk (by omega) T3.kp.size ?_
                intro v4 V4 R4 G4 U4
                have T4 := T3.ofS G4 R4 U4
                have EB4 := EB3.ofS G4 U4
                have EC4 := EC3.ofS G4 U4
                refine hK.out _ _ ?_ (fun hHeld => ?_)
                · exact HC.out _ T4.kp
                clear hK K
                try simp only [Act.put, List.setIfInBounds_toArray, List.set_cons_zero, List.set_cons_succ]
                refine wpAnyH_ready (rs := [13]) (by kernel_rfl) (by simp) ?_
                refine AllReadyH.cons (o := Oper.mk (some 50) _ _ _ _ _) rfl (fun K hK => ?_) AllReadyH.nil
                refine step_append_num V4 (by rfl) _ _ 34 rfl w2.heap.size i0 Try.underlying34 HI.out.1 HI.out.2.1 HI.out.2.2.1 HI.out.2.2.2 _ k Y rfl T4.rm _ (mm) rfl EB4.blk (by omega) T4.kp.size ?_
                intro v5 V5 R5 G5 U5
                have T5 := T4.ofM G5 R5 U5
                have EC5 := EC4.ofM G5 U5
                refine hK.out _ _ ?_ (fun hHeld => ?_)
                · exact HC.out _ T5.kp
                clear hK K
                try simp only [Act.put, List.setIfInBounds_toArray, List.set_cons_zero, List.set_cons_succ]
                refine wpAnyH_ready (rs := [21]) (by kernel_rfl) (by simp) ?_
                refine AllReadyH.cons (o := Oper.mk (some 58) _ _ _ _ _) rfl (fun K hK => ?_) AllReadyH.nil
                refine step_append_num V5 (by rfl) _ _ 34 rfl w2.heap.size i0 Try.underlying34 HI.out.1 HI.out.2.1 HI.out.2.2.1 HI.out.2.2.2 _ k ((cyc L).take k) rfl T5.ra _ (t.c) rfl EC5.blk (by omega) T5.kp.size ?_
                intro v6 V6 R6 G6 U6
                have T6 := T5.ofA G6 R6 U6
                refine hK.out _ _ ?_ (fun hHeld => ?_)
                · exact HC.out _ T6.kp
                clear hK K
                try simp only [Act.put, List.setIfInBounds_toArray, List.set_cons_zero, List.set_cons_succ]
                refine wpAnyH_take (i := 22) (oi := Oper.mk (some 7) _ _ _ _ _) (v := ?v22f14) rfl (by kernel_rfl) (by kernel_rfl) (by kernel_rfl) (fun _ _ _ h => h) (Or.inl ⟨by rfl, ?hy22f14⟩) (by assumption) ?rest22f14
                case hy22f14 => (intro w0 hSw; (try dsimp only at hSw); go_simp; try with_reducible rfl)
                try simp only [Act.put, List.setIfInBounds_toArray, List.set_cons_zero, List.set_cons_succ]
                refine wpAnyH_take (i := 23) (oi := Oper.mk (some 8) _ _ _ _ _) (v := ?v23f14) rfl (by kernel_rfl) (by kernel_rfl) (by kernel_rfl) (fun _ _ _ h => h) (Or.inl ⟨by rfl, ?hy23f14⟩) (by assumption) ?rest23f14
                case hy23f14 => (intro w0 hSw; (try dsimp only at hSw); go_simp; try with_reducible rfl)
                try simp only [Act.put, List.setIfInBounds_toArray, List.set_cons_zero, List.set_cons_succ]
                refine wpAnyH_take (i := 24) (oi := Oper.mk (some 9) _ _ _ _ _) (v := ?v24f14) rfl (by kernel_rfl) (by kernel_rfl) (by kernel_rfl) (fun _ _ _ h => h) (Or.inl ⟨by rfl, ?hy24f14⟩) (by assumption) ?rest24f14
                case hy24f14 => (intro w0 hSw; (try dsimp only at hSw); go_simp; try with_reducible rfl)
                try simp only [Act.put, List.setIfInBounds_toArray, List.set_cons_zero, List.set_cons_succ]
                refine wpAnyH_done (by kernel_rfl) ?_ _
                refine NoPanic.normal ?_
                have HX := HF.out _ _ _ _ T6
                clear T0 T1 T2 T3 T4 T5 T6 hHeld0
                go_wp2
                go_roundw
                case rel => exact ⟨k + 1, by omega, by go_num, HX⟩
                case measure => simp [intOf]; omega
            · go_simp
              go_wp2_with fail
              obtain ⟨V2, HV2⟩ : ∃ V2, Hid (V2 = V1.alloc (.cells #[.int .i64 mm] 3)) := ⟨_, rfl⟩
              have T2 := T1.alloc (.cells #[.int .i64 mm] 3)
              have EB2 := bt_new T1 (mm)
              have EC2 := EC1.alloc (.cells #[.int .i64 mm] 3)
              rw [← HV2.out] at T2 EB2 EC2
              rw [← HV2.out]
              clear HV2
              refine hK.out _ _ ?_ (fun hHeld => ?_)
              · exact HC.out _ T2.kp
              clear hK K
              try simp only [Act.put, List.setIfInBounds_toArray, List.set_cons_zero, List.set_cons_succ]
              refine wpAnyH_ready (rs := [2]) (by kernel_rfl) (by simp) ?_
              refine AllReadyH.cons (o := Oper.mk (some 39) _ _ _ _ _) rfl (fun K hK => ?_) AllReadyH.nil
              go_simp
              go_wp2_with fail
              obtain ⟨V3, HV3⟩ : ∃ V3, Hid (V3 = V2.alloc (.cells #[.int .i64 n] 3)) := ⟨_, rfl⟩
              have T3 := T2.alloc (.cells #[.int .i64 n] 3)
              have EA3 := bt_new T2 (n)
              have EB3 := EB2.alloc (.cells #[.int .i64 n] 3)
              have EC3 := EC2.alloc (.cells #[.int .i64 n] 3)
              rw [← HV3.out] at T3 EA3 EB3 EC3
              rw [← HV3.out]
              clear HV3
              refine hK.out _ _ ?_ (fun hHeld => ?_)
              · exact HC.out _ T3.kp
              clear hK K
              try simp only [Act.put, List.setIfInBounds_toArray, List.set_cons_zero, List.set_cons_succ]
              refine wpAnyH_ready (rs := [3]) (by kernel_rfl) (by simp) ?_
              refine AllReadyH.cons (o := Oper.mk (some 40) _ _ _ _ _) rfl (fun K hK => ?_) AllReadyH.nil
              refine step_append_num V3 (by rfl) _ _ 34 rfl w2.heap.size i0 Try.underlying34 HI.out.1 HI.out.2.1 HI.out.2.2.1 HI.out.2.2.2 _ k X rfl T3.rs _ (n) rfl EA3.blk (by omega) T3.kp.size ?_
              intro v4 V4 R4 G4 U4
              have T4 := T3.ofS G4 R4 U4
              have EB4 := EB3.ofS G4 U4
              have EC4 := EC3.ofS G4 U4
              refine hK.out _ _ ?_ (fun hHeld => ?_)
              · exact HC.out _ T4.kp
              clear hK K
              try simp only [Act.put, List.setIfInBounds_toArray, List.set_cons_zero, List.set_cons_succ]
              refine wpAnyH_ready (rs := [13]) (by kernel_rfl) (by simp) ?_
              refine AllReadyH.cons (o := Oper.mk (some 50) _ _ _ _ _) rfl (fun K hK => ?_) AllReadyH.nil
              refine step_append_num V4 (by rfl) _ _ 34 rfl w2.heap.size i0 Try.underlying34 HI.out.1 HI.out.2.1 HI.out.2.2.1 HI.out.2.2.2 _ k Y rfl T4.rm _ (mm) rfl EB4.blk (by omega) T4.kp.size ?_
              intro v5 V5 R5 G5 U5
              have T5 := T4.ofM G5 R5 U5
              have EC5 := EC4.ofM G5 U5
              refine hK.out _ _ ?_ (fun hHeld => ?_)
              · exact HC.out _ T5.kp
              clear hK K
              try simp only [Act.put, List.setIfInBounds_toArray, List.set_cons_zero, List.set_cons_succ]
              refine wpAnyH_ready (rs := [21]) (by kernel_rfl) (by simp) ?_
              refine AllReadyH.cons (o := Oper.mk (some 58) _ _ _ _ _) rfl (fun K hK => ?_) AllReadyH.nil
              refine step_append_num V5 (by rfl) _ _ 34 rfl w2.heap.size i0 Try.underlying34 HI.out.1 HI.out.2.1 HI.out.2.2.1 HI.out.2.2.2 _ k ((cyc L).take k) rfl T5.ra _ (t.c) rfl EC5.blk (by omega) T5.kp.size ?_
              intro v6 V6 R6 G6 U6
              have T6 := T5.ofA G6 R6 U6
              refine hK.out _ _ ?_ (fun hHeld => ?_)
              · exact HC.out _ T6.kp
              clear hK K
              try simp only [Act.put, List.setIfInBounds_toArray, List.set_cons_zero, List.set_cons_succ]
              refine wpAnyH_take (i := 22) (oi := Oper.mk (some 7) _ _ _ _ _) (v := ?v22f15) rfl (by kernel_rfl) (by kernel_rfl) (by kernel_rfl) (fun _ _ _ h => h) (Or.inl ⟨by rfl, ?hy22f15⟩) (by assumption) ?rest22f15
              case hy22f15 => (intro w0 hSw; (try dsimp only at hSw); go_simp; try with_reducible rfl)
              try simp only [Act.put, List.setIfInBounds_toArray, List.set_cons_zero, List.set_cons_succ]
              refine wpAnyH_take (i := 23) (oi := Oper.mk (some 8) _ _ _ _ _) (v := ?v23f15) rfl (by kernel_rfl) (by kernel_rfl) (by kernel_rfl) (fun _ _ _ h => h) (Or.inl ⟨by rfl, ?hy23f15⟩) (by assumption) ?rest23f15
              case hy23f15 => (intro w0 hSw; (try dsimp only at hSw); go_simp; try with_reducible rfl)
              try simp only [Act.put, List.setIfInBounds_toArray, List.set_cons_zero, List.set_cons_succ]
              refine wpAnyH_take (i := 24) (oi := Oper.mk (some 9) _ _ _ _ _) (v := ?v24f15) rfl (by kernel_rfl) (by kernel_rfl) (by kernel_rfl) (fun _ _ _ h => h) (Or.inl ⟨by rfl, ?hy24f15⟩) (by assumption) ?rest24f15
              case hy24f15 => (intro w0 hSw; (try dsimp only at hSw); go_simp; try with_reducible rfl)
              try simp only [Act.put, List.setIfInBounds_toArray, List.set_cons_zero, List.set_cons_succ]
              refine wpAnyH_done (by kernel_rfl) ?_ _
              refine NoPanic.normal ?_
              have HX := HF.out _ _ _ _ T6
              clear T0 T1 T2 T3 T4 T5 T6 hHeld0
              go_wp2
              go_roundw
              case rel => exact ⟨k + 1, by omega, by go_num, HX⟩
              case measure => simp [intOf]; omega
        · have hlt' : ¬ (k : Int) < (len : Int) := by omega
          obtain rfl : k = len := by omega
          have hLk : L.length = k := HL0.out.ln
          have hk64 : k ≤ 64 := by have := HDD.out.n; omega
          have hcC : Cy (cyc L) k := HDD.out.cy hLk
          have htk : (cyc L).take k = cyc L := List.take_of_length_le (by simp [cyc, hLk])
          have hcl : (cyc L).length = k := by simp [cyc, hLk]
          rw [htk] at T0
          have hcYY : Cy Y k := fun i hi => ⟨(hcY i hi).1, Int.le_trans (hcY i hi).2 (hcC i hi).2⟩
          have hle : spr m L (cyc L) m.lL ≤ spr m L Y m.lL := spr_less HDD.out.b (fun i hi => (hcY i (by omega)).2)
          obtain ⟨s1, s2, rfl, N1⟩ := rw_nat T0.rs hX hcX hk64
          obtain ⟨r1, r2, rfl, N2⟩ := rw_nat T0.rm hY hcYY hk64
          obtain ⟨q1, q2, rfl, N3⟩ := rw_nat T0.ra hcl hcC hk64
          have KW : Hid (Kp w wr) := HK.out.trans (HK2.out.trans KV.out)
          have KW0 : Hid (Kp W0 wr) := HK2.out.trans KV.out
          have HA1 : Hid (∀ W, Kp wr W → Calls Try.prog 9 #[.agg #[.slice m.aL m.lL m.cL, .slice m.aS m.lS m.cS, .slice m.aD m.lD m.cD, .int .i64 m.idle, .int .i64 m.crit, .int .i64 m.sw, .int .i64 m.swe, .int .i64 m.sems, .int .i64 m.hor], .slice ao k cap, .slice s1 k s2] W fun e w' => e = .returned (.int .i64 (spr m L X m.lL : Nat)) ∧ Kp W w') := fun W q => HS1.out W s1 s2 X (KW.out.trans q) (N1.kept q) hcX
          have HA2 : Hid (∀ W, Kp wr W → Calls Try.prog 9 #[.agg #[.slice m.aL m.lL m.cL, .slice m.aS m.lS m.cS, .slice m.aD m.lD m.cD, .int .i64 m.idle, .int .i64 m.crit, .int .i64 m.sw, .int .i64 m.swe, .int .i64 m.sems, .int .i64 m.hor], .slice ao k cap, .slice r1 k r2] W fun e w' => e = .returned (.int .i64 (spr m L Y m.lL : Nat)) ∧ Kp W w') := fun W q => HS1.out W r1 r2 Y (KW.out.trans q) (N2.kept q) hcYY
          have HA3 : Hid (∀ W, Kp wr W → Calls Try.prog 9 #[.agg #[.slice m.aL m.lL m.cL, .slice m.aS m.lS m.cS, .slice m.aD m.lD m.cD, .int .i64 m.idle, .int .i64 m.crit, .int .i64 m.sw, .int .i64 m.swe, .int .i64 m.sems, .int .i64 m.hor], .slice ao k cap, .slice q1 k q2] W fun e w' => e = .returned (.int .i64 (spr m L (cyc L) m.lL : Nat)) ∧ Kp W w') := fun W q => HS1.out W q1 q2 (cyc L) (KW.out.trans q) (N3.kept q) hcC
          have HB1 : Hid (∀ W, Kp wr W → Calls Try.prog 10 #[.agg #[.slice m.aL m.lL m.cL, .slice m.aS m.lS m.cS, .slice m.aD m.lD m.cD, .int .i64 m.idle, .int .i64 m.crit, .int .i64 m.sw, .int .i64 m.swe, .int .i64 m.sems, .int .i64 m.hor], .slice ao k cap, .slice s1 k s2] W fun e w' => e = .returned (.int .i64 (spr m L X m.lL : Nat)) ∧ Kp W w') := fun W q => HR1.out W s1 s2 X (KW.out.trans q) (N1.kept q) hcX
          have HB2 : Hid (∀ W, Kp wr W → Calls Try.prog 10 #[.agg #[.slice m.aL m.lL m.cL, .slice m.aS m.lS m.cS, .slice m.aD m.lD m.cD, .int .i64 m.idle, .int .i64 m.crit, .int .i64 m.sw, .int .i64 m.swe, .int .i64 m.sems, .int .i64 m.hor], .slice ao k cap, .slice r1 k r2] W fun e w' => e = .returned (.int .i64 (spr m L Y m.lL : Nat)) ∧ Kp W w') := fun W q => HR1.out W r1 r2 Y (KW.out.trans q) (N2.kept q) hcYY
          have HQ2 : Hid (∀ W, Kp wr W → Calls Try.prog 7 #[.agg #[.slice m.aL m.lL m.cL, .slice m.aS m.lS m.cS, .slice m.aD m.lD m.cD, .int .i64 m.idle, .int .i64 m.crit, .int .i64 m.sw, .int .i64 m.swe, .int .i64 m.sems, .int .i64 m.hor], .slice ao k cap] W fun e w' => e = .returned (.int .i64 (spr m L (cyc L) m.lL : Nat)) ∧ Kp W w') := fun W q => HQ1.out W (KW.out.trans q)
          generalize spr m L X m.lL = nA at *
          generalize spr m L Y m.lL = nB at *
          generalize spr m L (cyc L) m.lL = nC at *
          have hle' : (nC : Int) ≤ (nB : Int) := by omega
          clear HS1 HR1 HQ1 T0 N1 N2 N3 hcX hcY hcYY hcC htk hcl hX hY HR hLk
          obtain ⟨p0, p1, p2, p3, p4, p5, p6, p7, p8⟩ := (HP.out _ KW0.out).all
          go_wp2_with fail
          refine (HA2.out _ (Kp.refl _)).mono ?_
          rintro e w3 ⟨rfl, k3⟩
          have HK3 : Hid (Kp wr w3) := k3
          clear k3 p0 p1 p2 p3 p4 p5 p6 p7 p8 HA2
          obtain ⟨p0, p1, p2, p3, p4, p5, p6, p7, p8⟩ := (HP.out _ (KW0.out.trans HK3.out)).all
          go_wp2_with fail
          go_region_held3 (fun w' => w'.cell? ⟨w.heap.size, 0, none⟩ = some (.slice m.aL m.lL m.cL) ∧ w'.cell? ⟨w.heap.size, 1, none⟩ = some (.slice m.aS m.lS m.cS) ∧ w'.cell? ⟨w.heap.size, 2, none⟩ = some (.slice m.aD m.lD m.cD) ∧ w'.cell? ⟨w.heap.size, 3, none⟩ = some (.int .i64 m.idle) ∧ w'.cell? ⟨w.heap.size, 4, none⟩ = some (.int .i64 m.crit) ∧ w'.cell? ⟨w.heap.size, 5, none⟩ = some (.int .i64 m.sw) ∧ w'.cell? ⟨w.heap.size, 6, none⟩ = some (.int .i64 m.swe) ∧ w'.cell? ⟨w.heap.size, 7, none⟩ = some (.int .i64 m.sems) ∧ w'.cell? ⟨w.heap.size, 8, none⟩ = some (.int .i64 m.hor)) (go_keep) (first
            | (go_at_call 6; refine (aanswers_any _).mono ?_; rintro e w4 ⟨rfl, k4⟩; have KC : Kp wr w4 := HK3.out.trans (by first | exact (tkp_drew _).trans k4 | exact k4); clear k4; obtain ⟨z0, z1, z2, z3, z4, z5, z6, z7, z8⟩ := (HP.out _ (KW0.out.trans KC)).all)
            | (go_at_call 9; refine (HA1.out _ KC).mono ?_; rintro e w5 ⟨rfl, k5⟩; have KC := KC.trans k5; clear k5 HA1; obtain ⟨z0, z1, z2, z3, z4, z5, z6, z7, z8⟩ := (HP.out _ (KW0.out.trans KC)).all)
            | (go_at_call 10; refine (HB1.out _ KC).mono ?_; rintro e w5 ⟨rfl, k5⟩; have KC := KC.trans k5; clear k5 HB1; obtain ⟨z0, z1, z2, z3, z4, z5, z6, z7, z8⟩ := (HP.out _ (KW0.out.trans KC)).all)
            | (go_at_call 10; refine (HB2.out _ KC).mono ?_; rintro e w5 ⟨rfl, k5⟩; have KC := KC.trans k5; clear k5 HB2; obtain ⟨z0, z1, z2, z3, z4, z5, z6, z7, z8⟩ := (HP.out _ (KW0.out.trans KC)).all)
            | (go_at_call 9; refine (HA3.out _ KC).mono ?_; rintro e w5 ⟨rfl, k5⟩; have KC := KC.trans k5; clear k5 HA3; obtain ⟨z0, z1, z2, z3, z4, z5, z6, z7, z8⟩ := (HP.out _ (KW0.out.trans KC)).all)
            | (go_at_call 7; refine (HQ2.out _ KC).mono ?_; rintro e w5 ⟨rfl, k5⟩; have KC := KC.trans k5; clear k5; obtain ⟨z0, z1, z2, z3, z4, z5, z6, z7, z8⟩ := (HP.out _ (KW0.out.trans KC)).all)
            | fail)
          all_goals
            go_wp2
            go_ret
            exact ⟨by simp, HE.out _ (KW.out.trans KC)⟩

theorem admitSpare_walk (aL : Option Addr) (lL cL : Nat) (rL : List (List Int)) (aS : Option Addr) (lS cS : Nat) (rS : List (List Int)) (aD : Option Addr) (lD cD : Nat) (rD : List (List Int)) (idle crit sw swe sems hor : Int) (ao : Option Addr) (len cap : Nat) (L : List Tk) (au : Option Addr) (lu cu : Nat) (us : List Int) (w : World)
    (hm : Mach w aL lL rL aS lS rS aD lD rD) (h : LAt w ao len L) (_ : len * 64 ≤ 140737488351232) (hu : KIntsAt .u16 w au lu us) :
    Calls Try.prog 4 #[pv aL lL cL aS lS cS aD lD cD idle crit sw swe sems hor, .slice ao len cap, .slice au lu cu] w fun e w' => e = .returned (.bool true) ∧ Below w.heap.size w w' :=
  admitSpare_go ⟨aL, lL, cL, rL, aS, lS, cS, rS, aD, lD, cD, rD, idle, crit, sw, swe, sems, hor⟩ ao len cap L au lu cu us w hm h hu

end Go.Proofs.Ytgecandbbmljbab.AD
