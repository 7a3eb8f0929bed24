/- How much time is left over: in plain words. -/
import Derived.Test.YtilafcplijgjjaaSlkAt
import Derived.Test.YtilafcplijgjjaaAdmFun
import Derived.Test.YtilafcplijgjjaaJobQn
namespace Go.Proofs.Ytilafcplijgjjaa.SK
open Go.ChangeShapes Go.WideShapes Go.ChangeAt Go.RowKit Go.Proofs.Ytilafcplijgjjaa.AR Go.Proofs.Ytilafcplijgjjaa.TB Go.Proofs.Ytilafcplijgjjaa.TK Go.Proofs.Ytilafcplijgjjaa.JB Go.Proofs.Ytilafcplijgjjaa.FX Go.Proofs.Ytilafcplijgjjaa.AD
open Go.Proofs.Ytilafcplijgjjaa.LK (Hd atH HsAt C3)

/-- the Period of the k-th task -/
def pk (T : List Tk) (k : Nat) : Int := match T[k]? with
  | some t => t.p
  | none => 0
theorem pk_at {T : List Tk} {k : Nat} {t : Tk} (h : T[k]? = some t) : pk T k = t.p := by simp [pk, h]
/-- from when on the k-th task's next job may come, and its Deadline -/
def coI (v : Vw) (k : Nat) : Int := mx (v.N.getD k 0) v.now
def ndI (v : Vw) (k : Nat) : Int := coI v k + pk v.T k
/-- may the k-th task have a job with a Deadline up to a? -/
def dueB (v : Vw) (k : Int) (a : Int) : Bool := v.J.any fun j => (j.t == k) && decide (j.d ≤ a)
def asksB (v : Vw) (k : Nat) (a : Int) : Bool := decide (ndI v k ≤ a) || dueB v k a
/-- is the Deadline of the holder's job behind a? -/
def lateB (v : Vw) (h : Hd) (a : Int) : Bool := v.J.any fun j => (j.t == h.t) && decide (a < j.d)
/-- the least Period of those that use the semaphore, and the holder's -/
def ceI (v : Vw) (h : Hd) : Int := cel v.T h.s v.tl
def tskB (v : Vw) (h : Hd) (a : Int) (k : Nat) : Bool := decide (ceI v h ≤ pk v.T k) && decide (pk v.T k < pk v.T h.t.toNat) && asksB v k a
def tsksB (v : Vw) (h : Hd) (a : Int) : Nat → Bool
  | 0 => false
  | k + 1 => tsksB v h a k || tskB v h a k
/-- does it count? -/
def cntB (v : Vw) (h : Hd) (a : Int) : Bool := lateB v h a && tsksB v h a v.tl
/-- the greatest Left of the first k that count -/
def lng (v : Vw) (a : Int) : Nat → Int
  | 0 => 0
  | k + 1 => if lng v a k < (atH v.H k).l ∧ cntB v (atH v.H k) a = true then (atH v.H k).l else lng v a k
/-- for how many quanta jobs may be held up -/
def hnI (v : Vw) (a : Int) : Int := lng v a v.hl * slw v.m
/-- the quanta of the first k jobs, as far as their Deadlines are up to a -/
def qs (v : Vw) (a : Int) : Nat → Int
  | 0 => 0
  | k + 1 => match v.J[k]? with
    | some j => if j.d ≤ a then qs v a k + jqI v.m j else qs v a k
    | none => qs v a k
/-- u times n -/
def tm (u n : Int) : Int := cl u 0 17179869184 * cl n 0 134217728
/-- a task's Part -/
def ptI (v : Vw) (k : Nat) : Int := match v.T[k]? with
  | some t => ut (qn v.m t.c 0) t.p
  | none => 0
/-- what jobs that may come take, of the first k tasks -/
def toc (v : Vw) (a : Int) : Nat → Int
  | 0 => 0
  | k + 1 => if pk v.T k = 0 then toc v a k else toc v a k + tm (ptI v k) (a - coI v k)
/-- n quanta as parts -/
def wh (n : Int) : Int := cl n (-1073741824) 1073741824 * 4294967296
/-- how much time is left over -/
def qnI (v : Vw) (a : Int) : Int := a - v.now - hnI v a - qs v a v.jl
def atI (v : Vw) (a : Int) : Int := wh (qnI v a) - toc v a v.tl
/-- the smaller one -/
def mn (a b : Int) : Int := if b < a then b else a
theorem mn_lt {a b : Int} (h : b < a) : mn a b = b := by unfold mn; rw [if_pos h]
theorem mn_ge {a b : Int} (h : ¬ b < a) : mn a b = a := by unfold mn; rw [if_neg h]
/-- the least that is left over at one of these moments -/
def lsM (v : Vw) (f : Int) (D : List Int) : Int := D.foldl (fun x d => if f ≤ d then mn x (atI v d) else x) 4611686018427387904
theorem lsM_more {v : Vw} {f d : Int} {D : List Int} : lsM v f (D ++ [d]) = if f ≤ d then mn (lsM v f D) (atI v d) else lsM v f D := by
  unfold lsM; rw [List.foldl_append]; rfl
/-- the Deadlines of the first k jobs; of the first k tasks' next ones -/
def djs (v : Vw) (k : Nat) : List Int := (v.J.take k).map Jb.d
def dts (v : Vw) : Nat → List Int
  | 0 => []
  | k + 1 => if pk v.T k = 0 then dts v k else dts v k ++ [ndI v k]
def dls (v : Vw) : List Int := djs v v.jl ++ dts v v.tl
def lsI (v : Vw) (f : Int) : Int := lsM v f (dls v)

theorem djs_more {v : Vw} {k : Nat} {j : Jb} (h : v.J[k]? = some j) : djs v (k + 1) = djs v k ++ [j.d] := by
  unfold djs
  rw [List.take_add_one, h]
  simp
theorem dts_not {v : Vw} {k : Nat} (h : pk v.T k = 0) : dts v (k + 1) = dts v k := by simp [dts, h]
theorem dts_more {v : Vw} {k : Nat} (h : pk v.T k ≠ 0) : dts v (k + 1) = dts v k ++ [ndI v k] := by simp [dts, h]
theorem toc_not {v : Vw} {a : Int} {k : Nat} (h : pk v.T k = 0) : toc v a (k + 1) = toc v a k := by simp [toc, h]
theorem toc_more {v : Vw} {a : Int} {k : Nat} (h : pk v.T k ≠ 0) : toc v a (k + 1) = toc v a k + tm (ptI v k) (a - coI v k) := by simp [toc, h]
theorem qs_in {v : Vw} {a : Int} {k : Nat} {j : Jb} (h : v.J[k]? = some j) (hd : j.d ≤ a) : qs v a (k + 1) = qs v a k + jqI v.m j := by simp [qs, h, hd]
theorem qs_not {v : Vw} {a : Int} {k : Nat} {j : Jb} (h : v.J[k]? = some j) (hd : ¬ j.d ≤ a) : qs v a (k + 1) = qs v a k := by simp [qs, h, hd]
theorem lng_turn {v : Vw} {a : Int} {k : Nat} (h : lng v a k < (atH v.H k).l) (hc : cntB v (atH v.H k) a = true) : lng v a (k + 1) = (atH v.H k).l := by simp [lng, h, hc]
theorem lng_stay {v : Vw} {a : Int} {k : Nat} (h : ¬ lng v a k < (atH v.H k).l) : lng v a (k + 1) = lng v a k := by simp [lng, h]
theorem lng_not {v : Vw} {a : Int} {k : Nat} (hc : cntB v (atH v.H k) a = false) : lng v a (k + 1) = lng v a k := by simp [lng, hc]

/-- all that the chapter speaks of -/
structure VG (v : Vw) : Prop where
  b : Bd v.m
  n : v.tl ≤ 64
  nl : v.nl = v.tl
  tk : ∀ t ∈ v.T, BT t ∧ 0 ≤ t.p ∧ t.p ≤ 16384 ∧ (t.p = 0 → t.sl = 0)
  now : 0 ≤ v.now ∧ v.now ≤ 2097152
  nx : ∀ k, k < v.tl → 0 ≤ v.N.getD k 0 ∧ v.N.getD k 0 ≤ 2097152
  jb : ∀ j ∈ v.J, (0 ≤ j.t ∧ j.t < v.tl) ∧ pk v.T j.t.toNat ≠ 0 ∧ (0 ≤ j.d ∧ j.d ≤ 2097152) ∧ (0 ≤ j.l ∧ j.l ≤ 4096)
  jo : ∀ (i k : Nat) (x y : Jb), v.J[i]? = some x → v.J[k]? = some y → x.t = y.t → i = k
  jn : v.jl ≤ 64
  hd : ∀ h ∈ v.H, (∃ j ∈ v.J, j.t = h.t) ∧ -4096 ≤ h.l ∧ h.l ≤ 4096

section
variable {w : World} {v : Vw}
theorem pk_bd (g : VG v) (k : Nat) : 0 ≤ pk v.T k ∧ pk v.T k ≤ 16384 := by
  unfold pk
  cases h : v.T[k]? with
  | none => simp
  | some t => have := g.tk t (List.mem_of_getElem? h); exact ⟨this.2.1, this.2.2.1⟩
theorem coI_bd (g : VG v) {k : Nat} (hk : k < v.tl) : 0 ≤ coI v k ∧ coI v k ≤ 2097152 := by
  have h1 := g.nx k hk
  have h2 := g.now
  unfold coI mx
  split <;> omega
theorem ndI_bd (g : VG v) {k : Nat} (hk : k < v.tl) : 0 ≤ ndI v k ∧ ndI v k ≤ 2113536 := by
  have h1 := coI_bd g hk
  have h2 := pk_bd g k
  unfold ndI; omega
theorem lng_bd (g : VG v) (hl : v.H.length = v.hl) {a : Int} : ∀ {k : Nat}, k ≤ v.hl → 0 ≤ lng v a k ∧ lng v a k ≤ 4096
  | 0, _ => by simp [lng]
  | k + 1, hk => by
    have h1 := lng_bd g hl (a := a) (k := k) (by omega)
    have h2 := (g.hd (atH v.H k) (LK.atH_mem (by omega))).2
    unfold lng; split <;> omega
theorem hnI_bd (g : VG v) (hl : v.H.length = v.hl) (a : Int) : 0 ≤ hnI v a ∧ hnI v a ≤ 1048576 := by
  have h1 := lng_bd g hl (a := a) (Nat.le_refl _)
  have h2 := slw_bd g.b
  have := mul_bound (a := lng v a v.hl) (b := slw v.m) (A := 4096) (B := 256) h1.1 h1.2 (by omega) h2.2
  unfold hnI; omega
theorem jqI_bd (g : VG v) {j : Jb} (hj : j ∈ v.J) : 0 ≤ jqI v.m j ∧ jqI v.m j ≤ 1049088 := by
  have h1 := (g.jb j hj).2.2.2
  have h2 := g.b.lev 0 (by have := g.b.cr; omega)
  have h3 := g.b.sw
  have h4 : 0 ≤ mx 0 j.l ∧ mx 0 j.l ≤ 4096 := by unfold mx; split <;> omega
  have sb : 1 ≤ swI j ∧ swI j ≤ 2 := by unfold swI; split <;> omega
  have q1 := mul_bound (a := mx 0 j.l) (b := fd v.m.rL 0 0) (A := 4096) (B := 256) h4.1 h4.2 (by omega) h2.2
  have q2 := mul_bound (a := swI j) (b := v.m.sw) (A := 2) (B := 256) (by omega) sb.2 h3.1 h3.2
  unfold jqI; omega
theorem qs_bd (g : VG v) {a : Int} : ∀ {k : Nat}, 0 ≤ qs v a k ∧ qs v a k ≤ k * 1049088
  | 0 => by simp [qs]
  | k + 1 => by
    have h1 := qs_bd g (a := a) (k := k)
    cases h : v.J[k]? with
    | none => simp only [qs, h]; omega
    | some j =>
      have h2 := jqI_bd g (List.mem_of_getElem? h)
      by_cases hd : j.d ≤ a
      · rw [qs_in h hd]; omega
      · rw [qs_not h hd]; omega
theorem qs_64 (g : VG v) {a : Int} {k : Nat} (hk : k ≤ v.jl) : 0 ≤ qs v a k ∧ qs v a k ≤ 67141632 := by
  have h1 := qs_bd g (a := a) (k := k)
  have h2 := g.jn
  have : (k : Int) * 1049088 ≤ 64 * 1049088 := Int.mul_le_mul_of_nonneg_right (by omega) (by omega)
  omega
theorem tm_bd {u n : Int} (hn : n ≤ 4194304) : 0 ≤ tm u n ∧ tm u n ≤ 72057594037927936 := by
  have h1 := cl_bd u 0 17179869184 (by omega)
  have h2 : 0 ≤ cl n 0 134217728 ∧ cl n 0 134217728 ≤ 4194304 := ⟨(cl_bd n 0 134217728 (by omega)).1, by unfold cl; split <;> (try split) <;> omega⟩
  have := mul_bound (a := cl u 0 17179869184) (b := cl n 0 134217728) (A := 17179869184) (B := 4194304) h1.1 h1.2 h2.1 h2.2
  unfold tm; omega
theorem toc_bd (g : VG v) {a : Int} (ha : a ≤ 4194304) : ∀ {k : Nat}, k ≤ v.tl → 0 ≤ toc v a k ∧ toc v a k ≤ k * 72057594037927936
  | 0, _ => by simp [toc]
  | k + 1, hk => by
    have h1 := toc_bd g ha (k := k) (by omega)
    have h2 := coI_bd g (k := k) (by omega)
    have h3 := tm_bd (u := ptI v k) (n := a - coI v k) (by omega)
    by_cases hp : pk v.T k = 0
    · rw [toc_not hp]; omega
    · rw [toc_more hp]; omega
theorem toc_64 (g : VG v) {a : Int} (ha : a ≤ 4194304) {k : Nat} (hk : k ≤ v.tl) : 0 ≤ toc v a k ∧ toc v a k ≤ 4611686018427387904 := by
  have h1 := toc_bd g ha hk
  have h2 := g.n
  have : (k : Int) * 72057594037927936 ≤ 64 * 72057594037927936 := Int.mul_le_mul_of_nonneg_right (by omega) (by omega)
  omega
theorem wh_bd (n : Int) : -4611686018427387904 ≤ wh n ∧ wh n ≤ 4611686018427387904 := by
  have := cl_bd n (-1073741824) 1073741824 (by omega)
  unfold wh; omega
theorem atI_bd (g : VG v) {a : Int} (ha : a ≤ 4194304) : -9223372036854775808 ≤ atI v a ∧ atI v a ≤ 4611686018427387904 := by
  have h1 := wh_bd (qnI v a)
  have h2 := toc_64 g ha (Nat.le_refl _)
  unfold atI; omega
theorem qnI_bd (g : VG v) (hl : v.H.length = v.hl) {a : Int} (h0 : 0 ≤ a) (ha : a ≤ 4194304) : -1073741824 ≤ qnI v a ∧ qnI v a ≤ 4194304 := by
  have h1 := hnI_bd g hl a
  have h2 := qs_64 g (a := a) (Nat.le_refl v.jl)
  have h3 := g.now
  unfold qnI; omega
/-- a ceiling is 1 at least -/
theorem ceI_pos (g : VG v) (s : Int) : ∀ k, 1 ≤ cel v.T s k
  | 0 => by simp [cel]
  | k + 1 => by
    have h1 := ceI_pos g s k
    cases h : v.T[k]? with
    | none => simp [cel, h]; omega
    | some t =>
      have h2 := g.tk t (List.mem_of_getElem? h)
      cases hu : usB t s with
      | false => rw [cel_not h hu]; exact h1
      | true =>
        by_cases hp : t.p < cel v.T s k
        · rw [cel_less h hu hp]
          by_cases e : t.p = 0
          · have := h2.2.2.2 e
            simp [usB, this] at hu
            omega
          · omega
        · rw [cel_stay h hp]; exact h1
end

end Go.Proofs.Ytilafcplijgjjaa.SK
