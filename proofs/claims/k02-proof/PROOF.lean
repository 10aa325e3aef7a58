import PyProof.Rows.All
import Wide.All
import OpenK.AllK
import Wide.FinOn
import HandS.Head0
import HandS.Head1
import HandS.Head2
import HandS.HeadHook1
import HandS.HeadHook2
import HandS.HeadHook4
import HandS.Head3
import HandS.Words
import HandS.Base
import HandS.Call
import HandS.List
import HandS.Defaults
import HandS.Comp
import HandS.Gcd
import HandS.IsInst
import HandS.SetFor
import HandS.Style
import HandS.WideBits
import HandS.EndBits
import PySem.Challenge.RW_windfigure_k02_whole_points_and_directio
set_option Elab.async false
set_option linter.all false
set_option maxRecDepth 100000
set_option maxHeartbeats 0
namespace K1
open PySem PySem.Spec PyProof.Rows L2
/-! ### a Hook that looks at what the globals reach, and no further -/
def refsQ (o : Obj) : List Addr := match o.data with
  | .dict es _ => es.toList.flatMap fun e => He.refV e.val
  | .cls cd => [cd.ns]
  | .func fd => He.refV fd.code
  | _ => []
def stepQ (g : Addr → Option Obj) : List Addr → List Addr
  | [] => []
  | a :: r => (match g a with
    | some o => refsQ o
    | none => []) ++ stepQ g r
def asQ (g : Addr → Option Obj) : List Addr :=
  mainGlobals :: (stepQ g [mainGlobals] ++ (stepQ g (stepQ g [mainGlobals]) ++ (stepQ g (stepQ g (stepQ g [mainGlobals])) ++ stepQ g (stepQ g (stepQ g (stepQ g [mainGlobals]))))))
/-- a list of addresses, each one reckoned, then k -/
def evL {α : Type} : List Addr → (List Addr → α) → α
  | [], k => k []
  | a :: r, k => HandSHeadRun.frNat a fun a => evL r fun r => k (a :: r)
theorem evL_eq {α : Type} : ∀ (l : List Addr) (k : List Addr → α), evL l k = k l
  | [], _ => rfl
  | a :: r, k => by
    show HandSHeadRun.frNat a (fun a => evL r fun r => k (a :: r)) = k (a :: r)
    rw [HandSHeadRun.frNat_eq, evL_eq r]
/-- the fragment, entry by entry, then k -/
def evK {α : Type} (g : Addr → Option Obj) : List Addr → (PySem.W.Frag → α) → α
  | [], k => k []
  | a :: r, k => match g a with
    | some o => evK g r fun K => k ((a, o) :: K)
    | none => evK g r k
theorem evK_eq {α : Type} (g : Addr → Option Obj) : ∀ (l : List Addr) (k : PySem.W.Frag → α), evK g l k = k (He.frG g l)
  | [], _ => rfl
  | a :: r, k => by
    unfold evK He.frG
    rw [List.filterMap_cons]
    cases h : g a with
    | none =>
      show evK g r k = _
      rw [evK_eq g r]
      rfl
    | some o =>
      show evK g r (fun K => k ((a, o) :: K)) = _
      rw [evK_eq g r]
      rfl
abbrev AlQ : Type := Bool × He.AlD
def obsQ (fa : List He.Fa) (fn : List He.DefD) (ex : PySem.W.Frag → Bool) (g : Addr → Option Obj) : AlQ :=
  evL (asQ g) fun l => evK g l fun K => (ex K, He.obsD fa fn K)
theorem obsQ_is {fa : List He.Fa} {fn : List He.DefD} {ex : PySem.W.Frag → Bool} {g : Addr → Option Obj} : obsQ fa fn ex g = (ex (He.frG g (asQ g)), He.obsD fa fn (He.frG g (asQ g))) := by
  unfold obsQ
  rw [evL_eq, evK_eq]
def hookQ (fa : List He.Fa) (fn : List He.DefD) (ex : PySem.W.Frag → Bool) : PySem.W.Hook where
  α := AlQ
  obs := fun s => obsQ fa fn ex s.heap.get?
  val := fun _ => (true, He.valD fn)
  says := fun _ h => ∃ K : PySem.W.Frag, K.In h ∧ ex K = true ∧ He.SaysD fa fn K
  of := fun _ _ e => by
    rw [obsQ_is] at e
    exact ⟨_, He.frG_in, congrArg Prod.fst e, congrArg Prod.snd e⟩
  keeps := fun _ _ _ ⟨K, hK, c⟩ k => ⟨K, PySem.W.Frag.In.keeps hK k, c⟩
theorem obsQ_eq {fa : List He.Fa} {fn : List He.DefD} {ex : PySem.W.Frag → Bool} {g : Addr → Option Obj} {s : Shared} (h : ∀ a, g a = s.heap.get? a) : obsQ fa fn ex g = (hookQ fa fn ex).obs s := by
  have e : g = s.heap.get? := funext h
  rw [e] <;> rfl
end K1
namespace K2
open PySem PySem.Spec PyProof.Rows L2
def top (i : Nat) : Stmt := PySem.Challenge.pw_windfigure_k02_whole_points_and_directio.main.body.getD i (.Pass ⟨0, 0, 0, 0⟩)
end K2
namespace K2
open PySem PySem.Spec PyProof.Rows L2 K1
abbrev R : PySem.W.OpenRow := PySem.W.OpenLaw.row PySem.Challenge.rw_windfigure_k02_whole_points_and_directio
def lo0 : List PySem.Str := ["WindError", "InvalidFraction", "InvalidPoint", "InvalidDirection", "InvalidSide", "Same", "is_whole", "are_whole", "ratio", "point_of", "point_sum", "point_gap", "point_times", "course_to", "side_of", "along"]
def lo1 : List PySem.Str := ["overshoot", "turn", "is_fraction", "is_point", "is_side", "is_direction", "need_fraction", "need_point", "need_side", "need_direction", "direction_of", "is_earlier", "half_turn", "point_at", "plus", "minus"]
def lo2 : List PySem.Str := ["times", "between", "sense", "side_through", "excess", "_law_source", "_law_rounds", "_law_draw", "_law_pick", "_law_least", "_law_spot", "_law_part", "_law_sum", "_law_by", "_law_add", "_law_grow"]
def lo3 : List PySem.Str := ["_law_midway", "_law_back", "_law_left", "_law_side", "_law_half", "_law_before", "_law_gust", "_law_share", "_law_sums_right", "_law_between_right", "_law_senses_right", "_law_directions_right", "_law_right"]
def loose : List PySem.Str := lo0 ++ (lo1 ++ (lo2 ++ (lo3)))
def dDef (i : Nat) (x : Str) : He.DefD := ⟨(x, none), x, x, defArgs (top i), defBody (top i), defScope (top i), [], []⟩
def fn0 : List He.DefD := [dDef 9 "is_whole", dDef 10 "are_whole", dDef 11 "ratio", dDef 12 "point_of", dDef 13 "point_sum", dDef 14 "point_gap", dDef 15 "point_times", dDef 16 "course_to", dDef 17 "side_of", dDef 18 "along", dDef 19 "overshoot", dDef 20 "turn"]
def fn1 : List He.DefD := [dDef 22 "is_fraction", dDef 23 "is_point", dDef 24 "is_side", dDef 25 "is_direction", dDef 26 "need_fraction", dDef 27 "need_point", dDef 28 "need_side", dDef 29 "need_direction", dDef 30 "direction_of", dDef 31 "is_earlier", dDef 32 "half_turn", dDef 33 "point_at"]
def fn2 : List He.DefD := [dDef 34 "plus", dDef 35 "minus", dDef 36 "times", dDef 37 "between", dDef 38 "sense", dDef 39 "side_through", dDef 40 "excess", dDef 42 "_law_source", dDef 43 "_law_rounds", dDef 44 "_law_draw", dDef 45 "_law_pick", dDef 46 "_law_least"]
def fn3 : List He.DefD := [dDef 47 "_law_spot", dDef 48 "_law_part", dDef 49 "_law_sum", dDef 50 "_law_by", dDef 51 "_law_add", dDef 52 "_law_grow", dDef 53 "_law_midway", dDef 54 "_law_back", dDef 55 "_law_left", dDef 56 "_law_side", dDef 57 "_law_half", dDef 58 "_law_before"]
def fn4 : List He.DefD := [dDef 59 "_law_gust", dDef 60 "_law_share", dDef 61 "_law_sums_right", dDef 62 "_law_between_right", dDef 63 "_law_senses_right", dDef 64 "_law_directions_right", dDef 65 "_law_right", dDef 66 "law"]
def fn : List He.DefD := fn0 ++ (fn1 ++ (fn2 ++ (fn3 ++ (fn4))))
def fa0 : List He.Fa := [.glo "is_whole", .glo "are_whole", .glo "ratio", .glo "point_of", .glo "point_sum", .glo "point_gap", .glo "point_times", .glo "course_to", .glo "side_of", .glo "along", .glo "overshoot", .glo "turn"]
def fa1 : List He.Fa := [.glo "is_fraction", .glo "is_point", .glo "is_side", .glo "is_direction", .glo "need_fraction", .glo "need_point", .glo "need_side", .glo "need_direction", .glo "direction_of", .glo "is_earlier", .glo "half_turn", .glo "point_at"]
def fa2 : List He.Fa := [.glo "plus", .glo "minus", .glo "times", .glo "between", .glo "sense", .glo "side_through", .glo "excess", .glo "_law_source", .glo "_law_rounds", .glo "_law_draw", .glo "_law_pick", .glo "_law_least"]
def fa3 : List He.Fa := [.glo "_law_spot", .glo "_law_part", .glo "_law_sum", .glo "_law_by", .glo "_law_add", .glo "_law_grow", .glo "_law_midway", .glo "_law_back", .glo "_law_left", .glo "_law_side", .glo "_law_half", .glo "_law_before"]
def fa4 : List He.Fa := [.glo "_law_gust", .glo "_law_share", .glo "_law_sums_right", .glo "_law_between_right", .glo "_law_senses_right", .glo "_law_directions_right", .glo "_law_right", .glo "law", .free "isinstance", .free "int", .free "bool", .free "tuple"]
def fa5 : List He.Fa := [.free "len", .free "all", .free "abs", .free "max", .free "min", .free "divmod", .free "range", .free "repr"]
def fa : List He.Fa := fa0 ++ (fa1 ++ (fa2 ++ (fa3 ++ (fa4 ++ (fa5)))))
def ex (K : PySem.W.Frag) : Bool := He.eqO (PySem.W.nsIn K mainGlobals "gcd") (some (some (.builtin "math.gcd")))
def ob (s : PySem.W.SharedT) : AlQ := obsQ fa fn ex (HandSHeadRun.getT s)
theorem ob_eq (s : PySem.W.SharedT) : ob s = (hookQ fa fn ex).obs s.abs := obsQ_eq (HandSHeadRun.getT_eq s)
theorem run (w : World) : HandSHeadRun.RunEqI R (PySem.W.view R.prog [0, 66]) (hookQ fa fn ex) ob 8000 loose w := by
  unfold HandSHeadRun.RunEqI
  kernel_rfl
end K2
namespace K2
open PySem PySem.Spec PyProof.Rows L2
/-! ### points and fractions in least terms -/
def g2 (x y : Int) : Int := ((x.natAbs.gcd y.natAbs : Nat) : Int)
def g3 (x y w : Int) : Int := (((x.natAbs.gcd y.natAbs).gcd w.natAbs : Nat) : Int)
structure P3 where
  x : Int
  y : Int
  w : Int
structure P2 where
  n : Int
  d : Int
def Pt (p : P3) : Prop := 0 < p.w ∧ g3 p.x p.y p.w = 1
def Fr (f : P2) : Prop := 0 < f.d ∧ g2 f.n f.d = 1
def nm3 (x y w : Int) : P3 := ⟨x / g3 x y w, y / g3 x y w, w / g3 x y w⟩
def nm2 (n d : Int) : P2 := ⟨n / g2 n d, d / g2 n d⟩
theorem g3_x (x y w : Int) : g3 x y w ∣ x := Int.natAbs_dvd_natAbs.mp (Nat.dvd_trans (Nat.gcd_dvd_left _ _) (Nat.gcd_dvd_left _ _))
theorem g3_y (x y w : Int) : g3 x y w ∣ y := Int.natAbs_dvd_natAbs.mp (Nat.dvd_trans (Nat.gcd_dvd_left _ _) (Nat.gcd_dvd_right _ _))
theorem g3_w (x y w : Int) : g3 x y w ∣ w := Int.natAbs_dvd_natAbs.mp (Nat.gcd_dvd_right _ _)
theorem g2_x (x y : Int) : g2 x y ∣ x := Int.natAbs_dvd_natAbs.mp (Nat.gcd_dvd_left _ _)
theorem g2_y (x y : Int) : g2 x y ∣ y := Int.natAbs_dvd_natAbs.mp (Nat.gcd_dvd_right _ _)
theorem g3_pos {x y w : Int} (h : w ≠ 0) : 1 ≤ g3 x y w := by
  have : 0 < (x.natAbs.gcd y.natAbs).gcd w.natAbs := Nat.gcd_pos_of_pos_right _ (Int.natAbs_pos.mpr h)
  unfold g3
  omega
theorem g2_pos {x y : Int} (h : y ≠ 0) : 1 ≤ g2 x y := by
  have : 0 < x.natAbs.gcd y.natAbs := Nat.gcd_pos_of_pos_right _ (Int.natAbs_pos.mpr h)
  unfold g2
  omega
theorem g2_pos' {x y : Int} (h : x ≠ 0) : 1 ≤ g2 x y := by
  have : 0 < x.natAbs.gcd y.natAbs := Nat.gcd_pos_of_pos_left _ (Int.natAbs_pos.mpr h)
  unfold g2
  omega
theorem g2_nonneg (x y : Int) : 0 ≤ g2 x y := Int.natCast_nonneg _
theorem g3_nonneg (x y w : Int) : 0 ≤ g3 x y w := Int.natCast_nonneg _
theorem g2_scale {k x y : Int} (hk : 0 ≤ k) : g2 (k * x) (k * y) = k * g2 x y := by
  unfold g2
  rw [Int.natAbs_mul, Int.natAbs_mul, Nat.gcd_mul_left, Int.natCast_mul, Int.natAbs_of_nonneg hk]
theorem g3_scale {k x y w : Int} (hk : 0 ≤ k) : g3 (k * x) (k * y) (k * w) = k * g3 x y w := by
  unfold g3
  rw [Int.natAbs_mul, Int.natAbs_mul, Int.natAbs_mul, Nat.gcd_mul_left, Nat.gcd_mul_left, Int.natCast_mul, Int.natAbs_of_nonneg hk]
theorem ex3 {x y w : Int} (h : w ≠ 0) : ∃ g a b c : Int, 1 ≤ g ∧ x = g * a ∧ y = g * b ∧ w = g * c ∧ nm3 x y w = ⟨a, b, c⟩ ∧ g3 a b c = 1 := by
  have hg := g3_pos (x := x) (y := y) h
  obtain ⟨a, ha⟩ := g3_x x y w
  obtain ⟨b, hb⟩ := g3_y x y w
  obtain ⟨c, hc⟩ := g3_w x y w
  refine ⟨g3 x y w, a, b, c, hg, ha, hb, hc, ?_, ?_⟩
  · have q : ∀ {u v : Int}, u = g3 x y w * v → u / g3 x y w = v := fun {u v} e => by
      have e2 : u / g3 x y w = (g3 x y w * v) / g3 x y w := congrArg (· / g3 x y w) e
      rw [e2, Int.mul_ediv_cancel_left _ (show g3 x y w ≠ 0 by omega)]
    unfold nm3
    rw [q ha, q hb, q hc]
  · have e : g3 x y w = g3 x y w * g3 a b c := by
      have z := g3_scale (k := g3 x y w) (x := a) (y := b) (w := c) (by omega)
      rw [← ha, ← hb, ← hc] at z
      exact z
    have e2 : g3 x y w * 1 = g3 x y w * g3 a b c := by rw [Int.mul_one]; exact e
    exact (Int.eq_of_mul_eq_mul_left (show g3 x y w ≠ 0 by omega) e2).symm
theorem ex2 {x y : Int} (h : 1 ≤ g2 x y) : ∃ a b : Int, x = g2 x y * a ∧ y = g2 x y * b ∧ x / g2 x y = a ∧ y / g2 x y = b ∧ g2 a b = 1 := by
  obtain ⟨a, ha⟩ := g2_x x y
  obtain ⟨b, hb⟩ := g2_y x y
  have q : ∀ {u v : Int}, u = g2 x y * v → u / g2 x y = v := fun {u v} e => by
    have e2 : u / g2 x y = (g2 x y * v) / g2 x y := congrArg (· / g2 x y) e
    rw [e2, Int.mul_ediv_cancel_left _ (show g2 x y ≠ 0 by omega)]
  refine ⟨a, b, ha, hb, q ha, q hb, ?_⟩
  have e : g2 x y = g2 x y * g2 a b := by
    have z := g2_scale (k := g2 x y) (x := a) (y := b) (by omega)
    rw [← ha, ← hb] at z
    exact z
  have e2 : g2 x y * 1 = g2 x y * g2 a b := by rw [Int.mul_one]; exact e
  exact (Int.eq_of_mul_eq_mul_left (show g2 x y ≠ 0 by omega) e2).symm
theorem pos_of_mul {g c : Int} (hg : 1 ≤ g) (h : 0 < g * c) : 0 < c := by
  by_cases hc : 0 < c
  · exact hc
  · have : g * c ≤ 0 := Int.mul_nonpos_of_nonneg_of_nonpos (by omega) (by omega)
    omega
theorem nm3_pt {x y w : Int} (h : 0 < w) : Pt (nm3 x y w) := by
  obtain ⟨g, a, b, c, hg, _, _, hw, e, u⟩ := ex3 (x := x) (y := y) (show w ≠ 0 by omega)
  rw [e]
  exact ⟨pos_of_mul hg (hw ▸ h), u⟩
theorem nm2_fr {x y : Int} (h : 0 < y) : Fr (nm2 x y) := by
  obtain ⟨a, b, _, hy, e1, e2, u⟩ := ex2 (g2_pos (x := x) (show y ≠ 0 by omega))
  unfold nm2
  rw [e1, e2]
  refine ⟨pos_of_mul (g2_pos (x := x) (show y ≠ 0 by omega)) ?_, u⟩
  rw [← hy]
  exact h
/-! ### as rational numbers -/
def vx (p : P3) : Rat := (p.x : Rat) / (p.w : Rat)
def vy (p : P3) : Rat := (p.y : Rat) / (p.w : Rat)
def vf (f : P2) : Rat := (f.n : Rat) / (f.d : Rat)
theorem rat_ne {w : Int} (h : w ≠ 0) : (w : Rat) ≠ 0 := fun z => h (Rat.intCast_inj.mp (show (w : Rat) = ((0 : Int) : Rat) from z))
theorem nm3_vx {x y w : Int} (h : w ≠ 0) : vx (nm3 x y w) = (x : Rat) / (w : Rat) := by
  obtain ⟨g, a, b, c, hg, hx, hy, hw, e, u⟩ := ex3 (x := x) (y := y) h
  have hc : c ≠ 0 := fun z => h (by rw [hw, z, Int.mul_zero])
  rw [e, hx, hw]
  show (a : Rat) / (c : Rat) = _
  rw [Rat.intCast_mul, Rat.intCast_mul]
  have h1 := rat_ne hc
  have h2 := rat_ne (show g ≠ 0 by omega)
  grind
theorem nm3_vy {x y w : Int} (h : w ≠ 0) : vy (nm3 x y w) = (y : Rat) / (w : Rat) := by
  obtain ⟨g, a, b, c, hg, hx, hy, hw, e, u⟩ := ex3 (x := x) (y := y) h
  have hc : c ≠ 0 := fun z => h (by rw [hw, z, Int.mul_zero])
  rw [e, hy, hw]
  show (b : Rat) / (c : Rat) = _
  rw [Rat.intCast_mul, Rat.intCast_mul]
  have h1 := rat_ne hc
  have h2 := rat_ne (show g ≠ 0 by omega)
  grind
theorem nm2_vf {x y : Int} (h : y ≠ 0) : vf (nm2 x y) = (x : Rat) / (y : Rat) := by
  have hg := g2_pos (x := x) h
  obtain ⟨a, b, hx, hy, e1, e2, u⟩ := ex2 hg
  have hb : b ≠ 0 := fun z => h (by rw [hy, z, Int.mul_zero])
  unfold nm2 vf
  rw [e1, e2]
  generalize g2 x y = g at hg hx hy
  rw [hx, hy, Rat.intCast_mul, Rat.intCast_mul]
  have h1 := rat_ne hb
  have h2 := rat_ne (show g ≠ 0 by omega)
  grind
theorem cross {x w x' w' : Int} (h : w ≠ 0) (h' : w' ≠ 0) (e : (x : Rat) / (w : Rat) = (x' : Rat) / (w' : Rat)) : x * w' = x' * w := by
  have a := rat_ne h
  have b := rat_ne h'
  have c : (x : Rat) * (w' : Rat) = (x' : Rat) * (w : Rat) := by grind
  have d : ((x * w' : Int) : Rat) = ((x' * w : Int) : Rat) := by
    rw [Rat.intCast_mul, Rat.intCast_mul]
    exact c
  exact Rat.intCast_inj.mp d
theorem pt_ext {p q : P3} (hp : Pt p) (hq : Pt q) (ex : vx p = vx q) (ey : vy p = vy q) : p = q := by
  obtain ⟨x, y, w⟩ := p
  obtain ⟨u, v, t⟩ := q
  obtain ⟨h1, h2⟩ := hp
  obtain ⟨h3, h4⟩ := hq
  dsimp only at h1 h2 h3 h4
  have c1 : x * t = u * w := cross (show w ≠ 0 by omega) (show t ≠ 0 by omega) ex
  have c2 : y * t = v * w := cross (show w ≠ 0 by omega) (show t ≠ 0 by omega) ey
  have s1 := g3_scale (k := t) (x := x) (y := y) (w := w) (by omega)
  have s2 := g3_scale (k := w) (x := u) (y := v) (w := t) (by omega)
  rw [h2, Int.mul_one] at s1
  rw [h4, Int.mul_one] at s2
  have e : t = w := by
    have z : g3 (t * x) (t * y) (t * w) = g3 (w * u) (w * v) (w * t) := by
      rw [Int.mul_comm t x, c1, Int.mul_comm u w, Int.mul_comm t y, c2, Int.mul_comm v w, Int.mul_comm t w]
    exact s1.symm.trans (z.trans s2)
  subst e
  have ex' : x = u := Int.eq_of_mul_eq_mul_right (show t ≠ 0 by omega) c1
  have ey' : y = v := Int.eq_of_mul_eq_mul_right (show t ≠ 0 by omega) c2
  rw [ex', ey']
theorem fr_ext {p q : P2} (hp : Fr p) (hq : Fr q) (e : vf p = vf q) : p = q := by
  obtain ⟨x, w⟩ := p
  obtain ⟨u, t⟩ := q
  obtain ⟨h1, h2⟩ := hp
  obtain ⟨h3, h4⟩ := hq
  dsimp only at h1 h2 h3 h4
  have c1 : x * t = u * w := cross (show w ≠ 0 by omega) (show t ≠ 0 by omega) e
  have s1 := g2_scale (k := t) (x := x) (y := w) (by omega)
  have s2 := g2_scale (k := w) (x := u) (y := t) (by omega)
  rw [h2, Int.mul_one] at s1
  rw [h4, Int.mul_one] at s2
  have e : t = w := by
    have z : g2 (t * x) (t * w) = g2 (w * u) (w * t) := by
      rw [Int.mul_comm t x, c1, Int.mul_comm u w, Int.mul_comm t w]
    exact s1.symm.trans (z.trans s2)
  subst e
  have ex' : x = u := Int.eq_of_mul_eq_mul_right (show t ≠ 0 by omega) c1
  rw [ex']
theorem nm3_id {x y w : Int} (h : Pt ⟨x, y, w⟩) : nm3 x y w = ⟨x, y, w⟩ := by
  have hw : 0 < w := h.1
  refine pt_ext (nm3_pt hw) h ?_ ?_
  · rw [nm3_vx (show w ≠ 0 by omega)]
    rfl
  · rw [nm3_vy (show w ≠ 0 by omega)]
    rfl
end K2
namespace PySem.W
open PySem PySem.Calls
theorem k2_args3 (a b c : Value) : argsOk "math.gcd" ⟨[a, b, c], []⟩ := by unfold argsOk; kernel_rfl
theorem k2_run3 (a : Int) (t : Tok) (b : Int) (u : Tok) (c : Int) (v : Tok) :
    Gives (Builtin.«math.gcd» ⟨[.int a t, .int b u, .int c v], []⟩) (.int (((((Nat.gcd 0 a.natAbs).gcd b.natAbs).gcd c.natAbs : Nat) : Int))) :=
  .of_wp fun M A E s Q h => by obtain ⟨hp, g, d, tk, os⟩ := s; wp_walk; exact ⟨_, rfl, h⟩
theorem k2_gcd3 {prog : Program} {w : World} {A : Around} {E : Value → Shared → Prop} {s : Shared} {Q : Value → Shared → Prop} {a b c : Int} {t u v : Tok}
    (h : Q (.int ((((a.natAbs.gcd b.natAbs).gcd c.natAbs : Nat) : Int)) s.toks) { s with toks := s.toks + 1 }) : wpAny (model prog w) A (call (.builtin "math.gcd") [.int a t, .int b u, .int c v]) Q E s := by
  have g := k2_run3 a t b u c v
  rw [Nat.gcd_zero_left] at g
  exact call_function_meets MGF.kind_gcd MGF.plain_gcd MGF.entry_gcd (k2_args3 _ _ _) g.meets h
end PySem.W
namespace K2
open PySem PySem.Spec PyProof.Rows L2
abbrev FnP (K : PySem.W.Frag) (x : Str) (st : Stmt) (f : Addr) (fd : FuncData) : Prop := FunD K x x (defArgs st) (defBody st) (defScope st) [] [] f fd
def rGcd3 : List V → Hp → VK → Prop := fun vs H Q => ∃ a b c : Int, vs = [.int a, .int b, .int c] ∧ Q (.int (g3 a b c)) H
def rGcd2 : List V → Hp → VK → Prop := fun vs H Q => ∃ a b : Int, vs = [.int a, .int b] ∧ Q (.int (g2 a b)) H
theorem cr_gcd3 {X : Cx} : CallR X (.builtin "math.gcd") rGcd3 := by
  intro pins s σ H vs us Q I r h
  obtain ⟨a, b, c, rfl, q⟩ := h
  cases r with
  | cons r1 r =>
  cases r with
  | cons r2 r =>
  cases r with
  | cons r3 r =>
  cases r
  obtain ⟨t, rfl⟩ := r1
  obtain ⟨u, rfl⟩ := r2
  obtain ⟨v, rfl⟩ := r3
  exact PySem.W.k2_gcd3 ⟨.int _, H, I.tok _, ⟨_, rfl⟩, q⟩
theorem cr_gcd2 {X : Cx} : CallR X (.builtin "math.gcd") rGcd2 := by
  intro pins s σ H vs us Q I r h
  exact cr_gcd pins s σ H vs us Q I r h
/-! ### values in the heap -/
theorem sameNew {H : Hp} {b : Addr} {o : HO} (e : H b = none) : Same H (upd H b o) := fun c u q => by
  rw [upd_ne (ne_of_none q e)]
  exact q
def At3 (H : Hp) (v : V) (p : P3) : Prop := ∃ a, v = .ref a ∧ H a = some (.tup [.int p.x, .int p.y, .int p.w])
def At2 (H : Hp) (v : V) (f : P2) : Prop := ∃ a, v = .ref a ∧ H a = some (.tup [.int f.n, .int f.d])
theorem At3.mono {H H' : Hp} {v : V} {p : P3} (s : Same H H') (h : At3 H v p) : At3 H' v p := by
  obtain ⟨a, e, h⟩ := h
  exact ⟨a, e, s _ _ h⟩
theorem At2.mono {H H' : Hp} {v : V} {p : P2} (s : Same H H') (h : At2 H v p) : At2 H' v p := by
  obtain ⟨a, e, h⟩ := h
  exact ⟨a, e, s _ _ h⟩
structure Nm (mg : Str → Option Value) : Prop where
  isi : mg "isinstance" = none
  int : mg "int" = none
  bool : mg "bool" = none
  tuple : mg "tuple" = none
  len : mg "len" = none
  all : mg "all" = none
  abs : mg "abs" = none
  max : mg "max" = none
  min : mg "min" = none
  divmod : mg "divmod" = none
  range : mg "range" = none
  repr : mg "repr" = none
  gcd : mg "gcd" = some (.builtin "math.gcd")
def spWhole : Sp := fun vs H Q _ => ∃ n : Int, vs = [.int n] ∧ Q (.bl true) H
def spAre : Sp := fun vs H Q _ => ∃ (a : Addr) (ns : List Int), vs = [.ref a, .int ns.length] ∧ H a = some (.tup (ns.map V.int)) ∧ ns.length ≤ 3 ∧ ∀ H', Same H H' → Q (.bl true) H'
section
variable {P : Program} {w : World} {K : PySem.W.Frag} {mg : Str → Option Value} {base : Heap} {f f1 f2 f3 : Addr} {fd fd1 fd2 fd3 : FuncData}
theorem scWhole : FnScope ["value"] ["value"] (defScope (top 9)) := ⟨rfl, rfl, rfl, by decide +kernel, rfl, by decide +kernel, by decide +kernel⟩
theorem scAre : FnScope ["value", "many", "part"] ["value", "many"] (defScope (top 10)) := ⟨rfl, rfl, rfl, by decide +kernel, rfl, by decide +kernel, by decide +kernel⟩
theorem bindsWhole (F : FnP K "is_whole" (top 9) f fd) : Binds K fd ["value"] [] := F.bindsN fun _ _ _ _ _ _ us hl => match us, hl with | [_], _ => rfl
theorem bindsAre (F : FnP K "are_whole" (top 10) f fd) : Binds K fd ["value", "many"] [] := F.bindsN fun _ _ _ _ _ _ us hl => match us, hl with | [_, _], _ => rfl
theorem okWhole (F : FnP K "is_whole" (top 9) f fd) (N : Nm mg) : FnOk P w K mg base CX0 1 f fd ["value"] spWhole := by
  refine F.ok scWhole (fun vs H Q E h => ?_) (fun cdv A outer s H vs Q E hr h => ?_)
  · obtain ⟨n, rfl, _⟩ := h
    rfl
  · obtain ⟨n, rfl, k⟩ := h
    have ii := N.isi
    refine ⟨_, PSs.nox (pss_one (ps_ret (pe_and (pe_callB call_isi (by rfl) ii (by decide +kernel) (pa_cons (pv 0) (pa_cons (pe_bltn (v := .ty "int") (by rfl) N.int (by decide +kernel) rfl) pa_nil)))
      (pe_one (pe_not (pe_callB call_isi (by rfl) ii (by decide +kernel) (pa_cons (pv 0) (pa_cons (pe_bltn (v := .ty "bool") (by rfl) N.bool (by decide +kernel) rfl) pa_nil)))))))), ?_⟩
    refine ⟨_, rfl, .int n, .ty "int", .type "int", .type "int", true, rfl, .ty _, .base (.int n), kit_ty (by decide +kernel), true, rfl, iteT ?_⟩
    exact ⟨_, rfl, .int n, .ty "bool", .type "int", .type "bool", false, rfl, .ty _, .base (.int n), kit_ty (by decide +kernel), false, rfl, k⟩
theorem okAre (F : FnP K "are_whole" (top 10) f fd) (F1 : FnP K "is_whole" (top 9) f1 fd1) (g1 : mg "is_whole" = some (.ref f1)) (N : Nm mg) : FnOk P w K mg base CX0 2 f fd ["value", "many"] spAre := by
  have G1 : FnOk P w K mg base CX0 1 f1 fd1 ["value"] spWhole := okWhole F1 N
  refine F.ok scAre (fun vs H Q E h => ?_) (fun cdv A outer s H vs Q E hr h => ?_)
  · obtain ⟨a, ns, rfl, _⟩ := h
    rfl
  · obtain ⟨a, ns, rfl, hs, hn, k⟩ := h
    have ii := N.isi
    refine ⟨_, PSs.nox (pss_one (ps_ret (pe_and (pe_callB call_isi (by rfl) ii (by decide +kernel) (pa_cons (pv 0) (pa_cons (pe_bltn (v := .ty "tuple") (by rfl) N.tuple (by decide +kernel) rfl) pa_nil)))
      (pe_and (pe_cmpR op_eq (pe_callB call_len_seq (by rfl) N.len PySem.boot_len (pa_cons (pv 0) pa_nil)) (pv 1) (nomark _))
      (pe_one (pe_callB (cr_all rfl) (by rfl) N.all (by decide +kernel) (pa_cons
        (pe_lc (own := [("part", 2)]) (g := gName 2) (tt := tYes) (by rfl) scAre.nd (pi_tup (pv 0)) (blkOk_by (own := [("part", 2)]) (N := ["value", "many", "part"]) (sc := defScope (top 10)) (by decide +kernel))
          (fun _ _ _ _ _ => pg_name (i := 2) scAre.nd rfl (Or.inl rfl)) (fun _ _ _ _ _ => pts_nil)
          (fun _ _ _ _ _ => pe_call G1 hr rfl g1 F1.kp (bindsWhole F1) .nil pass0 (pa_cons (pv 2) pa_nil))) pa_nil))))))), ?_⟩
    have sq : ∀ {H' : Hp}, Same H H' → SqT K H' a (ns.map V.int) := fun {H'} e => SqT.of (e _ _ hs)
    refine ⟨_, rfl, .ref a, .ty "tuple", .type "tuple", .type "tuple", true, rfl, .ty _, .base (.tup hs), kit_ty (by decide +kernel), true, rfl, iteT ?_⟩
    refine ⟨_, rfl, a, _, rfl, .inr (sq (Same.refl _)), _, rfl, rfl, _, rfl, ?_⟩
    rw [List.length_map, decide_eq_true rfl]
    refine iteT ⟨_, rfl, a, rfl, ⟨_, sq (Same.refl _)⟩, fun D hD => lc_tup (K := K) (a := a) (xs := ns.map V.int) (fun i H2 => H2 = upd H D (.lst ((List.replicate i true).map V.bl)))
        rfl (fun i H2 _ e => by rw [e]; exact sq (sameNew hD)) ?_ ?_⟩
    · rintro i v H2 hi rfl
      rw [List.getElem?_map] at hi
      obtain ⟨n, hn2, rfl⟩ : ∃ n, ns[i]? = some n ∧ V.int n = v := by
        cases q : ns[i]? with
        | none =>
          rw [q] at hi
          cases hi
        | some n =>
          rw [q] at hi
          exact ⟨n, rfl, Option.some.inj hi⟩
      have hl : i < ns.length := (List.getElem?_eq_some_iff.mp hn2).1
      have h3 : (3 : Nat) < sizeLine := by decide
      refine ⟨rfl, ?_⟩
      unfold tYes
      dsimp only
      rw [if_pos rfl]
      refine ⟨_, rfl, n, rfl, _, upd_same, ?_, ?_⟩
      · rw [List.length_map, List.length_replicate]
        omega
      · rw [upd_upd, List.replicate_succ', List.map_append]
        rfl
    · rintro H2 rfl
      refine ⟨D, _, rfl, SqL.of upd_same, ?_⟩
      have e : (List.replicate (List.map V.int ns).length true).all id = true := by
        rw [List.all_replicate]
        split <;> rfl
      rw [e]
      exact k _ (sameNew hD)
end
end K2
namespace K2
open PySem PySem.Spec PyProof.Rows L2
/-- a suite that is never come to -/
theorem psv {X : Cx} {ss : List Stmt} : PSs X ss (fun _ _ _ => False) := ⟨fun _ _ _ _ _ _ h => h.elim⟩
theorem g2_le {x y : Int} (h : 0 < y) : g2 x y ≤ y := Int.le_of_dvd h (g2_y x y)
theorem g3_le {x y w : Int} (h : 0 < w) : g3 x y w ≤ w := Int.le_of_dvd h (g3_w x y w)
/-- within 2 ^ 62 -/
def Sm (x : Int) : Prop := -(2 ^ 62) < x ∧ x < 2 ^ 62
theorem Sm.mul {x y : Int} (h : Sm x) : CMul x y := .inl ⟨by have := h.1; omega, by have := h.2; omega⟩
def spRatio : Sp := fun vs H Q _ => ∃ t b : Int, vs = [.int t, .int b] ∧ 0 < b ∧ b < 1073741824 ∧ ∀ r H', Same H H' → At2 H' r (nm2 t b) → Q r H'
def spPof : Sp := fun vs H Q _ => ∃ x y z : Int, vs = [.int x, .int y, .int z] ∧ 0 < z ∧ z < 1073741824 ∧ ∀ r H', Same H H' → At3 H' r (nm3 x y z) → Q r H'
def pSum (p q : P3) : P3 := nm3 (p.x * q.w + q.x * p.w) (p.y * q.w + q.y * p.w) (p.w * q.w)
def pGap (p q : P3) : P3 := nm3 (p.x * q.w - q.x * p.w) (p.y * q.w - q.y * p.w) (p.w * q.w)
def pTimes (p : P3) (f : P2) : P3 := nm3 (p.x * f.n) (p.y * f.n) (p.w * f.d)
def Sm3 (p : P3) : Prop := Sm p.x ∧ Sm p.y ∧ 0 < p.w ∧ p.w ≤ 30000
def Sm2 (f : P2) : Prop := Sm f.n ∧ 0 < f.d ∧ f.d ≤ 30000
def sp33 (g : P3 → P3 → P3) : Sp := fun vs H Q _ => ∃ (u v : V) (p q : P3), vs = [u, v] ∧ At3 H u p ∧ At3 H v q ∧ Sm3 p ∧ Sm3 q ∧ ∀ r H', Same H H' → At3 H' r (g p q) → Q r H'
def spTimes : Sp := fun vs H Q _ => ∃ (u v : V) (p : P3) (q : P2), vs = [u, v] ∧ At3 H u p ∧ At2 H v q ∧ Sm3 p ∧ Sm2 q ∧ ∀ r H', Same H H' → At3 H' r (pTimes p q) → Q r H'
theorem w_mul {a b : Int} (ha : 0 < a) (ha2 : a ≤ 30000) (hb : 0 < b) (hb2 : b ≤ 30000) : 0 < a * b ∧ a * b < 1073741824 := by
  refine ⟨Int.mul_pos ha hb, ?_⟩
  have : a * b ≤ 30000 * 30000 := Int.mul_le_mul ha2 hb2 (by omega) (by omega)
  omega
section
variable {P : Program} {w : World} {K : PySem.W.Frag} {mg : Str → Option Value} {base : Heap} {f f1 f2 f3 : Addr} {fd fd1 fd2 fd3 : FuncData}
theorem scRatio : FnScope ["top", "bottom", "common"] ["top", "bottom"] (defScope (top 11)) := ⟨rfl, rfl, rfl, by decide +kernel, rfl, by decide +kernel, by decide +kernel⟩
theorem scPof : FnScope ["x", "y", "w", "common"] ["x", "y", "w"] (defScope (top 12)) := ⟨rfl, rfl, rfl, by decide +kernel, rfl, by decide +kernel, by decide +kernel⟩
theorem scSum : FnScope ["one", "two", "x", "y", "w", "u", "v", "t"] ["one", "two"] (defScope (top 13)) := ⟨rfl, rfl, rfl, by decide +kernel, rfl, by decide +kernel, by decide +kernel⟩
theorem bindsRatio (F : FnP K "ratio" (top 11) f fd) : Binds K fd ["top", "bottom"] [] := F.bindsN fun _ _ _ _ _ _ us hl => match us, hl with | [_, _], _ => rfl
theorem bindsPof (F : FnP K "point_of" (top 12) f fd) : Binds K fd ["x", "y", "w"] [] := F.bindsN fun _ _ _ _ _ _ us hl => match us, hl with | [_, _, _], _ => rfl
theorem okRatio (F : FnP K "ratio" (top 11) f fd) (N : Nm mg) : FnOk P w K mg base CX0 1 f fd ["top", "bottom"] spRatio := by
  refine F.ok scRatio (fun vs H Q E h => ?_) (fun cdv A outer s H vs Q E hr h => ?_)
  · obtain ⟨t, b, rfl, _⟩ := h
    rfl
  · obtain ⟨t, b, rfl, b0, b1, k⟩ := h
    refine ⟨_, PSs.nox (pss_cons (ps_set (i := 2) scRatio.nd rfl (.inl rfl) (pe_callBfun cr_gcd2 (by rfl) N.gcd (pa_cons (pv 0) (pa_cons (pv 1) pa_nil))))
      (pss_cons (ps_if (pt_cmpR op_lt (pv 1) pe_int (nomark _)) psv pss_nil)
      (pss_one (ps_ret (pe_tup (pa_cons (pe_op op_fdiv (pv 0) (pv 2)) (pa_cons (pe_op op_fdiv (pv 1) (pv 2)) pa_nil))))))), ?_⟩
    have g0 := g2_pos (x := t) (show b ≠ 0 by omega)
    have g1 := g2_le (x := t) b0
    refine ⟨_, rfl, _, rfl, t, b, rfl, ?_⟩
    refine ⟨_, rfl, b, 0, rfl, rfl, _, rfl, ite2 (fun z => absurd (of_decide_eq_true z) (by omega)) (fun _ => ?_)⟩
    refine ⟨_, rfl, _, rfl, t, g2 t b, rfl, rfl, ⟨by omega, by omega⟩, _, rfl, _, rfl, b, g2 t b, rfl, rfl, ⟨by omega, by omega⟩, (by show 2 ≤ sizeLine; decide), fun p hp => ?_⟩
    exact k _ _ (sameNew hp) ⟨p, rfl, upd_same⟩
theorem okPof (F : FnP K "point_of" (top 12) f fd) (N : Nm mg) : FnOk P w K mg base CX0 1 f fd ["x", "y", "w"] spPof := by
  refine F.ok scPof (fun vs H Q E h => ?_) (fun cdv A outer s H vs Q E hr h => ?_)
  · obtain ⟨t, b, z, rfl, _⟩ := h
    rfl
  · obtain ⟨x, y, z, rfl, b0, b1, k⟩ := h
    refine ⟨_, PSs.nox (pss_cons (ps_set (i := 3) scPof.nd rfl (.inl rfl) (pe_callBfun cr_gcd3 (by rfl) N.gcd (pa_cons (pv 0) (pa_cons (pv 1) (pa_cons (pv 2) pa_nil)))))
      (pss_cons (ps_if (pt_cmpR op_lt (pv 2) pe_int (nomark _)) psv pss_nil)
      (pss_one (ps_ret (pe_tup (pa_cons (pe_op op_fdiv (pv 0) (pv 3)) (pa_cons (pe_op op_fdiv (pv 1) (pv 3)) (pa_cons (pe_op op_fdiv (pv 2) (pv 3)) pa_nil)))))))), ?_⟩
    have g0 := g3_pos (x := x) (y := y) (show z ≠ 0 by omega)
    have g1 := g3_le (x := x) (y := y) b0
    refine ⟨_, rfl, _, rfl, _, rfl, x, y, z, rfl, ?_⟩
    refine ⟨_, rfl, z, 0, rfl, rfl, _, rfl, ite2 (fun z => absurd (of_decide_eq_true z) (by omega)) (fun _ => ?_)⟩
    refine ⟨_, rfl, _, rfl, x, _, rfl, rfl, ⟨by omega, by omega⟩, _, rfl, _, rfl, y, _, rfl, rfl, ⟨by omega, by omega⟩, _, rfl, _, rfl, z, _, rfl, rfl, ⟨by omega, by omega⟩, (by show 3 ≤ sizeLine; decide), fun p hp => ?_⟩
    exact k _ _ (sameNew hp) ⟨p, rfl, upd_same⟩
theorem scGap : FnScope ["one", "two", "x", "y", "w", "u", "v", "t"] ["one", "two"] (defScope (top 14)) := ⟨rfl, rfl, rfl, by decide +kernel, rfl, by decide +kernel, by decide +kernel⟩
theorem scTimes : FnScope ["point", "fraction", "x", "y", "w"] ["point", "fraction"] (defScope (top 15)) := ⟨rfl, rfl, rfl, by decide +kernel, rfl, by decide +kernel, by decide +kernel⟩
theorem scCourse : FnScope ["one", "two", "x", "y", "w", "u", "v", "t"] ["one", "two"] (defScope (top 16)) := ⟨rfl, rfl, rfl, by decide +kernel, rfl, by decide +kernel, by decide +kernel⟩
theorem bindsSum (F : FnP K "point_sum" (top 13) f fd) : Binds K fd ["one", "two"] [] := F.bindsN fun _ _ _ _ _ _ us hl => match us, hl with | [_, _], _ => rfl
theorem bindsGap (F : FnP K "point_gap" (top 14) f fd) : Binds K fd ["one", "two"] [] := F.bindsN fun _ _ _ _ _ _ us hl => match us, hl with | [_, _], _ => rfl
theorem bindsCourse (F : FnP K "course_to" (top 16) f fd) : Binds K fd ["one", "two"] [] := F.bindsN fun _ _ _ _ _ _ us hl => match us, hl with | [_, _], _ => rfl
theorem bindsTimes (F : FnP K "point_times" (top 15) f fd) : Binds K fd ["point", "fraction"] [] := F.bindsN fun _ _ _ _ _ _ us hl => match us, hl with | [_, _], _ => rfl
theorem okSum (F : FnP K "point_sum" (top 13) f fd) (F1 : FnP K "point_of" (top 12) f1 fd1) (gg1 : mg "point_of" = some (.ref f1)) (N : Nm mg) : FnOk P w K mg base CX0 2 f fd ["one", "two"] (sp33 pSum) := by
  have G1 : FnOk P w K mg base CX0 1 f1 fd1 ["x", "y", "w"] spPof := okPof F1 N
  refine F.ok scSum (fun vs H Q E h => ?_) (fun cdv A outer s H vs Q E hr h => ?_)
  · obtain ⟨u, v, p, q, rfl, _⟩ := h
    rfl
  · obtain ⟨u, v, ⟨x1, y1, w1⟩, ⟨x2, y2, w2⟩, rfl, ⟨a1, rfl, h1⟩, ⟨a2, rfl, h2⟩, ⟨sx1, sy1, w10, w11⟩, ⟨sx2, sy2, w20, w21⟩, k⟩ := h
    dsimp only at *
    refine ⟨_, PSs.nox (pss_cons (ps_asg (pe_tup (pa_cons (pv 0) (pa_cons (pv 1) pa_nil))) (pg_tup (n := 2) rfl (pgs_cons (pg_tup (n := 3) rfl (pgs_cons (pg_name (i := 2) scSum.nd rfl (.inl rfl)) (pgs_cons (pg_name (i := 3) scSum.nd rfl (.inl rfl)) (pgs_cons (pg_name (i := 4) scSum.nd rfl (.inl rfl)) (pgs_nil))))) (pgs_cons (pg_tup (n := 3) rfl (pgs_cons (pg_name (i := 5) scSum.nd rfl (.inl rfl)) (pgs_cons (pg_name (i := 6) scSum.nd rfl (.inl rfl)) (pgs_cons (pg_name (i := 7) scSum.nd rfl (.inl rfl)) (pgs_nil))))) pgs_nil))))
      (pss_one (ps_ret (pe_call G1 hr rfl gg1 F1.kp (bindsPof F1) .nil pass0 (pa_cons (pe_op op_add (pe_op op_mul (pv 2) (pv 7)) (pe_op op_mul (pv 5) (pv 4)))
        (pa_cons (pe_op op_add (pe_op op_mul (pv 3) (pv 7)) (pe_op op_mul (pv 6) (pv 4))) (pa_cons (pe_op op_mul (pv 4) (pv 7)) pa_nil))))))), ?_⟩
    have sw : Sm w1 := ⟨by omega, by omega⟩
    obtain ⟨m0, m1⟩ := w_mul w10 w11 w20 w21
    refine ⟨_, rfl, _, rfl, (by show 2 ≤ sizeLine; decide), fun p hp => ⟨p, _, rfl, SqT.of upd_same, rfl, _, _, rfl, ⟨a1, _, rfl, SqT.of (sameNew hp _ _ h1), rfl, _, _, rfl, _, _, rfl, _, _, rfl, rfl, _, _, rfl, ⟨a2, _, rfl, SqT.of (sameNew hp _ _ h2), rfl, _, _, rfl, _, _, rfl, _, _, rfl, rfl, rfl, ?_⟩⟩⟩⟩
    exact ⟨_, rfl, _, rfl, x1, w2, rfl, rfl, sx1.mul, _, rfl, _, rfl, x2, w1, rfl, rfl, sx2.mul, _, _, rfl, rfl, _, rfl, _, rfl, y1, w2, rfl, rfl, sy1.mul, _, rfl, _, rfl, y2, w1, rfl, rfl, sy2.mul, _, _, rfl, rfl, _, rfl, _, rfl, w1, w2, rfl, rfl, sw.mul, _, _, _, rfl, m0, m1, fun r H' s' at3 => k r H' ((sameNew hp).trans s') at3⟩
theorem okGap (F : FnP K "point_gap" (top 14) f fd) (F1 : FnP K "point_of" (top 12) f1 fd1) (gg1 : mg "point_of" = some (.ref f1)) (N : Nm mg) : FnOk P w K mg base CX0 2 f fd ["one", "two"] (sp33 pGap) := by
  have G1 : FnOk P w K mg base CX0 1 f1 fd1 ["x", "y", "w"] spPof := okPof F1 N
  refine F.ok scGap (fun vs H Q E h => ?_) (fun cdv A outer s H vs Q E hr h => ?_)
  · obtain ⟨u, v, p, q, rfl, _⟩ := h
    rfl
  · obtain ⟨u, v, ⟨x1, y1, w1⟩, ⟨x2, y2, w2⟩, rfl, ⟨a1, rfl, h1⟩, ⟨a2, rfl, h2⟩, ⟨sx1, sy1, w10, w11⟩, ⟨sx2, sy2, w20, w21⟩, k⟩ := h
    dsimp only at *
    refine ⟨_, PSs.nox (pss_cons (ps_asg (pe_tup (pa_cons (pv 0) (pa_cons (pv 1) pa_nil))) (pg_tup (n := 2) rfl (pgs_cons (pg_tup (n := 3) rfl (pgs_cons (pg_name (i := 2) scGap.nd rfl (.inl rfl)) (pgs_cons (pg_name (i := 3) scGap.nd rfl (.inl rfl)) (pgs_cons (pg_name (i := 4) scGap.nd rfl (.inl rfl)) (pgs_nil))))) (pgs_cons (pg_tup (n := 3) rfl (pgs_cons (pg_name (i := 5) scGap.nd rfl (.inl rfl)) (pgs_cons (pg_name (i := 6) scGap.nd rfl (.inl rfl)) (pgs_cons (pg_name (i := 7) scGap.nd rfl (.inl rfl)) (pgs_nil))))) pgs_nil))))
      (pss_one (ps_ret (pe_call G1 hr rfl gg1 F1.kp (bindsPof F1) .nil pass0 (pa_cons (pe_op op_sub (pe_op op_mul (pv 2) (pv 7)) (pe_op op_mul (pv 5) (pv 4)))
        (pa_cons (pe_op op_sub (pe_op op_mul (pv 3) (pv 7)) (pe_op op_mul (pv 6) (pv 4))) (pa_cons (pe_op op_mul (pv 4) (pv 7)) pa_nil))))))), ?_⟩
    have sw : Sm w1 := ⟨by omega, by omega⟩
    obtain ⟨m0, m1⟩ := w_mul w10 w11 w20 w21
    refine ⟨_, rfl, _, rfl, (by show 2 ≤ sizeLine; decide), fun p hp => ⟨p, _, rfl, SqT.of upd_same, rfl, _, _, rfl, ⟨a1, _, rfl, SqT.of (sameNew hp _ _ h1), rfl, _, _, rfl, _, _, rfl, _, _, rfl, rfl, _, _, rfl, ⟨a2, _, rfl, SqT.of (sameNew hp _ _ h2), rfl, _, _, rfl, _, _, rfl, _, _, rfl, rfl, rfl, ?_⟩⟩⟩⟩
    exact ⟨_, rfl, _, rfl, x1, w2, rfl, rfl, sx1.mul, _, rfl, _, rfl, x2, w1, rfl, rfl, sx2.mul, _, _, rfl, rfl, _, rfl, _, rfl, y1, w2, rfl, rfl, sy1.mul, _, rfl, _, rfl, y2, w1, rfl, rfl, sy2.mul, _, _, rfl, rfl, _, rfl, _, rfl, w1, w2, rfl, rfl, sw.mul, _, _, _, rfl, m0, m1, fun r H' s' at3 => k r H' ((sameNew hp).trans s') at3⟩
theorem okTimes (F : FnP K "point_times" (top 15) f fd) (F1 : FnP K "point_of" (top 12) f1 fd1) (gg1 : mg "point_of" = some (.ref f1)) (N : Nm mg) : FnOk P w K mg base CX0 2 f fd ["point", "fraction"] spTimes := by
  have G1 : FnOk P w K mg base CX0 1 f1 fd1 ["x", "y", "w"] spPof := okPof F1 N
  refine F.ok scTimes (fun vs H Q E h => ?_) (fun cdv A outer s H vs Q E hr h => ?_)
  · obtain ⟨u, v, p, q, rfl, _⟩ := h
    rfl
  · obtain ⟨u, v, ⟨x1, y1, w1⟩, ⟨n, d⟩, rfl, ⟨a1, rfl, h1⟩, ⟨a2, rfl, h2⟩, ⟨sx1, sy1, w10, w11⟩, ⟨sn, d0, d1⟩, k⟩ := h
    dsimp only at *
    refine ⟨_, PSs.nox (pss_cons (ps_asg (pv 0) (pg_tup (n := 3) rfl (pgs_cons (pg_name (i := 2) scTimes.nd rfl (.inl rfl)) (pgs_cons (pg_name (i := 3) scTimes.nd rfl (.inl rfl)) (pgs_cons (pg_name (i := 4) scTimes.nd rfl (.inl rfl)) (pgs_nil))))))
      (pss_one (ps_ret (pe_call G1 hr rfl gg1 F1.kp (bindsPof F1) .nil pass0 (pa_cons (pe_op op_mul (pv 2) (pe_ix ix_tup (pv 1) pe_int (fun _ _ => rfl))) (pa_cons (pe_op op_mul (pv 3) (pe_ix ix_tup (pv 1) pe_int (fun _ _ => rfl))) (pa_cons (pe_op op_mul (pv 4) (pe_ix ix_tup (pv 1) pe_int (fun _ _ => rfl))) pa_nil))))))), ?_⟩
    have sw : Sm w1 := ⟨by omega, by omega⟩
    obtain ⟨m0, m1⟩ := w_mul w10 w11 d0 d1
    refine ⟨_, rfl, a1, _, rfl, SqT.of h1, rfl, _, _, rfl, _, _, rfl, _, _, rfl, rfl, ?_⟩
    exact ⟨_, rfl, _, rfl, a2, _, 0, .int n, rfl, rfl, SqT.of h2, rfl, x1, n, rfl, rfl, sx1.mul, _, rfl, _, rfl, a2, _, 0, .int n, rfl, rfl, SqT.of h2, rfl, y1, n, rfl, rfl, sy1.mul, _, rfl, _, rfl, a2, _, 1, .int d, rfl, rfl, SqT.of h2, rfl, w1, d, rfl, rfl, sw.mul, _, _, _, rfl, m0, m1, fun r H' s' at3 => k r H' s' at3⟩
end
end K2
namespace K2
open PySem PySem.Spec PyProof.Rows L2
def zx (p q : P3) : Int := q.x * p.w - p.x * q.w
def zy (p q : P3) : Int := q.y * p.w - p.y * q.w
def turnZ (p q r : P3) : Int := zx p q * (r.y * p.w - p.y * r.w) - zy p q * (r.x * p.w - p.x * r.w)
def spCourse : Sp := fun vs H Q _ => ∃ (u v : V) (p q : P3), vs = [u, v] ∧ At3 H u p ∧ At3 H v q ∧ Sm3 p ∧ Sm3 q ∧ ∀ r H', Same H H' → At2 H' r ⟨zx p q, zy p q⟩ → Q r H'
def spSideOf : Sp := fun vs H Q _ => ∃ (a b : Int) (u : V) (f : P2), vs = [.int a, .int b, u] ∧ At2 H u f ∧ Sm a ∧ Sm b ∧ 1 ≤ g3 (a * f.d) (b * f.d) f.n ∧ g3 (a * f.d) (b * f.d) f.n < 1073741824 ∧ ∀ r H', Same H H' → At3 H' r (nm3 (a * f.d) (b * f.d) f.n) → Q r H'
def spAlong : Sp := fun vs H Q _ => ∃ (a b : Int) (u : V) (p : P3), vs = [.int a, .int b, u] ∧ At3 H u p ∧ Sm a ∧ Sm b ∧ Sm3 p ∧ ∀ r H', Same H H' → At2 H' r (nm2 (a * p.x + b * p.y) p.w) → Q r H'
def spOver : Sp := fun vs H Q _ => ∃ (u v : V) (l p : P3), vs = [u, v] ∧ At3 H u l ∧ At3 H v p ∧ Sm3 p ∧ Q (.int (l.x * p.x + l.y * p.y - l.w * p.w)) H
def spTurn : Sp := fun vs H Q _ => ∃ (u v t : V) (p q r : P3), vs = [u, v, t] ∧ At3 H u p ∧ At3 H v q ∧ At3 H t r ∧ Sm3 p ∧ Sm3 q ∧ Sm3 r ∧ Sm (zx p q) ∧ Sm (zy p q) ∧ ∀ H', Same H H' → Q (.int (turnZ p q r)) H'
theorem Sm.mulR {x y : Int} (h : Sm y) : CMul x y := .inr ⟨by have := h.1; omega, by have := h.2; omega⟩
section
variable {P : Program} {w : World} {K : PySem.W.Frag} {mg : Str → Option Value} {base : Heap} {f f1 f2 f3 : Addr} {fd fd1 fd2 fd3 : FuncData}
theorem scSideOf : FnScope ["a", "b", "bound", "top", "bottom", "common"] ["a", "b", "bound"] (defScope (top 17)) := ⟨rfl, rfl, rfl, by decide +kernel, rfl, by decide +kernel, by decide +kernel⟩
theorem bindsSideOf (F : FnP K "side_of" (top 17) f fd) : Binds K fd ["a", "b", "bound"] [] := F.bindsN fun _ _ _ _ _ _ us hl => match us, hl with | [_, _, _], _ => rfl
theorem scAlong : FnScope ["a", "b", "point"] ["a", "b", "point"] (defScope (top 18)) := ⟨rfl, rfl, rfl, by decide +kernel, rfl, by decide +kernel, by decide +kernel⟩
theorem bindsAlong (F : FnP K "along" (top 18) f fd) : Binds K fd ["a", "b", "point"] [] := F.bindsN fun _ _ _ _ _ _ us hl => match us, hl with | [_, _, _], _ => rfl
theorem scOver : FnScope ["side", "point"] ["side", "point"] (defScope (top 19)) := ⟨rfl, rfl, rfl, by decide +kernel, rfl, by decide +kernel, by decide +kernel⟩
theorem bindsOver (F : FnP K "overshoot" (top 19) f fd) : Binds K fd ["side", "point"] [] := F.bindsN fun _ _ _ _ _ _ us hl => match us, hl with | [_, _], _ => rfl
theorem scTurn : FnScope ["one", "two", "three", "x", "y", "w", "u", "v"] ["one", "two", "three"] (defScope (top 20)) := ⟨rfl, rfl, rfl, by decide +kernel, rfl, by decide +kernel, by decide +kernel⟩
theorem bindsTurn (F : FnP K "turn" (top 20) f fd) : Binds K fd ["one", "two", "three"] [] := F.bindsN fun _ _ _ _ _ _ us hl => match us, hl with | [_, _, _], _ => rfl
theorem okCourse (F : FnP K "course_to" (top 16) f fd) (N : Nm mg) : FnOk P w K mg base CX0 1 f fd ["one", "two"] spCourse := by
  refine F.ok scCourse (fun vs H Q E h => ?_) (fun cdv A outer s H vs Q E hr h => ?_)
  · obtain ⟨u, v, p, q, rfl, _⟩ := h
    rfl
  · obtain ⟨u, v, ⟨x1, y1, w1⟩, ⟨x2, y2, w2⟩, rfl, ⟨a1, rfl, h1⟩, ⟨a2, rfl, h2⟩, ⟨sx1, sy1, w10, w11⟩, ⟨sx2, sy2, w20, w21⟩, k⟩ := h
    dsimp only at *
    refine ⟨_, PSs.nox (pss_cons (ps_asg (pe_tup (pa_cons (pv 0) (pa_cons (pv 1) pa_nil))) (pg_tup (n := 2) rfl (pgs_cons (pg_tup (n := 3) rfl (pgs_cons (pg_name (i := 2) scCourse.nd rfl (.inl rfl)) (pgs_cons (pg_name (i := 3) scCourse.nd rfl (.inl rfl)) (pgs_cons (pg_name (i := 4) scCourse.nd rfl (.inl rfl)) (pgs_nil))))) (pgs_cons (pg_tup (n := 3) rfl (pgs_cons (pg_name (i := 5) scCourse.nd rfl (.inl rfl)) (pgs_cons (pg_name (i := 6) scCourse.nd rfl (.inl rfl)) (pgs_cons (pg_name (i := 7) scCourse.nd rfl (.inl rfl)) (pgs_nil))))) pgs_nil))))
      (pss_one (ps_ret (pe_tup (pa_cons (pe_op op_sub (pe_op op_mul (pv 5) (pv 4)) (pe_op op_mul (pv 2) (pv 7))) (pa_cons (pe_op op_sub (pe_op op_mul (pv 6) (pv 4)) (pe_op op_mul (pv 3) (pv 7))) pa_nil)))))), ?_⟩
    refine ⟨_, rfl, _, rfl, (by show 2 ≤ sizeLine; decide), fun p hp => ⟨p, _, rfl, SqT.of upd_same, rfl, _, _, rfl, ⟨a1, _, rfl, SqT.of (sameNew hp _ _ h1), rfl, _, _, rfl, _, _, rfl, _, _, rfl, rfl, _, _, rfl, ⟨a2, _, rfl, SqT.of (sameNew hp _ _ h2), rfl, _, _, rfl, _, _, rfl, _, _, rfl, rfl, rfl, ?_⟩⟩⟩⟩
    exact ⟨_, rfl, _, rfl, x2, w1, rfl, rfl, sx2.mul, _, rfl, _, rfl, x1, w2, rfl, rfl, sx1.mul, _, _, rfl, rfl, _, rfl, _, rfl, y2, w1, rfl, rfl, sy2.mul, _, rfl, _, rfl, y1, w2, rfl, rfl, sy1.mul, _, _, rfl, rfl, (by show 2 ≤ sizeLine; decide), fun r hr2 => k _ _ ((sameNew hp).trans (sameNew hr2)) ⟨r, rfl, upd_same⟩⟩
theorem okSideOf (F : FnP K "side_of" (top 17) f fd) (N : Nm mg) : FnOk P w K mg base CX0 1 f fd ["a", "b", "bound"] spSideOf := by
  refine F.ok scSideOf (fun vs H Q E h => ?_) (fun cdv A outer s H vs Q E hr h => ?_)
  · obtain ⟨a, b, u, p, rfl, _⟩ := h
    rfl
  · obtain ⟨a, b, u, ⟨t, m⟩, rfl, ⟨a1, rfl, h1⟩, sa, sb, g0, g1, k⟩ := h
    dsimp only at *
    refine ⟨_, PSs.nox (pss_cons (ps_asg (pv 2) (pg_tup (n := 2) rfl (pgs_cons (pg_name (i := 3) scSideOf.nd rfl (.inl rfl)) (pgs_cons (pg_name (i := 4) scSideOf.nd rfl (.inl rfl)) (pgs_nil)))))
      (pss_cons (ps_set (i := 5) scSideOf.nd rfl (.inl rfl) (pe_callBfun cr_gcd3 (by rfl) N.gcd (pa_cons (pe_op op_mul (pv 0) (pv 4)) (pa_cons (pe_op op_mul (pv 1) (pv 4)) (pa_cons (pv 3) pa_nil)))))
      (pss_one (ps_ret (pe_tup (pa_cons (pe_op op_fdiv (pe_op op_mul (pv 0) (pv 4)) (pv 5)) (pa_cons (pe_op op_fdiv (pe_op op_mul (pv 1) (pv 4)) (pv 5)) (pa_cons (pe_op op_fdiv (pv 3) (pv 5)) pa_nil)))))))), ?_⟩
    refine ⟨_, rfl, a1, _, rfl, SqT.of h1, rfl, _, _, rfl, _, _, rfl, rfl, ?_⟩
    refine ⟨_, rfl, _, rfl, a, m, rfl, rfl, sa.mul, _, rfl, _, rfl, b, m, rfl, rfl, sb.mul, _, rfl, _, _, _, rfl, ?_⟩
    exact ⟨_, rfl, _, rfl, a, m, rfl, rfl, sa.mul, _, rfl, _, _, rfl, rfl, ⟨by omega, g1⟩, _, rfl, _, rfl, b, m, rfl, rfl, sb.mul, _, rfl, _, _, rfl, rfl, ⟨by omega, g1⟩, _, rfl, _, rfl, _, _, rfl, rfl, ⟨by omega, g1⟩, (by show 3 ≤ sizeLine; decide), fun r hr2 => k _ _ (sameNew hr2) ⟨r, rfl, upd_same⟩⟩
theorem okAlong (F : FnP K "along" (top 18) f fd) (F1 : FnP K "ratio" (top 11) f1 fd1) (gg1 : mg "ratio" = some (.ref f1)) (N : Nm mg) : FnOk P w K mg base CX0 2 f fd ["a", "b", "point"] spAlong := by
  have G1 : FnOk P w K mg base CX0 1 f1 fd1 ["top", "bottom"] spRatio := okRatio F1 N
  refine F.ok scAlong (fun vs H Q E h => ?_) (fun cdv A outer s H vs Q E hr h => ?_)
  · obtain ⟨a, b, u, p, rfl, _⟩ := h
    rfl
  · obtain ⟨a, b, u, ⟨x, y, z⟩, rfl, ⟨a1, rfl, h1⟩, sa, sb, ⟨sx, sy, z0, z1⟩, k⟩ := h
    dsimp only at *
    refine ⟨_, PSs.nox (pss_one (ps_ret (pe_call G1 hr rfl gg1 F1.kp (bindsRatio F1) .nil pass0 (pa_cons (pe_op op_add (pe_op op_mul (pv 0) (pe_ix ix_tup (pv 2) pe_int (fun _ _ => rfl))) (pe_op op_mul (pv 1) (pe_ix ix_tup (pv 2) pe_int (fun _ _ => rfl)))) (pa_cons (pe_ix ix_tup (pv 2) pe_int (fun _ _ => rfl)) pa_nil))))), ?_⟩
    exact ⟨_, rfl, _, rfl, a1, _, 0, .int x, rfl, rfl, SqT.of (h1), rfl, a, x, rfl, rfl, sa.mul, _, rfl, _, rfl, a1, _, 1, .int y, rfl, rfl, SqT.of (h1), rfl, b, y, rfl, rfl, sb.mul, _, _, rfl, rfl, _, rfl, a1, _, 2, .int z, rfl, rfl, SqT.of (h1), rfl, _, _, rfl, z0, by omega, fun r H' s' at2 => k r H' s' at2⟩
theorem okOver (F : FnP K "overshoot" (top 19) f fd) (N : Nm mg) : FnOk P w K mg base CX0 1 f fd ["side", "point"] spOver := by
  refine F.ok scOver (fun vs H Q E h => ?_) (fun cdv A outer s H vs Q E hr h => ?_)
  · obtain ⟨u, v, l, p, rfl, _⟩ := h
    rfl
  · obtain ⟨u, v, ⟨a, b, c⟩, ⟨x, y, z⟩, rfl, ⟨a1, rfl, h1⟩, ⟨a2, rfl, h2⟩, ⟨sx, sy, z0, z1⟩, k⟩ := h
    dsimp only at *
    have sz : Sm z := ⟨by omega, by omega⟩
    refine ⟨_, PSs.nox (pss_one (ps_ret (pe_op op_sub (pe_op op_add (pe_op op_mul (pe_ix ix_tup (pv 0) pe_int (fun _ _ => rfl)) (pe_ix ix_tup (pv 1) pe_int (fun _ _ => rfl))) (pe_op op_mul (pe_ix ix_tup (pv 0) pe_int (fun _ _ => rfl)) (pe_ix ix_tup (pv 1) pe_int (fun _ _ => rfl)))) (pe_op op_mul (pe_ix ix_tup (pv 0) pe_int (fun _ _ => rfl)) (pe_ix ix_tup (pv 1) pe_int (fun _ _ => rfl)))))), ?_⟩
    exact ⟨_, rfl, a1, _, 0, .int a, rfl, rfl, SqT.of (h1), rfl, _, rfl, a2, _, 0, .int x, rfl, rfl, SqT.of (h2), rfl, _, _, rfl, rfl, sx.mulR, _, rfl, a1, _, 1, .int b, rfl, rfl, SqT.of (h1), rfl, _, rfl, a2, _, 1, .int y, rfl, rfl, SqT.of (h2), rfl, _, _, rfl, rfl, sy.mulR, _, _, rfl, rfl, _, rfl, a1, _, 2, .int c, rfl, rfl, SqT.of (h1), rfl, _, rfl, a2, _, 2, .int z, rfl, rfl, SqT.of (h2), rfl, _, _, rfl, rfl, sz.mulR, _, _, rfl, rfl, k⟩
theorem okTurn (F : FnP K "turn" (top 20) f fd) (F1 : FnP K "course_to" (top 16) f1 fd1) (gg1 : mg "course_to" = some (.ref f1)) (N : Nm mg) : FnOk P w K mg base CX0 2 f fd ["one", "two", "three"] spTurn := by
  have G1 : FnOk P w K mg base CX0 1 f1 fd1 ["one", "two"] spCourse := okCourse F1 N
  refine F.ok scTurn (fun vs H Q E h => ?_) (fun cdv A outer s H vs Q E hr h => ?_)
  · obtain ⟨u, v, t, p, q, r, rfl, _⟩ := h
    rfl
  · obtain ⟨u, v, t, ⟨x1, y1, w1⟩, q, ⟨x3, y3, w3⟩, rfl, ⟨a1, rfl, h1⟩, h2, ⟨a3, rfl, h3⟩, m1, m2, m3, sx, sy, k⟩ := h
    obtain ⟨sx1, sy1, w10, w11⟩ := m1
    obtain ⟨sx3, sy3, w30, w31⟩ := m3
    dsimp only at *
    refine ⟨_, PSs.nox (pss_cons (ps_asg (pe_tup (pa_cons (pv 0) (pa_cons (pe_call G1 hr rfl gg1 F1.kp (bindsCourse F1) .nil pass0 (pa_cons (pv 0) (pa_cons (pv 1) pa_nil))) pa_nil))) (pg_tup (n := 2) rfl (pgs_cons (pg_tup (n := 3) rfl (pgs_cons (pg_name (i := 3) scTurn.nd rfl (.inl rfl)) (pgs_cons (pg_name (i := 4) scTurn.nd rfl (.inl rfl)) (pgs_cons (pg_name (i := 5) scTurn.nd rfl (.inl rfl)) (pgs_nil))))) (pgs_cons (pg_tup (n := 2) rfl (pgs_cons (pg_name (i := 6) scTurn.nd rfl (.inl rfl)) (pgs_cons (pg_name (i := 7) scTurn.nd rfl (.inl rfl)) (pgs_nil)))) pgs_nil))))
      (pss_one (ps_ret (pe_op op_sub (pe_op op_mul (pv 6) (pe_op op_sub (pe_op op_mul (pe_ix ix_tup (pv 2) pe_int (fun _ _ => rfl)) (pv 5)) (pe_op op_mul (pv 4) (pe_ix ix_tup (pv 2) pe_int (fun _ _ => rfl))))) (pe_op op_mul (pv 7) (pe_op op_sub (pe_op op_mul (pe_ix ix_tup (pv 2) pe_int (fun _ _ => rfl)) (pv 5)) (pe_op op_mul (pv 3) (pe_ix ix_tup (pv 2) pe_int (fun _ _ => rfl))))))))), ?_⟩
    refine ⟨_, rfl, _, rfl, _, rfl, .ref a1, v, ⟨x1, y1, w1⟩, q, rfl, ⟨a1, rfl, h1⟩, h2, ⟨sx1, sy1, w10, w11⟩, m2, fun r H1 s1 ⟨a4, er, h4⟩ => ?_⟩
    subst er
    refine ⟨(by show 2 ≤ sizeLine; decide), fun p hp => ⟨p, _, rfl, SqT.of upd_same, rfl, _, _, rfl, ⟨a1, _, rfl, SqT.of (sameNew hp _ _ (s1 _ _ h1)), rfl, _, _, rfl, _, _, rfl, _, _, rfl, rfl, _, _, rfl, ⟨a4, _, rfl, SqT.of (sameNew hp _ _ h4), rfl, _, _, rfl, _, _, rfl, rfl, rfl, ?_⟩⟩⟩⟩
    have e3 := sameNew (o := .tup [V.ref a1, V.ref a4]) hp _ _ (s1 _ _ h3)
    exact ⟨_, rfl, _, rfl, a3, _, 1, .int y3, rfl, rfl, SqT.of (e3), rfl, _, rfl, _, _, rfl, rfl, sy3.mul, _, rfl, _, rfl, a3, _, 2, .int w3, rfl, rfl, SqT.of (e3), rfl, _, _, rfl, rfl, sy1.mul, _, _, rfl, rfl, _, _, rfl, rfl, sx.mul, _, rfl, _, rfl, a3, _, 0, .int x3, rfl, rfl, SqT.of (e3), rfl, _, rfl, _, _, rfl, rfl, sx3.mul, _, rfl, _, rfl, a3, _, 2, .int w3, rfl, rfl, SqT.of (e3), rfl, _, _, rfl, rfl, sx1.mul, _, _, rfl, rfl, _, _, rfl, rfl, sy.mul, _, _, rfl, rfl, k _ (s1.trans (sameNew hp))⟩
end
end K2
namespace K2
open PySem PySem.Spec PyProof.Rows L2
/-! ### keywords alone -/
section
variable {X : Cx} {CX : CXT} {k : Nat} {f : Addr} {fd : FuncData} {ps ks : List Str} {sp : Sp} {E : XK} {x : Str} {p pos : Pos} {kws : List Keyword} {tk : TA} {g : List Value → List Value → List Value} {gV : List V → List V → List V}
def tCallK0 (sp : Sp) (gV : List V → List V → List V) (E : XK) (tk : TA) : TE := fun σ H Q => tk σ H fun zs H2 => sp (gV [] zs) H2 Q E
theorem pe_callK0 (F : FnOk X.prog X.w X.K X.mg X.base CX k f fd ps sp) (hr : Room k X.A) (hg : Gl X x) (hm : X.mg x = some (.ref f)) (hk : PySem.W.keepIn X.K (.ref f) = true) (hb : KBinds X.K fd ps ks g gV) (hx : Passes CX X E)
    (hkw : PK X kws tk) (hall : (backToKw pos (keywordEach kws X.env)).all (·.1.isSome) = true := by rfl) (hks : (backToKw pos (keywordEach kws X.env)).filterMap (·.1) = ks := by rfl)
    (hdb : (x == ("__debug__" : Str)) = false := by decide)
    (hpl : ((backTo pos (starEach [] X.env)).any (·.1) || (backToKw pos (keywordEach kws X.env)).any (·.1.isNone)) = false := by rfl) :
    PE X (.Call (.Name x p) [] kws pos) (tCallK0 sp gV E tk) := by
  refine ⟨fun pins s σ H Q I h => ?_⟩
  refine wpAny_Call_Name_kw (ld_glob I hg hm ?_ hdb)
  refine PySem.W.callWith_KW0 (first := []) (h₀ := X.base) I.ok.mod.kin hk hall ?_ hpl
  refine thn (hkw.run pos pins s σ H _ I h) fun ws s2 ⟨zs, H2, I2, rz, q2⟩ => ⟨I2.kIn, ?_⟩
  rw [hks]
  exact run_fnk (us := []) (vs := []) F hr hb hx I2 .nil rz q2
end
def gK1 {α : Type} : List α → List α → List α
  | [], [a] => [a]
  | _, _ => []
def gK2 {α : Type} (sw : Bool) : List α → List α → List α
  | [], [a, b] => if sw = true then [b, a] else [a, b]
  | _, _ => []
def gK3 {α : Type} : List α → List α → List α
  | [], [a, b, c] => [a, b, c]
  | _, _ => []
section
variable {K : PySem.W.Frag} {fd : FuncData} {ps ks : List Str}
theorem kb1 (hp : ps.length = 1) (h : ∀ (s : Shared) (a : Value), BindsTo s fd ⟨[], ks.zip [a]⟩ (ps.zip [a])) : KBinds K fd ps ks gK1 gK1 := by
  refine ⟨fun s us ws _ hl => ?_, fun {vs zs us ws} r rz => ?_⟩
  · match us, ws, hl with
    | [], [a], _ => exact h s a
    | [], [], hl => exact absurd hl (by rw [hp]; simp [gK1])
    | [], _ :: _ :: _, hl => exact absurd hl (by rw [hp]; simp [gK1])
    | _ :: _, _, hl => exact absurd hl (by rw [hp]; simp [gK1])
  · cases r with
    | nil =>
      cases rz with
      | nil => exact .nil
      | cons r1 r =>
        cases r with
        | nil => exact .cons r1 .nil
        | cons _ _ => exact .nil
    | cons _ _ => exact .nil
theorem kb2 (sw : Bool) (hp : ps.length = 2) (h : ∀ (s : Shared) (a b : Value), BindsTo s fd ⟨[], ks.zip [a, b]⟩ (ps.zip (if sw = true then [b, a] else [a, b]))) : KBinds K fd ps ks (gK2 sw) (gK2 sw) := by
  refine ⟨fun s us ws _ hl => ?_, fun {vs zs us ws} r rz => ?_⟩
  · match us, ws, hl with
    | [], [a, b], _ => exact h s a b
    | [], [], hl => exact absurd hl (by rw [hp]; simp [gK2])
    | [], [_], hl => exact absurd hl (by rw [hp]; simp [gK2])
    | [], _ :: _ :: _ :: _, hl => exact absurd hl (by rw [hp]; simp [gK2])
    | _ :: _, _, hl => exact absurd hl (by rw [hp]; simp [gK2])
  · cases r with
    | nil =>
      cases rz with
      | nil => exact .nil
      | cons r1 r =>
        cases r with
        | nil => exact .nil
        | cons r2 r =>
          cases r with
          | nil =>
            cases sw with
            | true => exact .cons r2 (.cons r1 .nil)
            | false => exact .cons r1 (.cons r2 .nil)
          | cons _ _ => exact .nil
    | cons _ _ => exact .nil
theorem kb3 (hp : ps.length = 3) (h : ∀ (s : Shared) (a b c : Value), BindsTo s fd ⟨[], ks.zip [a, b, c]⟩ (ps.zip [a, b, c])) : KBinds K fd ps ks gK3 gK3 := by
  refine ⟨fun s us ws _ hl => ?_, fun {vs zs us ws} r rz => ?_⟩
  · match us, ws, hl with
    | [], [a, b, c], _ => exact h s a b c
    | [], [], hl => exact absurd hl (by rw [hp]; simp [gK3])
    | [], [_], hl => exact absurd hl (by rw [hp]; simp [gK3])
    | [], [_, _], hl => exact absurd hl (by rw [hp]; simp [gK3])
    | [], _ :: _ :: _ :: _ :: _, hl => exact absurd hl (by rw [hp]; simp [gK3])
    | _ :: _, _, hl => exact absurd hl (by rw [hp]; simp [gK3])
  · cases r with
    | nil =>
      cases rz with
      | nil => exact .nil
      | cons r1 r =>
        cases r with
        | nil => exact .nil
        | cons r2 r =>
          cases r with
          | nil => exact .nil
          | cons r3 r =>
            cases r with
            | nil => exact .cons r1 (.cons r2 (.cons r3 .nil))
            | cons _ _ => exact .nil
    | cons _ _ => exact .nil
theorem kbD {x : Str} {pars : Arguments} {body : List Stmt} {sc : Scope} {f : Addr} (F : FunD K x x pars body sc [] [] f fd) {args : Args} {bs : List (Str × Value)}
    (h : ∀ (kV doc pm : Value) (an : Option Addr) (cdv ct : Value), bindArgs (PySem.W.fnOf x x pars body sc .none kV doc pm an cdv ct) args = pure bs) (s : Shared) : BindsTo s fd args bs := by
  obtain ⟨oc, od, dV, kV, doc, pm, an, cdv, ct, osl, rfl, lk, hcd, hD, hK⟩ := F.ex
  rcases hD with ⟨_, rfl⟩ | ⟨e, _⟩
  · exact .of_eq (h _ _ _ _ _ _)
  · exact absurd rfl e
end
/-! ### what is a fraction, a point, a side, a direction -/
def spIs2 (C : P2 → Prop) : Sp := fun vs H Q _ => ∃ (v : V) (f : P2), vs = [v] ∧ At2 H v f ∧ C f ∧ ∀ H', Same H H' → Q (.bl true) H'
def spIs3 (C : P3 → Prop) : Sp := fun vs H Q _ => ∃ (v : V) (f : P3), vs = [v] ∧ At3 H v f ∧ C f ∧ ∀ H', Same H H' → Q (.bl true) H'
def spNeed2 (C : P2 → Prop) : Sp := fun vs H Q _ => ∃ (v : V) (f : P2), vs = [v] ∧ At2 H v f ∧ C f ∧ ∀ H', Same H H' → Q .non H'
def spNeed3 (C : P3 → Prop) : Sp := fun vs H Q _ => ∃ (v : V) (f : P3), vs = [v] ∧ At3 H v f ∧ C f ∧ ∀ H', Same H H' → Q .non H'
def Di (f : P2) : Prop := g2 f.n f.d = 1
def Sd (l : P3) : Prop := ¬ (l.x = 0 ∧ l.y = 0) ∧ g3 l.x l.y l.w = 1
section
variable {P : Program} {w : World} {K : PySem.W.Frag} {mg : Str → Option Value} {base : Heap} {f f1 f2 f3 f4 : Addr} {fd fd1 fd2 fd3 fd4 : FuncData}
theorem scIsF : FnScope ["value"] ["value"] (defScope (top 22)) := ⟨rfl, rfl, rfl, by decide +kernel, rfl, by decide +kernel, by decide +kernel⟩
theorem bindsIsF (F : FnP K "is_fraction" (top 22) f fd) : Binds K fd ["value"] [] := F.bindsN fun _ _ _ _ _ _ us hl => match us, hl with | [_], _ => rfl
theorem scIsP : FnScope ["value"] ["value"] (defScope (top 23)) := ⟨rfl, rfl, rfl, by decide +kernel, rfl, by decide +kernel, by decide +kernel⟩
theorem bindsIsP (F : FnP K "is_point" (top 23) f fd) : Binds K fd ["value"] [] := F.bindsN fun _ _ _ _ _ _ us hl => match us, hl with | [_], _ => rfl
theorem scIsS : FnScope ["value"] ["value"] (defScope (top 24)) := ⟨rfl, rfl, rfl, by decide +kernel, rfl, by decide +kernel, by decide +kernel⟩
theorem bindsIsS (F : FnP K "is_side" (top 24) f fd) : Binds K fd ["value"] [] := F.bindsN fun _ _ _ _ _ _ us hl => match us, hl with | [_], _ => rfl
theorem scIsD : FnScope ["value"] ["value"] (defScope (top 25)) := ⟨rfl, rfl, rfl, by decide +kernel, rfl, by decide +kernel, by decide +kernel⟩
theorem bindsIsD (F : FnP K "is_direction" (top 25) f fd) : Binds K fd ["value"] [] := F.bindsN fun _ _ _ _ _ _ us hl => match us, hl with | [_], _ => rfl
theorem scNF : FnScope ["value"] ["value"] (defScope (top 26)) := ⟨rfl, rfl, rfl, by decide +kernel, rfl, by decide +kernel, by decide +kernel⟩
theorem bindsNF (F : FnP K "need_fraction" (top 26) f fd) : Binds K fd ["value"] [] := F.bindsN fun _ _ _ _ _ _ us hl => match us, hl with | [_], _ => rfl
theorem scNP : FnScope ["value"] ["value"] (defScope (top 27)) := ⟨rfl, rfl, rfl, by decide +kernel, rfl, by decide +kernel, by decide +kernel⟩
theorem bindsNP (F : FnP K "need_point" (top 27) f fd) : Binds K fd ["value"] [] := F.bindsN fun _ _ _ _ _ _ us hl => match us, hl with | [_], _ => rfl
theorem scNS : FnScope ["value"] ["value"] (defScope (top 28)) := ⟨rfl, rfl, rfl, by decide +kernel, rfl, by decide +kernel, by decide +kernel⟩
theorem bindsNS (F : FnP K "need_side" (top 28) f fd) : Binds K fd ["value"] [] := F.bindsN fun _ _ _ _ _ _ us hl => match us, hl with | [_], _ => rfl
theorem scND : FnScope ["value"] ["value"] (defScope (top 29)) := ⟨rfl, rfl, rfl, by decide +kernel, rfl, by decide +kernel, by decide +kernel⟩
theorem bindsND (F : FnP K "need_direction" (top 29) f fd) : Binds K fd ["value"] [] := F.bindsN fun _ _ _ _ _ _ us hl => match us, hl with | [_], _ => rfl
theorem okIsF (F : FnP K "is_fraction" (top 22) f fd) (FA : FnP K "are_whole" (top 10) f1 fd1) (gA : mg "are_whole" = some (.ref f1)) (FW : FnP K "is_whole" (top 9) f2 fd2) (gW : mg "is_whole" = some (.ref f2)) (N : Nm mg) : FnOk P w K mg base CX0 3 f fd ["value"] (spIs2 Fr) := by
  have GA : FnOk P w K mg base CX0 2 f1 fd1 ["value", "many"] spAre := okAre FA FW gW N
  refine F.ok scIsF (fun vs H Q E h => ?_) (fun cdv A outer s H vs Q E hr h => ?_)
  · obtain ⟨v, f, rfl, _⟩ := h
    rfl
  · obtain ⟨v, ⟨n, d⟩, rfl, ⟨a, rfl, ha⟩, hc, k⟩ := h
    obtain ⟨h0, h1⟩ := hc
    dsimp only at *
    refine ⟨_, PSs.nox (pss_one (ps_ret (pe_and (pe_call GA hr rfl gA FA.kp (bindsAre FA) .nil pass0 (pa_cons (pv 0) (pa_cons pe_int pa_nil))) (pe_and (pe_cmpR op_gt (pe_ix ix_tup (pv 0) pe_int (fun _ _ => rfl)) pe_int (nomark _)) (pe_one (pe_cmpR op_eq (pe_callBfun cr_gcd2 (by rfl) N.gcd (pa_cons (pe_ix ix_tup (pv 0) pe_int (fun _ _ => rfl)) (pa_cons (pe_ix ix_tup (pv 0) pe_int (fun _ _ => rfl)) pa_nil))) pe_int (nomark _))))))), ?_⟩
    refine ⟨_, rfl, a, [n, d], rfl, ha, (by show 2 ≤ 3; decide), fun H1 s => ⟨true, rfl, iteT ⟨_, rfl, a, _, 1, .int d, rfl, rfl, SqT.of (s _ _ ha), rfl, _, _, rfl, rfl, _, rfl, ?_⟩⟩⟩
    rw [decide_eq_true h0]
    refine iteT ⟨_, rfl, a, _, 0, .int n, rfl, rfl, SqT.of (s _ _ ha), rfl, _, rfl, a, _, 1, .int d, rfl, rfl, SqT.of (s _ _ ha), rfl, n, d, rfl, rfl, ?_⟩
    rw [h1]
    exact k _ s
theorem okIsD (F : FnP K "is_direction" (top 25) f fd) (FA : FnP K "are_whole" (top 10) f1 fd1) (gA : mg "are_whole" = some (.ref f1)) (FW : FnP K "is_whole" (top 9) f2 fd2) (gW : mg "is_whole" = some (.ref f2)) (N : Nm mg) : FnOk P w K mg base CX0 3 f fd ["value"] (spIs2 Di) := by
  have GA : FnOk P w K mg base CX0 2 f1 fd1 ["value", "many"] spAre := okAre FA FW gW N
  refine F.ok scIsD (fun vs H Q E h => ?_) (fun cdv A outer s H vs Q E hr h => ?_)
  · obtain ⟨v, f, rfl, _⟩ := h
    rfl
  · obtain ⟨v, ⟨n, d⟩, rfl, ⟨a, rfl, ha⟩, hc, k⟩ := h
    have h1 : g2 n d = 1 := hc
    refine ⟨_, PSs.nox (pss_one (ps_ret (pe_and (pe_call GA hr rfl gA FA.kp (bindsAre FA) .nil pass0 (pa_cons (pv 0) (pa_cons pe_int pa_nil))) (pe_one (pe_cmpR op_eq (pe_callBfun cr_gcd2 (by rfl) N.gcd (pa_cons (pe_ix ix_tup (pv 0) pe_int (fun _ _ => rfl)) (pa_cons (pe_ix ix_tup (pv 0) pe_int (fun _ _ => rfl)) pa_nil))) pe_int (nomark _)))))), ?_⟩
    refine ⟨_, rfl, a, [n, d], rfl, ha, (by show 2 ≤ 3; decide), fun H1 s => ⟨true, rfl, iteT ⟨_, rfl, a, _, 0, .int n, rfl, rfl, SqT.of (s _ _ ha), rfl, _, rfl, a, _, 1, .int d, rfl, rfl, SqT.of (s _ _ ha), rfl, n, d, rfl, rfl, ?_⟩⟩⟩
    rw [h1]
    exact k _ s
theorem okIsP (F : FnP K "is_point" (top 23) f fd) (FA : FnP K "are_whole" (top 10) f1 fd1) (gA : mg "are_whole" = some (.ref f1)) (FW : FnP K "is_whole" (top 9) f2 fd2) (gW : mg "is_whole" = some (.ref f2)) (N : Nm mg) : FnOk P w K mg base CX0 3 f fd ["value"] (spIs3 Pt) := by
  have GA : FnOk P w K mg base CX0 2 f1 fd1 ["value", "many"] spAre := okAre FA FW gW N
  refine F.ok scIsP (fun vs H Q E h => ?_) (fun cdv A outer s H vs Q E hr h => ?_)
  · obtain ⟨v, f, rfl, _⟩ := h
    rfl
  · obtain ⟨v, ⟨x, y, z⟩, rfl, ⟨a, rfl, ha⟩, ⟨h0, h1⟩, k⟩ := h
    dsimp only at *
    refine ⟨_, PSs.nox (pss_one (ps_ret (pe_and (pe_call GA hr rfl gA FA.kp (bindsAre FA) .nil pass0 (pa_cons (pv 0) (pa_cons pe_int pa_nil))) (pe_and (pe_cmpR op_gt (pe_ix ix_tup (pv 0) pe_int (fun _ _ => rfl)) pe_int (nomark _)) (pe_one (pe_cmpR op_eq (pe_callBfun cr_gcd3 (by rfl) N.gcd (pa_cons (pe_ix ix_tup (pv 0) pe_int (fun _ _ => rfl)) (pa_cons (pe_ix ix_tup (pv 0) pe_int (fun _ _ => rfl)) (pa_cons (pe_ix ix_tup (pv 0) pe_int (fun _ _ => rfl)) pa_nil)))) pe_int (nomark _))))))), ?_⟩
    refine ⟨_, rfl, a, [x, y, z], rfl, ha, (by show 3 ≤ 3; decide), fun H1 s => ⟨true, rfl, iteT ⟨_, rfl, a, _, 2, .int z, rfl, rfl, SqT.of (s _ _ ha), rfl, _, _, rfl, rfl, _, rfl, ?_⟩⟩⟩
    rw [decide_eq_true h0]
    refine iteT ⟨_, rfl, a, _, 0, .int x, rfl, rfl, SqT.of (s _ _ ha), rfl, _, rfl, a, _, 1, .int y, rfl, rfl, SqT.of (s _ _ ha), rfl, _, rfl, a, _, 2, .int z, rfl, rfl, SqT.of (s _ _ ha), rfl, x, y, z, rfl, rfl, ?_⟩
    rw [h1]
    exact k _ s
theorem okIsS (F : FnP K "is_side" (top 24) f fd) (FA : FnP K "are_whole" (top 10) f1 fd1) (gA : mg "are_whole" = some (.ref f1)) (FW : FnP K "is_whole" (top 9) f2 fd2) (gW : mg "is_whole" = some (.ref f2)) (N : Nm mg) : FnOk P w K mg base CX0 3 f fd ["value"] (spIs3 Sd) := by
  have GA : FnOk P w K mg base CX0 2 f1 fd1 ["value", "many"] spAre := okAre FA FW gW N
  refine F.ok scIsS (fun vs H Q E h => ?_) (fun cdv A outer s H vs Q E hr h => ?_)
  · obtain ⟨v, f, rfl, _⟩ := h
    rfl
  · obtain ⟨v, ⟨x, y, z⟩, rfl, ⟨a, rfl, ha⟩, ⟨h0, h1⟩, k⟩ := h
    dsimp only at *
    have hu := hr.units
    refine ⟨_, PSs.nox (pss_one (ps_ret (pe_and (pe_call GA hr rfl gA FA.kp (bindsAre FA) .nil pass0 (pa_cons (pv 0) (pa_cons pe_int pa_nil))) (pe_and (pe_cmpR (op_neD hu) (pe_slice sl_tup (pv 0) po_none (po_some pe_int)) (pe_tup (pa_cons pe_int (pa_cons pe_int pa_nil))) (nomark _)) (pe_one (pe_cmpR op_eq (pe_callBfun cr_gcd3 (by rfl) N.gcd (pa_cons (pe_ix ix_tup (pv 0) pe_int (fun _ _ => rfl)) (pa_cons (pe_ix ix_tup (pv 0) pe_int (fun _ _ => rfl)) (pa_cons (pe_ix ix_tup (pv 0) pe_int (fun _ _ => rfl)) pa_nil)))) pe_int (nomark _))))))), ?_⟩
    refine ⟨_, rfl, a, [x, y, z], rfl, ha, (by show 3 ≤ 3; decide), fun H1 s => ⟨true, rfl, iteT ?_⟩⟩
    refine ⟨_, rfl, 2, rfl, a, _, rfl, SqT.of (s _ _ ha), (by show ¬ (HT.sIx 3 0 none = 0 ∧ HT.sIx 3 3 (some 2) = 3); decide), fun p hp => ⟨(by show 2 ≤ sizeLine; decide), fun r hr2 => ?_⟩⟩
    have s2 := s.trans ((sameNew (o := .tup (cutV [V.int x, V.int y, V.int z] none (some 2))) hp).trans (sameNew (o := .tup [V.int 0, V.int 0]) hr2))
    refine ⟨.tuple [.int x, .int y], .tuple [.int 0, .int 0], Dp.tup (SqT.of (sameNew hr2 _ _ upd_same)) (.cons (.int _) (.cons (.int _) .nil)), Dp.tup (SqT.of upd_same) (.cons (.int _) (.cons (.int _) .nil)), rfl, rfl, _, rfl, ?_⟩
    have e : PyData.eqv (.tuple [.int x, .int y]) (.tuple [.int 0, .int 0]) = false := by
      have e1 : PyData.eqv (.tuple [.int x, .int y]) (.tuple [.int 0, .int 0]) = (x == 0 && y == 0) := by simp [PyData.eqv, PyData.eqvAll]
      rw [e1]
      refine Bool.eq_false_iff.mpr fun z => h0 ?_
      obtain ⟨z1, z2⟩ := Bool.and_eq_true_iff.mp z
      exact ⟨eq_of_beq z1, eq_of_beq z2⟩
    rw [e]
    refine iteT ⟨_, rfl, a, _, 0, .int x, rfl, rfl, SqT.of (s2 _ _ ha), rfl, _, rfl, a, _, 1, .int y, rfl, rfl, SqT.of (s2 _ _ ha), rfl, _, rfl, a, _, 2, .int z, rfl, rfl, SqT.of (s2 _ _ ha), rfl, x, y, z, rfl, rfl, ?_⟩
    rw [h1]
    exact k _ s2
theorem okNF (F : FnP K "need_fraction" (top 26) f fd) (FI : FnP K "is_fraction" (top 22) f3 fd3) (gI : mg "is_fraction" = some (.ref f3)) (FA : FnP K "are_whole" (top 10) f1 fd1) (gA : mg "are_whole" = some (.ref f1)) (FW : FnP K "is_whole" (top 9) f2 fd2) (gW : mg "is_whole" = some (.ref f2)) (N : Nm mg) : FnOk P w K mg base CX0 4 f fd ["value"] (spNeed2 Fr) := by
  have GI : FnOk P w K mg base CX0 3 f3 fd3 ["value"] (spIs2 Fr) := okIsF FI FA gA FW gW N
  refine F.ok scNF (fun vs H Q E h => ?_) (fun cdv A outer s H vs Q E hr h => ?_)
  · obtain ⟨v, f, rfl, _⟩ := h
    rfl
  · obtain ⟨v, p, rfl, ha, hc, k⟩ := h
    refine ⟨_, PSs.nox (pss_one (ps_if (pt_not (pt_val (pe_call GI hr rfl gI FI.kp (bindsIsF FI) .nil pass0 (pa_cons (pv 0) pa_nil)))) psv pss_nil)), ?_⟩
    exact ⟨_, rfl, v, p, rfl, ha, hc, fun H' s' => ⟨true, rfl, iteF (k _ s')⟩⟩
theorem okNP (F : FnP K "need_point" (top 27) f fd) (FI : FnP K "is_point" (top 23) f3 fd3) (gI : mg "is_point" = some (.ref f3)) (FA : FnP K "are_whole" (top 10) f1 fd1) (gA : mg "are_whole" = some (.ref f1)) (FW : FnP K "is_whole" (top 9) f2 fd2) (gW : mg "is_whole" = some (.ref f2)) (N : Nm mg) : FnOk P w K mg base CX0 4 f fd ["value"] (spNeed3 Pt) := by
  have GI : FnOk P w K mg base CX0 3 f3 fd3 ["value"] (spIs3 Pt) := okIsP FI FA gA FW gW N
  refine F.ok scNP (fun vs H Q E h => ?_) (fun cdv A outer s H vs Q E hr h => ?_)
  · obtain ⟨v, f, rfl, _⟩ := h
    rfl
  · obtain ⟨v, p, rfl, ha, hc, k⟩ := h
    refine ⟨_, PSs.nox (pss_one (ps_if (pt_not (pt_val (pe_call GI hr rfl gI FI.kp (bindsIsP FI) .nil pass0 (pa_cons (pv 0) pa_nil)))) psv pss_nil)), ?_⟩
    exact ⟨_, rfl, v, p, rfl, ha, hc, fun H' s' => ⟨true, rfl, iteF (k _ s')⟩⟩
theorem okNS (F : FnP K "need_side" (top 28) f fd) (FI : FnP K "is_side" (top 24) f3 fd3) (gI : mg "is_side" = some (.ref f3)) (FA : FnP K "are_whole" (top 10) f1 fd1) (gA : mg "are_whole" = some (.ref f1)) (FW : FnP K "is_whole" (top 9) f2 fd2) (gW : mg "is_whole" = some (.ref f2)) (N : Nm mg) : FnOk P w K mg base CX0 4 f fd ["value"] (spNeed3 Sd) := by
  have GI : FnOk P w K mg base CX0 3 f3 fd3 ["value"] (spIs3 Sd) := okIsS FI FA gA FW gW N
  refine F.ok scNS (fun vs H Q E h => ?_) (fun cdv A outer s H vs Q E hr h => ?_)
  · obtain ⟨v, f, rfl, _⟩ := h
    rfl
  · obtain ⟨v, p, rfl, ha, hc, k⟩ := h
    refine ⟨_, PSs.nox (pss_one (ps_if (pt_not (pt_val (pe_call GI hr rfl gI FI.kp (bindsIsS FI) .nil pass0 (pa_cons (pv 0) pa_nil)))) psv pss_nil)), ?_⟩
    exact ⟨_, rfl, v, p, rfl, ha, hc, fun H' s' => ⟨true, rfl, iteF (k _ s')⟩⟩
theorem okND (F : FnP K "need_direction" (top 29) f fd) (FI : FnP K "is_direction" (top 25) f3 fd3) (gI : mg "is_direction" = some (.ref f3)) (FA : FnP K "are_whole" (top 10) f1 fd1) (gA : mg "are_whole" = some (.ref f1)) (FW : FnP K "is_whole" (top 9) f2 fd2) (gW : mg "is_whole" = some (.ref f2)) (N : Nm mg) : FnOk P w K mg base CX0 4 f fd ["value"] (spNeed2 Di) := by
  have GI : FnOk P w K mg base CX0 3 f3 fd3 ["value"] (spIs2 Di) := okIsD FI FA gA FW gW N
  refine F.ok scND (fun vs H Q E h => ?_) (fun cdv A outer s H vs Q E hr h => ?_)
  · obtain ⟨v, f, rfl, _⟩ := h
    rfl
  · obtain ⟨v, p, rfl, ha, hc, k⟩ := h
    refine ⟨_, PSs.nox (pss_one (ps_if (pt_not (pt_val (pe_call GI hr rfl gI FI.kp (bindsIsD FI) .nil pass0 (pa_cons (pv 0) pa_nil)))) psv pss_nil)), ?_⟩
    exact ⟨_, rfl, v, p, rfl, ha, hc, fun H' s' => ⟨true, rfl, iteF (k _ s')⟩⟩
end
end K2
namespace K2
open PySem PySem.Spec PyProof.Rows L2
def nmOf : Nat → Option Str
  | 9 => some "is_whole"
  | 10 => some "are_whole"
  | 11 => some "ratio"
  | 12 => some "point_of"
  | 13 => some "point_sum"
  | 14 => some "point_gap"
  | 15 => some "point_times"
  | 16 => some "course_to"
  | 17 => some "side_of"
  | 18 => some "along"
  | 19 => some "overshoot"
  | 20 => some "turn"
  | 22 => some "is_fraction"
  | 23 => some "is_point"
  | 24 => some "is_side"
  | 25 => some "is_direction"
  | 26 => some "need_fraction"
  | 27 => some "need_point"
  | 28 => some "need_side"
  | 29 => some "need_direction"
  | 30 => some "direction_of"
  | 31 => some "is_earlier"
  | 32 => some "half_turn"
  | 33 => some "point_at"
  | 34 => some "plus"
  | 35 => some "minus"
  | 36 => some "times"
  | 37 => some "between"
  | 38 => some "sense"
  | 39 => some "side_through"
  | 40 => some "excess"
  | 42 => some "_law_source"
  | 43 => some "_law_rounds"
  | 44 => some "_law_draw"
  | 45 => some "_law_pick"
  | 46 => some "_law_least"
  | 47 => some "_law_spot"
  | 48 => some "_law_part"
  | 49 => some "_law_sum"
  | 50 => some "_law_by"
  | 51 => some "_law_add"
  | 52 => some "_law_grow"
  | 53 => some "_law_midway"
  | 54 => some "_law_back"
  | 55 => some "_law_left"
  | 56 => some "_law_side"
  | 57 => some "_law_half"
  | 58 => some "_law_before"
  | 59 => some "_law_gust"
  | 60 => some "_law_share"
  | 61 => some "_law_sums_right"
  | 62 => some "_law_between_right"
  | 63 => some "_law_senses_right"
  | 64 => some "_law_directions_right"
  | 65 => some "_law_right"
  | 66 => some "law"
  | _ => none
structure Pg (K : PySem.W.Frag) (mg : Str → Option Value) (Ad : Nat → Addr) (Dd : Nat → FuncData) : Prop where
  fn : ∀ (i : Nat) (x : Str), nmOf i = some x → FnP K x (top i) (Ad i) (Dd i) ∧ mg x = some (.ref (Ad i))
def halfZ (f : P2) : Int := if 0 < f.d then 0 else if f.d = 0 then (if 0 < f.n then 0 else 1) else 1
def earl (p q : P2) : Bool := if halfZ p = halfZ q then decide (0 < p.n * q.d - p.d * q.n) else decide (halfZ p < halfZ q)
def sgnZ (z : Int) : Int := if 0 < z then 1 else if z < 0 then -1 else 0
def pBtw (p q : P3) (f : P2) : P3 := pSum p (pTimes (pGap q p) f)
def overZ (l p : P3) : Int := l.x * p.x + l.y * p.y - l.w * p.w
def bndF (p q : P3) : P2 := nm2 (zy p q * p.x + -zx p q * p.y) p.w
def gSide (p q : P3) : Int := g3 (zy p q * (bndF p q).d) (-zx p q * (bndF p q).d) (bndF p q).n
def pSide (p q : P3) : P3 := nm3 (zy p q * (bndF p q).d) (-zx p q * (bndF p q).d) (bndF p q).n
def spDirOf : Sp := fun vs H Q _ => ∃ (v : V) (p : P3), vs = [v] ∧ At3 H v p ∧ Pt p ∧ g2 p.x p.y < 1073741824 ∧ (g2 p.x p.y = 0 → ∀ H', Same H H' → Q .non H') ∧ (g2 p.x p.y ≠ 0 → ∀ r H', Same H H' → At2 H' r ⟨p.x / g2 p.x p.y, p.y / g2 p.x p.y⟩ → Q r H')
def spHalf : Sp := fun vs H Q _ => ∃ (v : V) (f : P2), vs = [v] ∧ At2 H v f ∧ Q (.int (halfZ f)) H
def spEarl : Sp := fun vs H Q _ => ∃ (u v : V) (p q : P2), vs = [u, v] ∧ At2 H u p ∧ At2 H v q ∧ Di p ∧ Di q ∧ Sm p.n ∧ Sm p.d ∧ ∀ H', Same H H' → Q (.bl (earl p q)) H'
def spPAt : Sp := fun vs H Q _ => ∃ (u v : V) (p q : P2), vs = [u, v] ∧ At2 H u p ∧ At2 H v q ∧ Fr p ∧ Fr q ∧ Sm2 p ∧ Sm2 q ∧ ∀ r H', Same H H' → At3 H' r (nm3 (p.n * q.d) (q.n * p.d) (p.d * q.d)) → Q r H'
def spPP (g : P3 → P3 → P3) : Sp := fun vs H Q _ => ∃ (u v : V) (p q : P3), vs = [u, v] ∧ At3 H u p ∧ At3 H v q ∧ Pt p ∧ Pt q ∧ Sm3 p ∧ Sm3 q ∧ ∀ r H', Same H H' → At3 H' r (g p q) → Q r H'
def spTimesP : Sp := fun vs H Q _ => ∃ (u v : V) (p : P3) (q : P2), vs = [u, v] ∧ At3 H u p ∧ At2 H v q ∧ Pt p ∧ Fr q ∧ Sm3 p ∧ Sm2 q ∧ ∀ r H', Same H H' → At3 H' r (pTimes p q) → Q r H'
def spBtw : Sp := fun vs H Q _ => ∃ (u v t : V) (p q : P3) (f : P2), vs = [u, v, t] ∧ At3 H u p ∧ At3 H v q ∧ At2 H t f ∧ Pt p ∧ Pt q ∧ Fr f ∧ Sm3 p ∧ Sm3 q ∧ Sm2 f ∧ Sm3 (pGap q p) ∧ Sm3 (pTimes (pGap q p) f) ∧ ∀ r H', Same H H' → At3 H' r (pBtw p q f) → Q r H'
def spSense : Sp := fun vs H Q _ => ∃ (u v t : V) (p q r : P3), vs = [u, v, t] ∧ At3 H u p ∧ At3 H v q ∧ At3 H t r ∧ Pt p ∧ Pt q ∧ Pt r ∧ Sm3 p ∧ Sm3 q ∧ Sm3 r ∧ Sm (zx p q) ∧ Sm (zy p q) ∧ ∀ H', Same H H' → Q (.int (sgnZ (turnZ p q r))) H'
def spSideT : Sp := fun vs H Q _ => ∃ (u v : V) (p q : P3), vs = [u, v] ∧ At3 H u p ∧ At3 H v q ∧ Pt p ∧ Pt q ∧ Sm3 p ∧ Sm3 q ∧ ¬ (p.x = q.x ∧ p.y = q.y ∧ p.w = q.w) ∧ Sm (zx p q) ∧ Sm (zy p q) ∧ 1 ≤ gSide p q ∧ gSide p q < 1073741824 ∧ ∀ r H', Same H H' → At3 H' r (pSide p q) → Q r H'
def spExc : Sp := fun vs H Q _ => ∃ (u v : V) (l p : P3), vs = [u, v] ∧ At3 H u l ∧ At3 H v p ∧ Sd l ∧ Pt p ∧ Sm3 p ∧ ∀ r H', Same H H' → At2 H' r (nm2 (overZ l p) p.w) → Q r H'
theorem iteNN {c A B : Prop} [Decidable c] (hc : ¬ c) (h : A) : if (!decide c) = true then A else B := by
  rw [decide_eq_false hc]
  exact h
section
variable {P : Program} {w : World} {K : PySem.W.Frag} {mg : Str → Option Value} {base : Heap} {f : Addr} {fd : FuncData} {Ad : Nat → Addr} {Dd : Nat → FuncData}
theorem Pg.oRatio (T : Pg K mg Ad Dd) (N : Nm mg) : FnOk P w K mg base CX0 1 (Ad 11) (Dd 11) ["top", "bottom"] (spRatio) := okRatio (T.fn 11 "ratio" rfl).1  N
theorem Pg.oPof (T : Pg K mg Ad Dd) (N : Nm mg) : FnOk P w K mg base CX0 1 (Ad 12) (Dd 12) ["x", "y", "w"] (spPof) := okPof (T.fn 12 "point_of" rfl).1  N
theorem Pg.oSum (T : Pg K mg Ad Dd) (N : Nm mg) : FnOk P w K mg base CX0 2 (Ad 13) (Dd 13) ["one", "two"] (sp33 pSum) := okSum (T.fn 13 "point_sum" rfl).1 (T.fn 12 "point_of" rfl).1 (T.fn 12 "point_of" rfl).2 N
theorem Pg.oGap (T : Pg K mg Ad Dd) (N : Nm mg) : FnOk P w K mg base CX0 2 (Ad 14) (Dd 14) ["one", "two"] (sp33 pGap) := okGap (T.fn 14 "point_gap" rfl).1 (T.fn 12 "point_of" rfl).1 (T.fn 12 "point_of" rfl).2 N
theorem Pg.oTimes (T : Pg K mg Ad Dd) (N : Nm mg) : FnOk P w K mg base CX0 2 (Ad 15) (Dd 15) ["point", "fraction"] (spTimes) := okTimes (T.fn 15 "point_times" rfl).1 (T.fn 12 "point_of" rfl).1 (T.fn 12 "point_of" rfl).2 N
theorem Pg.oCourse (T : Pg K mg Ad Dd) (N : Nm mg) : FnOk P w K mg base CX0 1 (Ad 16) (Dd 16) ["one", "two"] (spCourse) := okCourse (T.fn 16 "course_to" rfl).1  N
theorem Pg.oSideOf (T : Pg K mg Ad Dd) (N : Nm mg) : FnOk P w K mg base CX0 1 (Ad 17) (Dd 17) ["a", "b", "bound"] (spSideOf) := okSideOf (T.fn 17 "side_of" rfl).1  N
theorem Pg.oAlong (T : Pg K mg Ad Dd) (N : Nm mg) : FnOk P w K mg base CX0 2 (Ad 18) (Dd 18) ["a", "b", "point"] (spAlong) := okAlong (T.fn 18 "along" rfl).1 (T.fn 11 "ratio" rfl).1 (T.fn 11 "ratio" rfl).2 N
theorem Pg.oOver (T : Pg K mg Ad Dd) (N : Nm mg) : FnOk P w K mg base CX0 1 (Ad 19) (Dd 19) ["side", "point"] (spOver) := okOver (T.fn 19 "overshoot" rfl).1  N
theorem Pg.oTurn (T : Pg K mg Ad Dd) (N : Nm mg) : FnOk P w K mg base CX0 2 (Ad 20) (Dd 20) ["one", "two", "three"] (spTurn) := okTurn (T.fn 20 "turn" rfl).1 (T.fn 16 "course_to" rfl).1 (T.fn 16 "course_to" rfl).2 N
theorem Pg.oNF (T : Pg K mg Ad Dd) (N : Nm mg) : FnOk P w K mg base CX0 4 (Ad 26) (Dd 26) ["value"] (spNeed2 Fr) := okNF (T.fn 26 "need_fraction" rfl).1 (T.fn 22 "is_fraction" rfl).1 (T.fn 22 "is_fraction" rfl).2 (T.fn 10 "are_whole" rfl).1 (T.fn 10 "are_whole" rfl).2 (T.fn 9 "is_whole" rfl).1 (T.fn 9 "is_whole" rfl).2 N
theorem Pg.oNP (T : Pg K mg Ad Dd) (N : Nm mg) : FnOk P w K mg base CX0 4 (Ad 27) (Dd 27) ["value"] (spNeed3 Pt) := okNP (T.fn 27 "need_point" rfl).1 (T.fn 23 "is_point" rfl).1 (T.fn 23 "is_point" rfl).2 (T.fn 10 "are_whole" rfl).1 (T.fn 10 "are_whole" rfl).2 (T.fn 9 "is_whole" rfl).1 (T.fn 9 "is_whole" rfl).2 N
theorem Pg.oNS (T : Pg K mg Ad Dd) (N : Nm mg) : FnOk P w K mg base CX0 4 (Ad 28) (Dd 28) ["value"] (spNeed3 Sd) := okNS (T.fn 28 "need_side" rfl).1 (T.fn 24 "is_side" rfl).1 (T.fn 24 "is_side" rfl).2 (T.fn 10 "are_whole" rfl).1 (T.fn 10 "are_whole" rfl).2 (T.fn 9 "is_whole" rfl).1 (T.fn 9 "is_whole" rfl).2 N
theorem Pg.oND (T : Pg K mg Ad Dd) (N : Nm mg) : FnOk P w K mg base CX0 4 (Ad 29) (Dd 29) ["value"] (spNeed2 Di) := okND (T.fn 29 "need_direction" rfl).1 (T.fn 25 "is_direction" rfl).1 (T.fn 25 "is_direction" rfl).2 (T.fn 10 "are_whole" rfl).1 (T.fn 10 "are_whole" rfl).2 (T.fn 9 "is_whole" rfl).1 (T.fn 9 "is_whole" rfl).2 N
theorem scHalfT : FnScope ["direction"] ["direction"] (defScope (top 32)) := ⟨rfl, rfl, rfl, by decide +kernel, rfl, by decide +kernel, by decide +kernel⟩
theorem bindsHalfT (F : FnP K "half_turn" (top 32) f fd) : Binds K fd ["direction"] [] := F.bindsN fun _ _ _ _ _ _ us hl => match us, hl with | [_], _ => rfl
theorem Pg.oHalfT (T : Pg K mg Ad Dd) (N : Nm mg) : FnOk P w K mg base CX0 1 (Ad 32) (Dd 32) ["direction"] (spHalf) := by
  refine (T.fn 32 "half_turn" rfl).1.ok scHalfT (fun vs H Q E h => ?_) (fun cdv A outer s H vs Q E hr h => ?_)
  · obtain ⟨v, f, rfl, _⟩ := h
    rfl
  · obtain ⟨v, ⟨n, d⟩, rfl, ⟨a, rfl, ha⟩, k⟩ := h
    refine ⟨_, PSs.nox (pss_cons (ps_if (PW.pt (pw_or (pt_cmpR op_gt (pe_ix ix_tup (pv 0) pe_int (fun _ _ => rfl)) pe_int (nomark _)) (pw_or1 (PW.pt (pw_and (pt_cmpR op_eq (pe_ix ix_tup (pv 0) pe_int (fun _ _ => rfl)) pe_int (nomark _)) (pw_and1 (pt_cmpR op_gt (pe_ix ix_tup (pv 0) pe_int (fun _ _ => rfl)) pe_int (nomark _))))))))
        (pss_one (ps_ret pe_int)) pss_nil) (pss_one (ps_ret pe_int))), ?_⟩
    refine ⟨_, rfl, a, _, 1, .int d, rfl, rfl, SqT.of (ha), rfl, _, _, rfl, rfl, _, rfl, ite2 (fun h1 => iteT ?_) (fun h1 => ?_)⟩
    · have e : halfZ ⟨n, d⟩ = 0 := if_pos (of_decide_eq_true h1)
      rw [e] at k
      exact k
    have n1 : ¬ 0 < d := fun z => h1 (decide_eq_true z)
    refine ⟨_, rfl, a, _, 1, .int d, rfl, rfl, SqT.of (ha), rfl, rfl, _, rfl, ite2 (fun h2 => ?_) (fun h2 => iteF ?_)⟩
    · have e2 : d = 0 := V.int.inj (of_decide_eq_true h2)
      refine ⟨_, rfl, a, _, 0, .int n, rfl, rfl, SqT.of (ha), rfl, _, _, rfl, rfl, _, rfl, ite2 (fun h3 => ?_) (fun h3 => ?_)⟩
      · have e : halfZ ⟨n, d⟩ = 0 := (if_neg n1).trans ((if_pos e2).trans (if_pos (of_decide_eq_true h3)))
        rw [e] at k
        exact k
      · have e : halfZ ⟨n, d⟩ = 1 := (if_neg n1).trans ((if_pos e2).trans (if_neg fun z => h3 (decide_eq_true z)))
        rw [e] at k
        exact k
    · have e : halfZ ⟨n, d⟩ = 1 := (if_neg n1).trans (if_neg fun z => h2 (decide_eq_true (congrArg V.int z)))
      rw [e] at k
      exact k
theorem scDirOf : FnScope ["way", "common"] ["way"] (defScope (top 30)) := ⟨rfl, rfl, rfl, by decide +kernel, rfl, by decide +kernel, by decide +kernel⟩
theorem bindsDirOf (F : FnP K "direction_of" (top 30) f fd) : Binds K fd ["way"] [] := F.bindsN fun _ _ _ _ _ _ us hl => match us, hl with | [_], _ => rfl
theorem Pg.oDirOf (T : Pg K mg Ad Dd) (N : Nm mg) : FnOk P w K mg base CX0 5 (Ad 30) (Dd 30) ["way"] (spDirOf) := by
  refine (T.fn 30 "direction_of" rfl).1.ok scDirOf (fun vs H Q E h => ?_) (fun cdv A outer s H vs Q E hr h => ?_)
  · obtain ⟨v, f, rfl, _⟩ := h
    rfl
  · obtain ⟨v, ⟨x, y, z⟩, rfl, ⟨a, rfl, ha⟩, hp, hg, k0, k1⟩ := h
    have hr4 : Room 4 _ := hr.mono (by decide)
    have hr3 : Room 3 _ := hr.mono (by decide)
    have hr2 : Room 2 _ := hr.mono (by decide)
    have hr1 : Room 1 _ := hr.mono (by decide)
    have hu := hr.units
    dsimp only at hg k0 k1
    refine ⟨_, PSs.nox (pss_cons (ps_expr (pe_call (T.oNP N) hr4 rfl (T.fn 27 "need_point" rfl).2 (T.fn 27 "need_point" rfl).1.kp (bindsNP (T.fn 27 "need_point" rfl).1) .nil pass0 (pa_cons (pv 0) pa_nil))) (pss_cons (ps_set (i := 1) scDirOf.nd rfl (.inl rfl) (pe_callBfun cr_gcd2 (by rfl) N.gcd (pa_cons (pe_ix ix_tup (pv 0) pe_int (fun _ _ => rfl)) (pa_cons (pe_ix ix_tup (pv 0) pe_int (fun _ _ => rfl)) pa_nil))))
      (pss_cons (ps_if (pt_cmpR op_eq (pv 1) pe_int (nomark _)) (pss_one (ps_ret pe_non)) pss_nil)
      (pss_one (ps_ret (pe_tup (pa_cons (pe_op op_fdiv (pe_ix ix_tup (pv 0) pe_int (fun _ _ => rfl)) (pv 1)) (pa_cons (pe_op op_fdiv (pe_ix ix_tup (pv 0) pe_int (fun _ _ => rfl)) (pv 1)) pa_nil)))))))), ?_⟩
    refine ⟨_, rfl, .ref a, ⟨x, y, z⟩, rfl, ⟨a, rfl, ha⟩, hp, fun H1 s => ?_⟩
    refine ⟨_, rfl, a, _, 0, .int x, rfl, rfl, SqT.of (s _ _ ha), rfl, _, rfl, a, _, 1, .int y, rfl, rfl, SqT.of (s _ _ ha), rfl, x, y, rfl, _, rfl, rfl, _, rfl, ite2 (fun h1 => ?_) (fun h1 => ?_)⟩
    · exact k0 (V.int.inj (of_decide_eq_true h1)) _ s
    · have g0 : g2 x y ≠ 0 := fun z => h1 (decide_eq_true (congrArg V.int z))
      have g1 := g2_nonneg x y
      exact ⟨_, rfl, a, _, 0, .int x, rfl, rfl, SqT.of (s _ _ ha), rfl, _, rfl, x, g2 x y, rfl, rfl, ⟨by omega, hg⟩, _, rfl, a, _, 1, .int y, rfl, rfl, SqT.of (s _ _ ha), rfl, _, rfl, y, g2 x y, rfl, rfl, ⟨by omega, hg⟩, (by show 2 ≤ sizeLine; decide), fun r hr5 => k1 g0 _ _ (s.trans (sameNew hr5)) ⟨r, rfl, upd_same⟩⟩
theorem scEarl : FnScope ["direction", "other", "half", "its_half"] ["direction", "other"] (defScope (top 31)) := ⟨rfl, rfl, rfl, by decide +kernel, rfl, by decide +kernel, by decide +kernel⟩
theorem bindsEarl (F : FnP K "is_earlier" (top 31) f fd) : Binds K fd ["direction", "other"] [] := F.bindsN fun _ _ _ _ _ _ us hl => match us, hl with | [_, _], _ => rfl
theorem Pg.oEarl (T : Pg K mg Ad Dd) (N : Nm mg) : FnOk P w K mg base CX0 5 (Ad 31) (Dd 31) ["direction", "other"] (spEarl) := by
  refine (T.fn 31 "is_earlier" rfl).1.ok scEarl (fun vs H Q E h => ?_) (fun cdv A outer s H vs Q E hr h => ?_)
  · obtain ⟨u, v, p, q, rfl, _⟩ := h
    rfl
  · obtain ⟨u, v, ⟨a, b⟩, ⟨c, d⟩, rfl, ⟨a1, rfl, h1⟩, ⟨a2, rfl, h2⟩, p1, p2, sa, sb, k⟩ := h
    have hr4 : Room 4 _ := hr.mono (by decide)
    have hr3 : Room 3 _ := hr.mono (by decide)
    have hr2 : Room 2 _ := hr.mono (by decide)
    have hr1 : Room 1 _ := hr.mono (by decide)
    have hu := hr.units
    dsimp only at h1 h2 sa sb
    refine ⟨_, PSs.nox (pss_cons (ps_expr (pe_call (T.oND N) hr4 rfl (T.fn 29 "need_direction" rfl).2 (T.fn 29 "need_direction" rfl).1.kp (bindsND (T.fn 29 "need_direction" rfl).1) .nil pass0 (pa_cons (pv 0) pa_nil))) (pss_cons (ps_expr (pe_call (T.oND N) hr4 rfl (T.fn 29 "need_direction" rfl).2 (T.fn 29 "need_direction" rfl).1.kp (bindsND (T.fn 29 "need_direction" rfl).1) .nil pass0 (pa_cons (pv 1) pa_nil))) (pss_cons (ps_par (by rfl) scEarl.nd (i := 2) (j := 3) rfl rfl (by decide) rfl rfl (pa_cons (pe_call (T.oHalfT N) hr1 rfl (T.fn 32 "half_turn" rfl).2 (T.fn 32 "half_turn" rfl).1.kp (bindsHalfT (T.fn 32 "half_turn" rfl).1) .nil pass0 (pa_cons (pv 0) pa_nil)) (pa_cons (pe_call (T.oHalfT N) hr1 rfl (T.fn 32 "half_turn" rfl).2 (T.fn 32 "half_turn" rfl).1.kp (bindsHalfT (T.fn 32 "half_turn" rfl).1) .nil pass0 (pa_cons (pv 1) pa_nil)) pa_nil)) (by rfl))
      (pss_cons (ps_if (pt_cmpR op_ne (pv 2) (pv 3) (nomark _)) (pss_one (ps_ret (pe_cmpR op_lt (pv 2) (pv 3) (nomark _)))) pss_nil)
      (pss_one (ps_ret (pe_cmpR op_gt (pe_op op_sub (pe_op op_mul (pe_ix ix_tup (pv 0) pe_int (fun _ _ => rfl)) (pe_ix ix_tup (pv 1) pe_int (fun _ _ => rfl))) (pe_op op_mul (pe_ix ix_tup (pv 0) pe_int (fun _ _ => rfl)) (pe_ix ix_tup (pv 1) pe_int (fun _ _ => rfl)))) pe_int (nomark _)))))))), ?_⟩
    refine ⟨_, rfl, _, ⟨a, b⟩, rfl, ⟨a1, rfl, h1⟩, p1, fun H1 s => ?_⟩
    refine ⟨_, rfl, _, ⟨c, d⟩, rfl, ⟨a2, rfl, s _ _ h2⟩, p2, fun H2 s2 => ?_⟩
    have s3 := s.trans s2
    refine ⟨_, rfl, _, ⟨a, b⟩, rfl, ⟨a1, rfl, s3 _ _ h1⟩, _, rfl, _, ⟨c, d⟩, rfl, ⟨a2, rfl, s3 _ _ h2⟩, _, _, rfl, ?_⟩
    refine ⟨_, rfl, _, rfl, rfl, _, rfl, ?_⟩
    by_cases e : halfZ ⟨a, b⟩ = halfZ ⟨c, d⟩
    · refine iteNS (congrArg V.int e) ?_
      refine ⟨_, rfl, a1, _, 0, .int a, rfl, rfl, SqT.of (s3 _ _ h1), rfl, _, rfl, a2, _, 1, .int d, rfl, rfl, SqT.of (s3 _ _ h2), rfl, _, _, rfl, rfl, sa.mul, _, rfl, a1, _, 1, .int b, rfl, rfl, SqT.of (s3 _ _ h1), rfl, _, rfl, a2, _, 0, .int c, rfl, rfl, SqT.of (s3 _ _ h2), rfl, _, _, rfl, rfl, sb.mul, _, _, rfl, rfl, _, _, rfl, rfl, ?_⟩
      have e2 : earl ⟨a, b⟩ ⟨c, d⟩ = decide (0 < a * d - b * c) := if_pos e
      have kk := k _ s3
      rw [e2] at kk
      exact kk
    · refine iteNN (fun z => e (V.int.inj z)) ?_
      have e2 : earl ⟨a, b⟩ ⟨c, d⟩ = decide (halfZ ⟨a, b⟩ < halfZ ⟨c, d⟩) := if_neg e
      have kk := k _ s3
      rw [e2] at kk
      exact ⟨_, rfl, _, rfl, _, _, rfl, rfl, kk⟩
theorem scPAt : FnScope ["east", "north"] ["east", "north"] (defScope (top 33)) := ⟨rfl, rfl, rfl, by decide +kernel, rfl, by decide +kernel, by decide +kernel⟩
theorem bindsPAt (F : FnP K "point_at" (top 33) f fd) : Binds K fd ["east", "north"] [] := F.bindsN fun _ _ _ _ _ _ us hl => match us, hl with | [_, _], _ => rfl
theorem Pg.oPAt (T : Pg K mg Ad Dd) (N : Nm mg) : FnOk P w K mg base CX0 5 (Ad 33) (Dd 33) ["east", "north"] (spPAt) := by
  refine (T.fn 33 "point_at" rfl).1.ok scPAt (fun vs H Q E h => ?_) (fun cdv A outer s H vs Q E hr h => ?_)
  · obtain ⟨u, v, p, q, rfl, _⟩ := h
    rfl
  · obtain ⟨u, v, ⟨a, b⟩, ⟨c, d⟩, rfl, ⟨a1, rfl, h1⟩, ⟨a2, rfl, h2⟩, p1, p2, ⟨sa, b0, b1⟩, ⟨sc, d0, d1⟩, k⟩ := h
    have hr4 : Room 4 _ := hr.mono (by decide)
    have hr3 : Room 3 _ := hr.mono (by decide)
    have hr2 : Room 2 _ := hr.mono (by decide)
    have hr1 : Room 1 _ := hr.mono (by decide)
    have hu := hr.units
    dsimp only at h1 h2 sa sc b0 b1 d0 d1 k
    refine ⟨_, PSs.nox (pss_cons (ps_expr (pe_call (T.oNF N) hr4 rfl (T.fn 26 "need_fraction" rfl).2 (T.fn 26 "need_fraction" rfl).1.kp (bindsNF (T.fn 26 "need_fraction" rfl).1) .nil pass0 (pa_cons (pv 0) pa_nil))) (pss_cons (ps_expr (pe_call (T.oNF N) hr4 rfl (T.fn 26 "need_fraction" rfl).2 (T.fn 26 "need_fraction" rfl).1.kp (bindsNF (T.fn 26 "need_fraction" rfl).1) .nil pass0 (pa_cons (pv 1) pa_nil))) (pss_one (ps_ret (pe_call (T.oPof N) hr1 rfl (T.fn 12 "point_of" rfl).2 (T.fn 12 "point_of" rfl).1.kp (bindsPof (T.fn 12 "point_of" rfl).1) .nil pass0 (pa_cons (pe_op op_mul (pe_ix ix_tup (pv 0) pe_int (fun _ _ => rfl)) (pe_ix ix_tup (pv 1) pe_int (fun _ _ => rfl))) (pa_cons (pe_op op_mul (pe_ix ix_tup (pv 1) pe_int (fun _ _ => rfl)) (pe_ix ix_tup (pv 0) pe_int (fun _ _ => rfl))) (pa_cons (pe_op op_mul (pe_ix ix_tup (pv 0) pe_int (fun _ _ => rfl)) (pe_ix ix_tup (pv 1) pe_int (fun _ _ => rfl))) pa_nil)))))))), ?_⟩
    refine ⟨_, rfl, _, ⟨a, b⟩, rfl, ⟨a1, rfl, h1⟩, p1, fun H1 s => ?_⟩
    refine ⟨_, rfl, _, ⟨c, d⟩, rfl, ⟨a2, rfl, s _ _ h2⟩, p2, fun H2 s2 => ?_⟩
    have s3 := s.trans s2
    have sb : Sm b := ⟨by omega, by omega⟩
    obtain ⟨m0, m1⟩ := w_mul b0 b1 d0 d1
    exact ⟨_, rfl, a1, _, 0, .int a, rfl, rfl, SqT.of (s3 _ _ h1), rfl, _, rfl, a2, _, 1, .int d, rfl, rfl, SqT.of (s3 _ _ h2), rfl, _, _, rfl, rfl, sa.mul, _, rfl, a2, _, 0, .int c, rfl, rfl, SqT.of (s3 _ _ h2), rfl, _, rfl, a1, _, 1, .int b, rfl, rfl, SqT.of (s3 _ _ h1), rfl, _, _, rfl, rfl, sc.mul, _, rfl, a1, _, 1, .int b, rfl, rfl, SqT.of (s3 _ _ h1), rfl, _, rfl, a2, _, 1, .int d, rfl, rfl, SqT.of (s3 _ _ h2), rfl, _, _, rfl, rfl, sb.mul, _, _, _, rfl, m0, m1, fun r H' s' at3 => k r H' (s3.trans s') at3⟩
theorem scPlus : FnScope ["point", "other"] ["point", "other"] (defScope (top 34)) := ⟨rfl, rfl, rfl, by decide +kernel, rfl, by decide +kernel, by decide +kernel⟩
theorem bindsPlus (F : FnP K "plus" (top 34) f fd) : Binds K fd ["point", "other"] [] := F.bindsN fun _ _ _ _ _ _ us hl => match us, hl with | [_, _], _ => rfl
theorem Pg.oPlus (T : Pg K mg Ad Dd) (N : Nm mg) : FnOk P w K mg base CX0 5 (Ad 34) (Dd 34) ["point", "other"] (spPP pSum) := by
  refine (T.fn 34 "plus" rfl).1.ok scPlus (fun vs H Q E h => ?_) (fun cdv A outer s H vs Q E hr h => ?_)
  · obtain ⟨u, v, p, q, rfl, _⟩ := h
    rfl
  · obtain ⟨u, v, p, q, rfl, h1, h2, p1, p2, m1, m2, k⟩ := h
    have hr4 : Room 4 _ := hr.mono (by decide)
    have hr3 : Room 3 _ := hr.mono (by decide)
    have hr2 : Room 2 _ := hr.mono (by decide)
    have hr1 : Room 1 _ := hr.mono (by decide)
    have hu := hr.units
    refine ⟨_, PSs.nox (pss_cons (ps_expr (pe_call (T.oNP N) hr4 rfl (T.fn 27 "need_point" rfl).2 (T.fn 27 "need_point" rfl).1.kp (bindsNP (T.fn 27 "need_point" rfl).1) .nil pass0 (pa_cons (pv 0) pa_nil))) (pss_cons (ps_expr (pe_call (T.oNP N) hr4 rfl (T.fn 27 "need_point" rfl).2 (T.fn 27 "need_point" rfl).1.kp (bindsNP (T.fn 27 "need_point" rfl).1) .nil pass0 (pa_cons (pv 1) pa_nil))) (pss_one (ps_ret (pe_call (T.oSum N) hr2 rfl (T.fn 13 "point_sum" rfl).2 (T.fn 13 "point_sum" rfl).1.kp (bindsSum (T.fn 13 "point_sum" rfl).1) .nil pass0 (pa_cons (pv 0) (pa_cons (pv 1) pa_nil))))))), ?_⟩
    refine ⟨_, rfl, _, p, rfl, h1, p1, fun H1 s => ?_⟩
    refine ⟨_, rfl, _, q, rfl, h2.mono s, p2, fun H2 s2 => ?_⟩
    have s3 := s.trans s2
    exact ⟨_, rfl, _, rfl, u, v, p, q, rfl, h1.mono s3, h2.mono s3, m1, m2, fun r H' s' at3 => k r H' (s3.trans s') at3⟩
theorem scMinus : FnScope ["point", "other"] ["point", "other"] (defScope (top 35)) := ⟨rfl, rfl, rfl, by decide +kernel, rfl, by decide +kernel, by decide +kernel⟩
theorem bindsMinus (F : FnP K "minus" (top 35) f fd) : Binds K fd ["point", "other"] [] := F.bindsN fun _ _ _ _ _ _ us hl => match us, hl with | [_, _], _ => rfl
theorem Pg.oMinus (T : Pg K mg Ad Dd) (N : Nm mg) : FnOk P w K mg base CX0 5 (Ad 35) (Dd 35) ["point", "other"] (spPP pGap) := by
  refine (T.fn 35 "minus" rfl).1.ok scMinus (fun vs H Q E h => ?_) (fun cdv A outer s H vs Q E hr h => ?_)
  · obtain ⟨u, v, p, q, rfl, _⟩ := h
    rfl
  · obtain ⟨u, v, p, q, rfl, h1, h2, p1, p2, m1, m2, k⟩ := h
    have hr4 : Room 4 _ := hr.mono (by decide)
    have hr3 : Room 3 _ := hr.mono (by decide)
    have hr2 : Room 2 _ := hr.mono (by decide)
    have hr1 : Room 1 _ := hr.mono (by decide)
    have hu := hr.units
    refine ⟨_, PSs.nox (pss_cons (ps_expr (pe_call (T.oNP N) hr4 rfl (T.fn 27 "need_point" rfl).2 (T.fn 27 "need_point" rfl).1.kp (bindsNP (T.fn 27 "need_point" rfl).1) .nil pass0 (pa_cons (pv 0) pa_nil))) (pss_cons (ps_expr (pe_call (T.oNP N) hr4 rfl (T.fn 27 "need_point" rfl).2 (T.fn 27 "need_point" rfl).1.kp (bindsNP (T.fn 27 "need_point" rfl).1) .nil pass0 (pa_cons (pv 1) pa_nil))) (pss_one (ps_ret (pe_call (T.oGap N) hr2 rfl (T.fn 14 "point_gap" rfl).2 (T.fn 14 "point_gap" rfl).1.kp (bindsGap (T.fn 14 "point_gap" rfl).1) .nil pass0 (pa_cons (pv 0) (pa_cons (pv 1) pa_nil))))))), ?_⟩
    refine ⟨_, rfl, _, p, rfl, h1, p1, fun H1 s => ?_⟩
    refine ⟨_, rfl, _, q, rfl, h2.mono s, p2, fun H2 s2 => ?_⟩
    have s3 := s.trans s2
    exact ⟨_, rfl, _, rfl, u, v, p, q, rfl, h1.mono s3, h2.mono s3, m1, m2, fun r H' s' at3 => k r H' (s3.trans s') at3⟩
theorem scTimesP : FnScope ["point", "fraction"] ["point", "fraction"] (defScope (top 36)) := ⟨rfl, rfl, rfl, by decide +kernel, rfl, by decide +kernel, by decide +kernel⟩
theorem bindsTimesP (F : FnP K "times" (top 36) f fd) : Binds K fd ["point", "fraction"] [] := F.bindsN fun _ _ _ _ _ _ us hl => match us, hl with | [_, _], _ => rfl
theorem Pg.oTimesP (T : Pg K mg Ad Dd) (N : Nm mg) : FnOk P w K mg base CX0 5 (Ad 36) (Dd 36) ["point", "fraction"] (spTimesP) := by
  refine (T.fn 36 "times" rfl).1.ok scTimesP (fun vs H Q E h => ?_) (fun cdv A outer s H vs Q E hr h => ?_)
  · obtain ⟨u, v, p, q, rfl, _⟩ := h
    rfl
  · obtain ⟨u, v, p, q, rfl, h1, h2, p1, p2, m1, m2, k⟩ := h
    have hr4 : Room 4 _ := hr.mono (by decide)
    have hr3 : Room 3 _ := hr.mono (by decide)
    have hr2 : Room 2 _ := hr.mono (by decide)
    have hr1 : Room 1 _ := hr.mono (by decide)
    have hu := hr.units
    refine ⟨_, PSs.nox (pss_cons (ps_expr (pe_call (T.oNP N) hr4 rfl (T.fn 27 "need_point" rfl).2 (T.fn 27 "need_point" rfl).1.kp (bindsNP (T.fn 27 "need_point" rfl).1) .nil pass0 (pa_cons (pv 0) pa_nil))) (pss_cons (ps_expr (pe_call (T.oNF N) hr4 rfl (T.fn 26 "need_fraction" rfl).2 (T.fn 26 "need_fraction" rfl).1.kp (bindsNF (T.fn 26 "need_fraction" rfl).1) .nil pass0 (pa_cons (pv 1) pa_nil))) (pss_one (ps_ret (pe_call (T.oTimes N) hr2 rfl (T.fn 15 "point_times" rfl).2 (T.fn 15 "point_times" rfl).1.kp (bindsTimes (T.fn 15 "point_times" rfl).1) .nil pass0 (pa_cons (pv 0) (pa_cons (pv 1) pa_nil))))))), ?_⟩
    refine ⟨_, rfl, _, p, rfl, h1, p1, fun H1 s => ?_⟩
    refine ⟨_, rfl, _, q, rfl, h2.mono s, p2, fun H2 s2 => ?_⟩
    have s3 := s.trans s2
    exact ⟨_, rfl, _, rfl, u, v, p, q, rfl, h1.mono s3, h2.mono s3, m1, m2, fun r H' s' at3 => k r H' (s3.trans s') at3⟩
theorem scBtw : FnScope ["point", "other", "fraction"] ["point", "other", "fraction"] (defScope (top 37)) := ⟨rfl, rfl, rfl, by decide +kernel, rfl, by decide +kernel, by decide +kernel⟩
theorem bindsBtw (F : FnP K "between" (top 37) f fd) : Binds K fd ["point", "other", "fraction"] [] := F.bindsN fun _ _ _ _ _ _ us hl => match us, hl with | [_, _, _], _ => rfl
theorem Pg.oBtw (T : Pg K mg Ad Dd) (N : Nm mg) : FnOk P w K mg base CX0 5 (Ad 37) (Dd 37) ["point", "other", "fraction"] (spBtw) := by
  refine (T.fn 37 "between" rfl).1.ok scBtw (fun vs H Q E h => ?_) (fun cdv A outer s H vs Q E hr h => ?_)
  · obtain ⟨u, v, t, p, q, f, rfl, _⟩ := h
    rfl
  · obtain ⟨u, v, t, p, q, f, rfl, h1, h2, h3, p1, p2, p3, m1, m2, m3, m4, m5, k⟩ := h
    have hr4 : Room 4 _ := hr.mono (by decide)
    have hr3 : Room 3 _ := hr.mono (by decide)
    have hr2 : Room 2 _ := hr.mono (by decide)
    have hr1 : Room 1 _ := hr.mono (by decide)
    have hu := hr.units
    refine ⟨_, PSs.nox (pss_cons (ps_expr (pe_call (T.oNP N) hr4 rfl (T.fn 27 "need_point" rfl).2 (T.fn 27 "need_point" rfl).1.kp (bindsNP (T.fn 27 "need_point" rfl).1) .nil pass0 (pa_cons (pv 0) pa_nil))) (pss_cons (ps_expr (pe_call (T.oNP N) hr4 rfl (T.fn 27 "need_point" rfl).2 (T.fn 27 "need_point" rfl).1.kp (bindsNP (T.fn 27 "need_point" rfl).1) .nil pass0 (pa_cons (pv 1) pa_nil))) (pss_cons (ps_expr (pe_call (T.oNF N) hr4 rfl (T.fn 26 "need_fraction" rfl).2 (T.fn 26 "need_fraction" rfl).1.kp (bindsNF (T.fn 26 "need_fraction" rfl).1) .nil pass0 (pa_cons (pv 2) pa_nil))) (pss_one (ps_ret (pe_call (T.oSum N) hr2 rfl (T.fn 13 "point_sum" rfl).2 (T.fn 13 "point_sum" rfl).1.kp (bindsSum (T.fn 13 "point_sum" rfl).1) .nil pass0 (pa_cons (pv 0) (pa_cons (pe_call (T.oTimes N) hr2 rfl (T.fn 15 "point_times" rfl).2 (T.fn 15 "point_times" rfl).1.kp (bindsTimes (T.fn 15 "point_times" rfl).1) .nil pass0 (pa_cons (pe_call (T.oGap N) hr2 rfl (T.fn 14 "point_gap" rfl).2 (T.fn 14 "point_gap" rfl).1.kp (bindsGap (T.fn 14 "point_gap" rfl).1) .nil pass0 (pa_cons (pv 1) (pa_cons (pv 0) pa_nil))) (pa_cons (pv 2) pa_nil))) pa_nil)))))))), ?_⟩
    refine ⟨_, rfl, _, p, rfl, h1, p1, fun H1 s => ?_⟩
    refine ⟨_, rfl, _, q, rfl, h2.mono s, p2, fun H2 s2 => ?_⟩
    have s3 := s.trans s2
    refine ⟨_, rfl, _, f, rfl, h3.mono s3, p3, fun H3 s4 => ?_⟩
    have s5 := s3.trans s4
    refine ⟨_, rfl, _, rfl, _, rfl, v, u, q, p, rfl, h2.mono s5, h1.mono s5, m2, m1, fun r4 H4 s6 at4 => ?_⟩
    have s7 := s5.trans s6
    refine ⟨_, rfl, r4, t, pGap q p, f, rfl, at4, h3.mono s7, m4, m3, fun r5 H5 s8 at5 => ?_⟩
    have s9 := s7.trans s8
    exact ⟨u, r5, p, _, rfl, h1.mono s9, at5, m1, m5, fun r H' s' at3 => k r H' (s9.trans s') at3⟩
theorem scSense : FnScope ["point", "other", "third", "left"] ["point", "other", "third"] (defScope (top 38)) := ⟨rfl, rfl, rfl, by decide +kernel, rfl, by decide +kernel, by decide +kernel⟩
theorem bindsSense (F : FnP K "sense" (top 38) f fd) : Binds K fd ["point", "other", "third"] [] := F.bindsN fun _ _ _ _ _ _ us hl => match us, hl with | [_, _, _], _ => rfl
theorem Pg.oSense (T : Pg K mg Ad Dd) (N : Nm mg) : FnOk P w K mg base CX0 5 (Ad 38) (Dd 38) ["point", "other", "third"] (spSense) := by
  refine (T.fn 38 "sense" rfl).1.ok scSense (fun vs H Q E h => ?_) (fun cdv A outer s H vs Q E hr h => ?_)
  · obtain ⟨u, v, t, p, q, f, rfl, _⟩ := h
    rfl
  · obtain ⟨u, v, t, p, q, r, rfl, h1, h2, h3, p1, p2, p3, m1, m2, m3, m4, m5, k⟩ := h
    have hr4 : Room 4 _ := hr.mono (by decide)
    have hr3 : Room 3 _ := hr.mono (by decide)
    have hr2 : Room 2 _ := hr.mono (by decide)
    have hr1 : Room 1 _ := hr.mono (by decide)
    have hu := hr.units
    refine ⟨_, PSs.nox (pss_cons (ps_expr (pe_call (T.oNP N) hr4 rfl (T.fn 27 "need_point" rfl).2 (T.fn 27 "need_point" rfl).1.kp (bindsNP (T.fn 27 "need_point" rfl).1) .nil pass0 (pa_cons (pv 0) pa_nil))) (pss_cons (ps_expr (pe_call (T.oNP N) hr4 rfl (T.fn 27 "need_point" rfl).2 (T.fn 27 "need_point" rfl).1.kp (bindsNP (T.fn 27 "need_point" rfl).1) .nil pass0 (pa_cons (pv 1) pa_nil))) (pss_cons (ps_expr (pe_call (T.oNP N) hr4 rfl (T.fn 27 "need_point" rfl).2 (T.fn 27 "need_point" rfl).1.kp (bindsNP (T.fn 27 "need_point" rfl).1) .nil pass0 (pa_cons (pv 2) pa_nil))) (pss_cons (ps_set (i := 3) scSense.nd rfl (.inl rfl) (pe_call (T.oTurn N) hr2 rfl (T.fn 20 "turn" rfl).2 (T.fn 20 "turn" rfl).1.kp (bindsTurn (T.fn 20 "turn" rfl).1) .nil pass0 (pa_cons (pv 0) (pa_cons (pv 1) (pa_cons (pv 2) pa_nil)))))
      (pss_cons (ps_if (pt_cmpR op_gt (pv 3) pe_int (nomark _)) (pss_one (ps_ret pe_int)) pss_nil)
      (pss_cons (ps_if (pt_cmpR op_lt (pv 3) pe_int (nomark _)) (pss_one (ps_ret (pe_un un_neg pe_int))) pss_nil)
      (pss_one (ps_ret pe_int)))))))), ?_⟩
    refine ⟨_, rfl, _, p, rfl, h1, p1, fun H1 s => ?_⟩
    refine ⟨_, rfl, _, q, rfl, h2.mono s, p2, fun H2 s2 => ?_⟩
    have s3 := s.trans s2
    refine ⟨_, rfl, _, r, rfl, h3.mono s3, p3, fun H3 s4 => ?_⟩
    have s5 := s3.trans s4
    refine ⟨_, rfl, _, rfl, _, rfl, u, v, t, p, q, r, rfl, h1.mono s5, h2.mono s5, h3.mono s5, m1, m2, m3, m4, m5, fun H4 s6 => ?_⟩
    have kk := k _ (s5.trans s6)
    generalize turnZ p q r = z at kk
    unfold sgnZ at kk
    refine ⟨_, rfl, z, 0, rfl, rfl, _, rfl, ite2 (fun h => ?_) (fun h => ?_)⟩
    · rw [if_pos (of_decide_eq_true h)] at kk
      exact kk
    · rw [if_neg (fun z => h (decide_eq_true z))] at kk
      refine ⟨_, rfl, z, 0, rfl, rfl, _, rfl, ite2 (fun h => ?_) (fun h => ?_)⟩
      · rw [if_pos (of_decide_eq_true h)] at kk
        exact ⟨1, rfl, kk⟩
      · rw [if_neg (fun z => h (decide_eq_true z))] at kk
        exact kk
theorem scSideT : FnScope ["point", "other", "u", "v"] ["point", "other"] (defScope (top 39)) := ⟨rfl, rfl, rfl, by decide +kernel, rfl, by decide +kernel, by decide +kernel⟩
theorem bindsSideT (F : FnP K "side_through" (top 39) f fd) : Binds K fd ["point", "other"] [] := F.bindsN fun _ _ _ _ _ _ us hl => match us, hl with | [_, _], _ => rfl
theorem Pg.oSideT (T : Pg K mg Ad Dd) (N : Nm mg) : FnOk P w K mg base CX0 5 (Ad 39) (Dd 39) ["point", "other"] (spSideT) := by
  refine (T.fn 39 "side_through" rfl).1.ok scSideT (fun vs H Q E h => ?_) (fun cdv A outer s H vs Q E hr h => ?_)
  · obtain ⟨u, v, p, q, rfl, _⟩ := h
    rfl
  · obtain ⟨u, v, p, q, rfl, h1, h2, p1, p2, m1, m2, ne, sx, sy, g0, g1, k⟩ := h
    have hr4 : Room 4 _ := hr.mono (by decide)
    have hr3 : Room 3 _ := hr.mono (by decide)
    have hr2 : Room 2 _ := hr.mono (by decide)
    have hr1 : Room 1 _ := hr.mono (by decide)
    have hu := hr.units
    refine ⟨_, PSs.nox (pss_cons (ps_expr (pe_call (T.oNP N) hr4 rfl (T.fn 27 "need_point" rfl).2 (T.fn 27 "need_point" rfl).1.kp (bindsNP (T.fn 27 "need_point" rfl).1) .nil pass0 (pa_cons (pv 0) pa_nil))) (pss_cons (ps_expr (pe_call (T.oNP N) hr4 rfl (T.fn 27 "need_point" rfl).2 (T.fn 27 "need_point" rfl).1.kp (bindsNP (T.fn 27 "need_point" rfl).1) .nil pass0 (pa_cons (pv 1) pa_nil))) (pss_cons (ps_if (pt_cmpR (op_eqD hu) (pv 0) (pv 1) (nomark _)) psv pss_nil)
      (pss_cons (ps_asg (pe_call (T.oCourse N) hr1 rfl (T.fn 16 "course_to" rfl).2 (T.fn 16 "course_to" rfl).1.kp (bindsCourse (T.fn 16 "course_to" rfl).1) .nil pass0 (pa_cons (pv 0) (pa_cons (pv 1) pa_nil))) (pg_tup (n := 2) rfl (pgs_cons (pg_name (i := 2) scSideT.nd rfl (.inl rfl)) (pgs_cons (pg_name (i := 3) scSideT.nd rfl (.inl rfl)) (pgs_nil)))))
      (pss_one (ps_ret (pe_call (T.oSideOf N) hr1 rfl (T.fn 17 "side_of" rfl).2 (T.fn 17 "side_of" rfl).1.kp (bindsSideOf (T.fn 17 "side_of" rfl).1) .nil pass0 (pa_cons (pv 3) (pa_cons (pe_un un_neg (pv 2)) (pa_cons (pe_call (T.oAlong N) hr2 rfl (T.fn 18 "along" rfl).2 (T.fn 18 "along" rfl).1.kp (bindsAlong (T.fn 18 "along" rfl).1) .nil pass0 (pa_cons (pv 3) (pa_cons (pe_un un_neg (pv 2)) (pa_cons (pv 0) pa_nil)))) pa_nil)))))))))), ?_⟩
    refine ⟨_, rfl, _, p, rfl, h1, p1, fun H1 s => ?_⟩
    refine ⟨_, rfl, _, q, rfl, h2.mono s, p2, fun H2 s2 => ?_⟩
    have s3 := s.trans s2
    obtain ⟨a1, rfl, e1⟩ := h1.mono s3
    obtain ⟨a2, rfl, e2⟩ := h2.mono s3
    refine ⟨_, rfl, _, rfl, .tuple [.int p.x, .int p.y, .int p.w], .tuple [.int q.x, .int q.y, .int q.w], Dp.tup (SqT.of e1) (.cons (.int _) (.cons (.int _) (.cons (.int _) .nil))), Dp.tup (SqT.of e2) (.cons (.int _) (.cons (.int _) (.cons (.int _) .nil))), rfl, rfl, _, rfl, ?_⟩
    have e : PyData.eqv (.tuple [.int p.x, .int p.y, .int p.w]) (.tuple [.int q.x, .int q.y, .int q.w]) = false := by
      have e5 : PyData.eqv (.tuple [.int p.x, .int p.y, .int p.w]) (.tuple [.int q.x, .int q.y, .int q.w]) = (p.x == q.x && (p.y == q.y && p.w == q.w)) := by simp [PyData.eqv, PyData.eqvAll]
      rw [e5]
      refine Bool.eq_false_iff.mpr fun z => ne ?_
      obtain ⟨z1, z2⟩ := Bool.and_eq_true_iff.mp z
      obtain ⟨z2, z3⟩ := Bool.and_eq_true_iff.mp z2
      exact ⟨eq_of_beq z1, eq_of_beq z2, eq_of_beq z3⟩
    rw [e]
    refine iteF ⟨_, rfl, _, rfl, .ref a1, .ref a2, p, q, rfl, ⟨a1, rfl, e1⟩, ⟨a2, rfl, e2⟩, m1, m2, fun r H3 s4 ⟨a3, er, h3⟩ => ?_⟩
    subst er
    refine ⟨a3, _, rfl, SqT.of h3, rfl, _, _, rfl, _, _, rfl, rfl, ?_⟩
    have sn : Sm (-zx p q) := ⟨by have := sx.2; omega, by have := sx.1; omega⟩
    refine ⟨_, rfl, _, rfl, zx p q, rfl, _, rfl, _, rfl, zx p q, rfl, _, rfl, zy p q, -zx p q, .ref a1, p, rfl, ⟨a1, rfl, s4 _ _ e1⟩, sy, sn, m1, fun r5 H5 s6 at5 => ?_⟩
    exact ⟨zy p q, -zx p q, r5, bndF p q, rfl, at5, sy, sn, g0, g1, fun r H' s' at3 => k r H' (s3.trans (s4.trans (s6.trans s'))) at3⟩
theorem scExc : FnScope ["side", "point"] ["side", "point"] (defScope (top 40)) := ⟨rfl, rfl, rfl, by decide +kernel, rfl, by decide +kernel, by decide +kernel⟩
theorem bindsExc (F : FnP K "excess" (top 40) f fd) : Binds K fd ["side", "point"] [] := F.bindsN fun _ _ _ _ _ _ us hl => match us, hl with | [_, _], _ => rfl
theorem Pg.oExc (T : Pg K mg Ad Dd) (N : Nm mg) : FnOk P w K mg base CX0 5 (Ad 40) (Dd 40) ["side", "point"] (spExc) := by
  refine (T.fn 40 "excess" rfl).1.ok scExc (fun vs H Q E h => ?_) (fun cdv A outer s H vs Q E hr h => ?_)
  · obtain ⟨u, v, p, q, rfl, _⟩ := h
    rfl
  · obtain ⟨u, v, l, p, rfl, h1, h2, p1, p2, m2, k⟩ := h
    have hr4 : Room 4 _ := hr.mono (by decide)
    have hr3 : Room 3 _ := hr.mono (by decide)
    have hr2 : Room 2 _ := hr.mono (by decide)
    have hr1 : Room 1 _ := hr.mono (by decide)
    have hu := hr.units
    refine ⟨_, PSs.nox (pss_cons (ps_expr (pe_call (T.oNS N) hr4 rfl (T.fn 28 "need_side" rfl).2 (T.fn 28 "need_side" rfl).1.kp (bindsNS (T.fn 28 "need_side" rfl).1) .nil pass0 (pa_cons (pv 0) pa_nil))) (pss_cons (ps_expr (pe_call (T.oNP N) hr4 rfl (T.fn 27 "need_point" rfl).2 (T.fn 27 "need_point" rfl).1.kp (bindsNP (T.fn 27 "need_point" rfl).1) .nil pass0 (pa_cons (pv 1) pa_nil))) (pss_one (ps_ret (pe_call (T.oRatio N) hr1 rfl (T.fn 11 "ratio" rfl).2 (T.fn 11 "ratio" rfl).1.kp (bindsRatio (T.fn 11 "ratio" rfl).1) .nil pass0 (pa_cons (pe_call (T.oOver N) hr1 rfl (T.fn 19 "overshoot" rfl).2 (T.fn 19 "overshoot" rfl).1.kp (bindsOver (T.fn 19 "overshoot" rfl).1) .nil pass0 (pa_cons (pv 0) (pa_cons (pv 1) pa_nil))) (pa_cons (pe_ix ix_tup (pv 1) pe_int (fun _ _ => rfl)) pa_nil))))))), ?_⟩
    refine ⟨_, rfl, _, l, rfl, h1, p1, fun H1 s => ?_⟩
    refine ⟨_, rfl, _, p, rfl, h2.mono s, p2, fun H2 s2 => ?_⟩
    have s3 := s.trans s2
    obtain ⟨a2, rfl, e2⟩ := h2.mono s3
    have w0 := m2.2.2.1
    have w1 := m2.2.2.2
    exact ⟨_, rfl, _, rfl, u, _, l, p, rfl, h1.mono s3, ⟨a2, rfl, e2⟩, m2, _, rfl, a2, _, 2, .int p.w, rfl, rfl, SqT.of (e2), rfl, _, _, rfl, w0, by omega, fun r H' s' at2 => k r H' (s3.trans s') at2⟩
end
end K2
namespace K2
open PySem PySem.Spec PyProof.Rows L2
/-! ### the source of draws: a list of three numbers -/
def SrcAt (H : Hp) (p : Addr) : Prop := ∃ o m c : Int, 0 ≤ o ∧ 0 ≤ m ∧ m < 1000000007 ∧ 0 ≤ c ∧ H p = some (.lst [.int o, .int m, .int c])
/-- all but p is as it was -/
def But (p : Addr) (H H' : Hp) : Prop := ∀ b o, b ≠ p → H b = some o → H' b = some o
theorem But.refl {p : Addr} {H : Hp} : But p H H := fun _ _ _ h => h
theorem But.trans {p : Addr} {H H1 H2 : Hp} (a : But p H H1) (b : But p H1 H2) : But p H H2 := fun c o n h => b c o n (a c o n h)
theorem But.seqT {K : PySem.W.Frag} {p a : Addr} {H H' : Hp} {xs : List V} (b : But p H H') (n : a ≠ p) (h : SqT K H a xs) : SqT K H' a xs := by
  rcases h with (h | ⟨o, h⟩) | h
  · exact .inl (.inl (b _ _ n h))
  · exact .inl (.inr ⟨o, b _ _ n h⟩)
  · exact .inr h
/-- _law_source(script, turn) -/
def spSource (K : PySem.W.Frag) : Sp := fun vs H Q _ => ∃ (a : Addr) (ns : List Int) (t : Int), vs = [.ref a, .int t] ∧ SqL K H a (ns.map V.int) ∧ ns.length ≤ 63 ∧ 0 ≤ t ∧ t ≤ 2 ∧
  ∀ p H', Same H H' → H p = none → SrcAt H' p → Q (.ref p) H'
def spRounds (K : PySem.W.Frag) : Sp := fun vs H Q _ => ∃ (a : Addr) (ns : List Int), vs = [.ref a] ∧ SqL K H a (ns.map V.int) ∧ ns.length ≤ 63 ∧ ∀ t : Int, 2 ≤ t → t ≤ 3 → Q (.int t) H
def spDraw : Sp := fun vs H Q _ => ∃ (p : Addr) (m : Int), vs = [.ref p, .int m] ∧ SrcAt H p ∧ 0 < m ∧ m ≤ 1000000 ∧ ∀ d H', 0 ≤ d → d < m → But p H H' → SrcAt H' p → Q (.int d) H'
def spPick (K : PySem.W.Frag) : Sp := fun vs H Q _ => ∃ (p q : Addr) (xs : List V), vs = [.ref p, .ref q] ∧ q ≠ p ∧ SrcAt H p ∧ SqT K H q xs ∧ 0 < xs.length ∧ xs.length ≤ 1000 ∧
  ∀ x H', x ∈ xs → But p H H' → SrcAt H' p → Q x H'
section
variable {P : Program} {w : World} {K : PySem.W.Frag} {mg : Str → Option Value} {base : Heap} {f fD : Addr} {fd fdD : FuncData}
theorem cdiv_small {i j : Int} (h0 : 0 < j) (h1 : j ≤ 1000000) : CDivP i j := by
  refine ⟨h0, ?_⟩
  have hb : j.natAbs.log2 < 30 := by
    have : j.natAbs < 2 ^ 30 := by omega
    exact (Nat.log2_lt (by omega)).mpr this
  show (decide ((if j == 0 then 0 else j.natAbs.log2 / 30 + 1) > 300) && _) = false
  rw [if_neg (show ¬ (j == 0) = true by simpa using (show j ≠ 0 by omega))]
  rw [decide_eq_false (show ¬ j.natAbs.log2 / 30 + 1 > 300 by omega)]
  rfl
theorem scDraw : FnScope ["_law_source_here", "_law_many", "_law_digit", "_law_step"] ["_law_source_here", "_law_many"] (defScope (top 44)) := ⟨rfl, rfl, rfl, by decide +kernel, rfl, by decide +kernel, by decide +kernel⟩
theorem okDraw (F : FnP K "_law_draw" (top 44) f fd) (N : Nm mg) : FnOk P w K mg base CX0 1 f fd ["_law_source_here", "_law_many"] spDraw := by
  refine F.ok scDraw (fun vs H Q E h => ?_) (fun cdv A outer s H vs Q E hr h => ?_)
  · obtain ⟨p, m, rfl, _⟩ := h
    rfl
  · obtain ⟨p, m, rfl, ⟨o, x, c, ho, hx0, hx1, hc, hp⟩, hm0, hm1, k⟩ := h
    refine ⟨_, PSs.nox (pss_cons (ps_if (pt_cmpR op_gt (pe_ix ix_list (pv 0) pe_int (fun _ _ => rfl)) pe_int (nomark _))
        (pss_cons (ps_asg (pe_callB call_divmodW (by rfl) N.divmod (by decide +kernel) (pa_cons (pe_ix ix_list (pv 0) pe_int (fun _ _ => rfl)) (pa_cons (pv 1) pa_nil)))
            (pg_tup (by rfl) (pgs_cons (pg_sub (pv 0) pe_int set_list) (pgs_cons (pg_name (i := 2) scDraw.nd rfl (.inl rfl)) pgs_nil))))
          (pss_one (ps_ret (pv 2)))) pss_nil)
      (pss_cons (ps_asg (pe_op op_add (pe_ix ix_list (pv 0) pe_int (fun _ _ => rfl)) pe_int) (pg_sub (pv 0) pe_int set_list))
      (pss_cons (ps_set (i := 3) scDraw.nd rfl (.inl rfl) (pe_op op_mod (pe_callTy call_int1 (by rfl) N.int (by decide +kernel) (pa_cons (pe_op op_add (pe_ix ix_list (pv 0) pe_int (fun _ _ => rfl)) (pe_op op_mul pe_int (pe_ix ix_list (pv 0) pe_int (fun _ _ => rfl)))) pa_nil)) pe_int))
      (pss_cons (ps_asg (pe_op op_mod (pe_callTy call_int1 (by rfl) N.int (by decide +kernel) (pa_cons (pe_op op_add (pe_op op_mul (pv 3) (pe_op op_add (pe_op op_mod (pe_callTy call_int1 (by rfl) N.int (by decide +kernel) (pa_cons (pv 3) pa_nil)) pe_int) pe_int)) pe_int) pa_nil)) pe_int) (pg_sub (pv 0) pe_int set_list))
      (pss_one (ps_ret (pe_op op_mod (pe_callTy call_int1 (by rfl) N.int (by decide +kernel) (pa_cons (pe_op op_fdiv (pe_ix ix_list (pv 0) pe_int (fun _ _ => rfl)) pe_int) pa_nil)) (pv 1)))))))), ?_⟩
    have hl0 : ∀ (y z u : Int), atI [V.int y, V.int z, V.int u] 0 = some (.int y) := fun _ _ _ => rfl
    refine ⟨_, rfl, p, _, 0, .int o, rfl, rfl, SqL.of hp, rfl, o, 0, rfl, rfl, _, rfl, ?_⟩
    refine ite2 (fun hpos => ?_) (fun hz => ?_)
    · refine ⟨_, rfl, p, _, 0, .int o, rfl, rfl, SqL.of hp, rfl, _, rfl, o, m, rfl, cdiv_small hm0 hm1, fun q hq => ?_⟩
      have qp : q ≠ p := fun z => by rw [z, hp] at hq; cases hq
      refine ⟨q, _, rfl, SqT.of upd_same, rfl, _, _, rfl, _, rfl, p, _, 0, 0, rfl, rfl, Eq.trans (upd_ne qp.symm) hp, rfl, _, _, rfl, rfl, _, rfl, ?_⟩
      refine k (o % m) _ (Int.emod_nonneg _ (by omega)) (Int.emod_lt_of_pos _ hm0) (fun b u n z => ?_) ⟨o / m, x, c, Int.ediv_nonneg ho (by omega), hx0, hx1, hc, upd_same⟩
      rw [upd_ne n, upd_ne (ne_of_none z hq)]
      exact z
    · have hM : (0 : Int) < 1000000007 := by decide
      refine ⟨_, rfl, p, _, 2, .int c, rfl, rfl, SqL.of hp, rfl, c, 1, rfl, rfl, _, rfl, p, _, 2, 2, rfl, rfl, hp, rfl, ?_⟩
      refine ⟨_, rfl, p, _, 1, .int x, rfl, rfl, SqL.of upd_same, rfl, _, rfl, p, _, 2, .int (c + 1), rfl, rfl, SqL.of upd_same, rfl, 7919, c + 1, rfl, rfl, .inl ⟨by decide, by decide⟩, x, _, rfl, rfl, .inl ⟨_, rfl, _, _, rfl, rfl, hM, ?_⟩⟩
      have s0 := Int.emod_nonneg (x + 7919 * (c + 1)) (show (1000000007 : Int) ≠ 0 by decide)
      have s1 := Int.emod_lt_of_pos (x + 7919 * (c + 1)) hM
      refine ⟨_, rfl, _, rfl, .inl ⟨_, rfl, _, _, rfl, rfl, (by decide : (0 : Int) < 9973), _, _, rfl, rfl, (x + 7919 * (c + 1)) % 1000000007, _, rfl, rfl, .inl ⟨by omega, by omega⟩, _, _, rfl, rfl, .inl ⟨_, rfl, _, _, rfl, rfl, hM, ?_⟩⟩⟩
      refine ⟨_, rfl, p, _, 1, 1, rfl, rfl, upd_same, rfl, ?_⟩
      refine ⟨_, rfl, p, _, 1, _, rfl, rfl, SqL.of upd_same, rfl, _, _, rfl, rfl, ⟨by decide, by decide⟩, .inl ⟨_, rfl, _, rfl, _, _, rfl, rfl, hm0, ?_⟩⟩
      refine k _ _ (Int.emod_nonneg _ (by omega)) (Int.emod_lt_of_pos _ hm0) (fun b u n e => ?_) ⟨o, _, c + 1, ho, Int.emod_nonneg _ (show (1000000007 : Int) ≠ 0 by decide), Int.emod_lt_of_pos _ hM, by omega, upd_same⟩
      rw [upd_ne n, upd_ne n]
      exact e
theorem scPick : FnScope ["_law_source_here", "_law_some"] ["_law_source_here", "_law_some"] (defScope (top 45)) := ⟨rfl, rfl, rfl, by decide +kernel, rfl, by decide +kernel, by decide +kernel⟩
theorem bindsDraw (F : FnP K "_law_draw" (top 44) f fd) : Binds K fd ["_law_source_here", "_law_many"] [] := F.bindsN fun _ _ _ _ _ _ us hl => match us, hl with | [_, _], _ => rfl
theorem bindsPick (F : FnP K "_law_pick" (top 45) f fd) : Binds K fd ["_law_source_here", "_law_some"] [] := F.bindsN fun _ _ _ _ _ _ us hl => match us, hl with | [_, _], _ => rfl
theorem okPick (F : FnP K "_law_pick" (top 45) f fd) (FD : FnP K "_law_draw" (top 44) fD fdD) (gD : mg "_law_draw" = some (.ref fD)) (N : Nm mg) : FnOk P w K mg base CX0 2 f fd ["_law_source_here", "_law_some"] (spPick K) := by
  have GD : FnOk P w K mg base CX0 1 fD fdD ["_law_source_here", "_law_many"] spDraw := okDraw FD N
  refine F.ok scPick (fun vs H Q E h => ?_) (fun cdv A outer s H vs Q E hr h => ?_)
  · obtain ⟨p, q, xs, rfl, _⟩ := h
    rfl
  · obtain ⟨p, q, xs, rfl, qp, hs, hq, l0, l1, k⟩ := h
    refine ⟨_, PSs.nox (pss_one (ps_ret (pe_ix ix_tup (pv 1) (pe_call GD hr rfl gD FD.kp (bindsDraw FD) .nil pass0 (pa_cons (pv 0) (pa_cons (pe_callB call_len_seq (by rfl) N.len PySem.boot_len (pa_cons (pv 1) pa_nil)) pa_nil))) (fun _ _ => rfl)))), ?_⟩
    refine ⟨_, rfl, _, rfl, _, rfl, q, xs, rfl, .inr hq, p, _, rfl, hs, by omega, by omega, fun d H' h0 h1 hb hs' => ?_⟩
    obtain ⟨n, rfl⟩ := Int.eq_ofNat_of_zero_le h0
    have hn : n < xs.length := by omega
    refine ⟨q, xs, n, xs[n], rfl, rfl, hb.seqT qp hq, atI_nat (List.getElem?_eq_getElem hn), ?_⟩
    exact k _ _ (List.getElem_mem hn) hb hs'
theorem scRounds : FnScope ["_law_script"] ["_law_script"] (defScope (top 43)) := ⟨rfl, rfl, rfl, by decide +kernel, rfl, by decide +kernel, by decide +kernel⟩
theorem okRounds (F : FnP K "_law_rounds" (top 43) f fd) (N : Nm mg) : FnOk P w K mg base CX0 1 f fd ["_law_script"] (spRounds K) := by
  refine F.ok scRounds (fun vs H Q E h => ?_) (fun cdv A outer s H vs Q E hr h => ?_)
  · obtain ⟨a, ns, rfl, _⟩ := h
    rfl
  · obtain ⟨a, ns, rfl, hS, hl, k⟩ := h
    refine ⟨_, PSs.nox (pss_one (ps_ret (pe_callB (call_max2 rfl) (by rfl) N.max (by decide +kernel) (pa_cons pe_int (pa_cons (pe_callB (call_min2 rfl) (by rfl) N.min (by decide +kernel) (pa_cons (pe_callB call_len_seq (by rfl) N.len PySem.boot_len (pa_cons (pv 0) pa_nil)) (pa_cons pe_int pa_nil))) pa_nil))))), ?_⟩
    refine ⟨_, rfl, a, _, rfl, .inl hS, _, _, rfl, _, _, rfl, k _ ?_ ?_⟩
    · split <;> split <;> omega
    · split <;> split <;> omega
end
theorem cut_mem {xs : List V} {lo hi : Option Int} {i : Nat} {x : V} (h : (cutV xs lo hi)[i]? = some x) : x ∈ xs := by
  unfold cutV at h
  exact List.mem_of_mem_drop (List.mem_of_mem_take (List.mem_of_getElem? h))
section
variable {P : Program} {w : World} {K : PySem.W.Frag} {mg : Str → Option Value} {base : Heap} {f fD : Addr} {fd fdD : FuncData}
theorem scSource : FnScope ["_law_script", "_law_turn", "_law_mixed", "_law_cell", "_law_own"] ["_law_script", "_law_turn"] (defScope (top 42)) := ⟨rfl, rfl, rfl, by decide +kernel, rfl, by decide +kernel, by decide +kernel⟩
theorem okSource (F : FnP K "_law_source" (top 42) f fd) (N : Nm mg) : FnOk P w K mg base CX0 1 f fd ["_law_script", "_law_turn"] (spSource K) := by
  refine F.ok scSource (fun vs H Q E h => ?_) (fun cdv A outer s H vs Q E hr h => ?_)
  · obtain ⟨a, ns, t, rfl, _⟩ := h
    rfl
  · obtain ⟨a, ns, t, rfl, hS, hl, t0, t1, k⟩ := h
    refine ⟨_, PSs.nox (pss_cons (ps_set (i := 2) scSource.nd rfl (.inl rfl) (pe_op op_add pe_int (pe_op op_mul pe_int (pv 1))))
      (pss_cons (ps_for PassesOwn.never rfl (pi_list (pe_slice sl_list (pv 0) po_none (po_some pe_int))) (pg_name (i := 3) scSource.nd rfl (Or.inl rfl))
        (pss_one (ps_set (i := 2) scSource.nd rfl (.inl rfl) (pe_op op_mod (pe_callTy call_int1 (by rfl) N.int (by decide +kernel) (pa_cons (pe_op op_add (pe_op op_add (pe_op op_mul (pv 2) pe_int) (pe_op op_mod (pe_callTy call_int1 (by rfl) N.int (by decide +kernel) (pa_cons (pv 3) pa_nil)) pe_int)) pe_int) pa_nil)) pe_int))))
      (pss_cons (ps_set (i := 4) scSource.nd rfl (.inl rfl) (pe_ifExp (pt_cmpR op_lt (pv 1) (pe_callB call_len_seq (by rfl) N.len PySem.boot_len (pa_cons (pv 0) pa_nil)) (nomark _))
          (pe_callB call_abs (by rfl) N.abs (by decide +kernel) (pa_cons (pe_callTy call_int1 (by rfl) N.int (by decide +kernel) (pa_cons (pe_ix ix_list (pv 0) (pv 1) (fun _ _ => rfl)) pa_nil)) pa_nil)) pe_int))
      (pss_one (ps_ret (pe_lst (pa_cons (pe_ifExp (pt_cmpR op_ge (pv 4) (pe_op op_pow pe_int pe_int) (nomark _)) (pv 4) pe_int)
        (pa_cons (pe_op op_mod (pe_callTy call_int1 (by rfl) N.int (by decide +kernel) (pa_cons (pe_op op_add (pv 2) (pe_op op_mul (pe_op op_mod (pe_callTy call_int1 (by rfl) N.int (by decide +kernel) (pa_cons (pv 4) pa_nil)) pe_int) pe_int)) pa_nil)) pe_int)
          (pa_cons pe_int pa_nil))))))))), ?_⟩
    have hM : (0 : Int) < 1000000007 := by decide
    have hm : (0 : Int) < 998244353 := by decide
    refine ⟨_, rfl, 977, t, rfl, rfl, .inl ⟨by decide, by decide⟩, _, _, rfl, rfl, ?_⟩
    refine ⟨_, rfl, 63, rfl, a, _, rfl, hS, fun p hp => ?_⟩
    have s0 : Same H (upd H p (.lst (cutV (ns.map V.int) none (some 63)))) := fun b o e => by
      rw [upd_ne (ne_of_none e hp)]
      exact e
    refine ⟨p, rfl, ⟨_, SqL.of upd_same⟩, for_list (K := K) (a := p) (xs := cutV (ns.map V.int) none (some 63)) (fun i σ H' => ∃ (x : Int) (v : Option V), 0 ≤ x ∧ x < 1000000007 ∧ σ = [some (.ref a), some (.int t), some (.int x), v, none] ∧ H' = upd H p (.lst (cutV (ns.map V.int) none (some 63))))
      ⟨40009 + 977 * t, none, by omega, by omega, rfl, rfl⟩ (fun i σ H' _ ⟨_, _, _, _, _, e⟩ => by rw [e]; exact SqL.of upd_same) ?_ ?_⟩
    · rintro i y σ H' hi ⟨x, v, x0, x1, rfl, rfl⟩
      obtain ⟨z, _, rfl⟩ := List.mem_map.mp (cut_mem hi)
      refine ⟨_, rfl, x, _, rfl, rfl, .inl ⟨by omega, by omega⟩, _, rfl, .inl ⟨z, rfl, z, _, rfl, rfl, hm, _, _, rfl, rfl, _, _, rfl, rfl, .inl ⟨_, rfl, _, _, rfl, rfl, hM, ?_⟩⟩⟩
      exact ⟨_, _, Int.emod_nonneg _ (by decide), Int.emod_lt_of_pos _ hM, rfl, rfl⟩
    · rintro σ H' ⟨x, v, x0, x1, rfl, rfl⟩
      have hS' : SqL K (upd H p (.lst (cutV (ns.map V.int) none (some 63)))) a (ns.map V.int) := s0.seq hS
      have fin : ∀ o : Int, 0 ≤ o → ∀ q H', H' q = none → Same H H' → H' = upd H p (.lst (cutV (ns.map V.int) none (some 63))) → ∀ y : Int, 0 ≤ y → y < 1000000007 → Q (.ref q) (upd H' q (.lst [.int o, .int y, .int 0])) := by
        intro o ho q H' hq sm _ y y0 y1
        refine k q _ (fun b u e => ?_) (sm.free hq) ⟨o, y, 0, ho, y0, y1, Int.le_refl _, upd_same⟩
        rw [upd_ne (ne_of_none (sm b u e) hq)]
        exact sm b u e
      refine ⟨_, rfl, _, rfl, a, _, rfl, .inl hS', t, _, rfl, rfl, _, rfl, ite2 (fun hlt => ?_) (fun _ => ?_)⟩
      · obtain ⟨n, rfl⟩ := Int.eq_ofNat_of_zero_le t0
        have hn : n < (ns.map V.int).length := by
          have z := of_decide_eq_true hlt
          omega
        have hn2 : n < ns.length := by rw [List.length_map] at hn; exact hn
        have hat : (ns.map V.int)[n]? = some (V.int ns[n]) := by
          rw [List.getElem?_map, List.getElem?_eq_getElem hn2]
          rfl
        refine ⟨_, rfl, _, rfl, a, _, n, _, rfl, rfl, hS', atI_nat hat, .inl ⟨_, rfl, _, rfl, ?_⟩⟩
        have ho : 0 ≤ (if ns[n] < 0 then -ns[n] else ns[n]) := by split <;> omega
        generalize (if ns[n] < 0 then -ns[n] else ns[n]) = o at ho
        refine ⟨_, rfl, 10, 18, rfl, rfl, ⟨by decide, by decide, by decide⟩, o, _, rfl, rfl, _, rfl, ite2 (fun _ => ⟨_, rfl, ?_⟩) (fun _ => ?_)⟩
        · refine ⟨_, rfl, _, rfl, .inl ⟨o, rfl, o, _, rfl, rfl, hm, _, 3, rfl, rfl, .inl ⟨by omega, by omega⟩, x, _, rfl, rfl, .inl ⟨_, rfl, _, _, rfl, rfl, hM, (by show 3 ≤ sizeLine; decide), fun q hq => ?_⟩⟩⟩
          exact fin o ho q _ hq s0 rfl _ (Int.emod_nonneg _ (by decide)) (Int.emod_lt_of_pos _ hM)
        · refine ⟨_, rfl, _, rfl, .inl ⟨o, rfl, o, _, rfl, rfl, hm, _, 3, rfl, rfl, .inl ⟨by omega, by omega⟩, x, _, rfl, rfl, .inl ⟨_, rfl, _, _, rfl, rfl, hM, (by show 3 ≤ sizeLine; decide), fun q hq => ?_⟩⟩⟩
          exact fin 0 (Int.le_refl _) q _ hq s0 rfl _ (Int.emod_nonneg _ (by decide)) (Int.emod_lt_of_pos _ hM)
      · refine ⟨_, rfl, 10, 18, rfl, rfl, ⟨by decide, by decide, by decide⟩, 0, _, rfl, rfl, _, rfl, ite2 (fun _ => ⟨_, rfl, ?_⟩) (fun _ => ?_)⟩
        · refine ⟨_, rfl, _, rfl, .inl ⟨0, rfl, 0, _, rfl, rfl, hm, _, 3, rfl, rfl, .inl ⟨by omega, by omega⟩, x, _, rfl, rfl, .inl ⟨_, rfl, _, _, rfl, rfl, hM, (by show 3 ≤ sizeLine; decide), fun q hq => ?_⟩⟩⟩
          exact fin 0 (Int.le_refl _) q _ hq s0 rfl _ (Int.emod_nonneg _ (by decide)) (Int.emod_lt_of_pos _ hM)
        · refine ⟨_, rfl, _, rfl, .inl ⟨0, rfl, 0, _, rfl, rfl, hm, _, 3, rfl, rfl, .inl ⟨by omega, by omega⟩, x, _, rfl, rfl, .inl ⟨_, rfl, _, _, rfl, rfl, hM, (by show 3 ≤ sizeLine; decide), fun q hq => ?_⟩⟩⟩
          exact fin 0 (Int.le_refl _) q _ hq s0 rfl _ (Int.emod_nonneg _ (by decide)) (Int.emod_lt_of_pos _ hM)
end
end K2
namespace K2
open PySem PySem.Spec PyProof.Rows L2
/-! ### least terms by Euclid's steps -/
def gN (ns : List Int) : Nat := ns.foldl (fun g n => g.gcd n.natAbs) 0
def Lim (x : Int) : Prop := -1000000000 ≤ x ∧ x ≤ 1000000000
def spLeast : Sp := fun vs H Q _ => ∃ (q : Addr) (ns : List Int), vs = [.ref q] ∧ H q = some (.tup (ns.map V.int)) ∧ ns.length ≤ 3 ∧ (∀ n ∈ ns, Lim n) ∧
  ∀ r H', Same H H' → H' r = some (.tup (ns.map fun n => V.int (n / (gN ns : Int)))) → Q (.ref r) H'
theorem gN_le : ∀ {ns : List Int}, (∀ n ∈ ns, Lim n) → gN ns ≤ 1000000000 := by
  have key : ∀ (ns : List Int) (g : Nat), g ≤ 1000000000 → (∀ n ∈ ns, Lim n) → ns.foldl (fun g n => g.gcd n.natAbs) g ≤ 1000000000 := by
    intro ns
    induction ns with
    | nil => intro g h _; exact h
    | cons n r ih =>
      intro g h ha
      refine ih _ ?_ fun m hm => ha m (List.mem_cons_of_mem _ hm)
      have hn := ha n List.mem_cons_self
      by_cases hg : g = 0
      · subst hg
        rw [show (fun (g : Nat) (n : Int) => g.gcd n.natAbs) 0 n = n.natAbs from Nat.gcd_zero_left _]
        obtain ⟨h1, h2⟩ := hn
        omega
      · exact Nat.le_trans (Nat.gcd_le_left _ (Nat.pos_of_ne_zero hg)) h
  intro ns h
  exact key ns 0 (by decide) h
theorem gN_dvd : ∀ {ns : List Int} {n : Int}, n ∈ ns → gN ns ∣ n.natAbs := by
  have k1 : ∀ (ns : List Int) (g : Nat), ns.foldl (fun g n => g.gcd n.natAbs) g ∣ g := by
    intro ns
    induction ns with
    | nil => intro g; exact Nat.dvd_refl _
    | cons n r ih => intro g; exact Nat.dvd_trans (ih _) (Nat.gcd_dvd_left _ _)
  have k2 : ∀ (ns : List Int) (g : Nat) (n : Int), n ∈ ns → ns.foldl (fun g n => g.gcd n.natAbs) g ∣ n.natAbs := by
    intro ns
    induction ns with
    | nil => intro g n h; cases h
    | cons m r ih =>
      intro g n h
      rcases List.mem_cons.mp h with rfl | h
      · exact Nat.dvd_trans (k1 r _) (Nat.gcd_dvd_right _ _)
      · exact ih _ n h
  intro ns n h
  exact k2 ns 0 n h
theorem gN_take {ns : List Int} {i : Nat} {n : Int} (h : ns[i]? = some n) : gN (ns.take (i + 1)) = (gN (ns.take i)).gcd n.natAbs := by
  unfold gN
  rw [List.take_add_one, h, List.foldl_append]
  rfl
/-- what is divided by max(1, g) -/
theorem div_max {ns : List Int} {n : Int} (h : n ∈ ns) : n.fdiv (if (gN ns : Int) > 1 then (gN ns : Int) else 1) = n / (gN ns : Int) := by
  have hd := gN_dvd h
  by_cases h1 : (gN ns : Int) > 1
  · rw [if_pos h1, Int.fdiv_eq_ediv_of_nonneg _ (by omega)]
  · rw [if_neg h1, Int.fdiv_eq_ediv_of_nonneg _ (by omega)]
    by_cases h2 : gN ns = 0
    · rw [h2] at hd ⊢
      have : n = 0 := by
        have := Nat.eq_zero_of_zero_dvd hd
        omega
      rw [this]
      rfl
    · have : gN ns = 1 := by omega
      rw [this]
      rfl
theorem gN3 (x y z : Int) : (gN [x, y, z] : Int) = g3 x y z := by
  unfold gN g3
  show (((((0 : Nat).gcd x.natAbs).gcd y.natAbs).gcd z.natAbs : Nat) : Int) = _
  rw [Nat.gcd_zero_left]
theorem gN2 (x y : Int) : (gN [x, y] : Int) = g2 x y := by
  unfold gN g2
  show ((((0 : Nat).gcd x.natAbs).gcd y.natAbs : Nat) : Int) = _
  rw [Nat.gcd_zero_left]
section
variable {P : Program} {w : World} {K : PySem.W.Frag} {mg : Str → Option Value} {base : Heap} {f : Addr} {fd : FuncData} {Ad : Nat → Addr} {Dd : Nat → FuncData}
theorem scLeast : FnScope ["_law_numbers", "_law_part_here", "_law_number", "_law_one", "_law_two"] ["_law_numbers"] (defScope (top 46)) := ⟨rfl, rfl, rfl, by decide +kernel, rfl, by decide +kernel, by decide +kernel⟩
theorem bindsLLeast (F : FnP K "_law_least" (top 46) f fd) : Binds K fd ["_law_numbers"] [] := F.bindsN fun _ _ _ _ _ _ us hl => match us, hl with | [_], _ => rfl
def natOf : Option (Option V) → Nat
  | some (some (.int b)) => b.toNat
  | _ => 0
theorem okLeast (F : FnP K "_law_least" (top 46) f fd) (N : Nm mg) : FnOk P w K mg base CX0 1 f fd ["_law_numbers"] spLeast := by
  refine F.ok scLeast (fun vs H Q E h => ?_) (fun cdv A outer s H vs Q E hr h => ?_)
  · obtain ⟨q, ns, rfl, _⟩ := h
    rfl
  · obtain ⟨q, ns, rfl, hq, hlen, hlim, k⟩ := h
    refine ⟨_, PSs.nox (pss_cons (ps_set (i := 1) scLeast.nd rfl (.inr rfl) pe_int)
      (pss_cons (ps_for PassesOwn.never rfl (pi_tup (pv 0)) (pg_name (i := 2) scLeast.nd rfl (Or.inl rfl))
        (pss_cons (ps_par (by rfl) scLeast.nd (i := 3) (j := 4) rfl rfl (by decide) rfl rfl (pa_cons (pv 1) (pa_cons (pe_callB call_abs (by rfl) N.abs (by decide +kernel) (pa_cons (pv 2) pa_nil)) pa_nil)) (by rfl))
        (pss_cons (ps_while PassesOwn.never (pt_cmpR op_gt (pv 4) pe_int (nomark _))
          (pss_one (ps_par (by rfl) scLeast.nd (i := 3) (j := 4) rfl rfl (by decide) rfl rfl (pa_cons (pv 4) (pa_cons (pe_op op_mod (pe_callTy call_int1 (by rfl) N.int (by decide +kernel) (pa_cons (pv 3) pa_nil)) (pv 4)) pa_nil)) (by rfl))))
        (pss_one (ps_set (i := 1) scLeast.nd rfl (.inr rfl) (pv 3))))))
      (pss_one (ps_ret (pe_callTy call_tuple_of (by rfl) N.tuple (by decide +kernel) (pa_cons
        (pe_lc (own := [("_law_number", 2)]) (g := gName 2) (tt := tYes) (by rfl) scLeast.nd (pi_tup (pv 0)) (blkOk_by (own := [("_law_number", 2)]) (N := ["_law_numbers", "_law_part_here", "_law_number", "_law_one", "_law_two"]) (sc := defScope (top 46)) (by decide +kernel))
          (fun _ _ _ _ _ => pg_name (i := 2) scLeast.nd rfl (Or.inl rfl)) (fun _ _ _ _ _ => pts_nil)
          (fun _ _ _ _ _ => pe_op op_fdivN (pv 2) (pe_callB (call_max2 rfl) (by rfl) N.max (by decide +kernel) (pa_cons pe_int (pa_cons (pv 1) pa_nil))))) pa_nil)))))), ?_⟩
    have sq : ∀ {H' : Hp}, Same H H' → SqT K H' q (ns.map V.int) := fun {H'} e => SqT.of (e _ _ hq)
    have hI : ∀ (i : Nat) (v : V), (ns.map V.int)[i]? = some v → ∃ n, ns[i]? = some n ∧ v = .int n ∧ n ∈ ns := by
      intro i v h
      rw [List.getElem?_map] at h
      cases e : ns[i]? with
      | none =>
        rw [e] at h
        cases h
      | some n =>
        rw [e] at h
        exact ⟨n, rfl, (Option.some.inj h).symm, List.mem_of_getElem? e⟩
    have hml : (ns.map V.int).length = ns.length := List.length_map ..
    refine ⟨_, rfl, q, rfl, ⟨_, sq (Same.refl _)⟩, for_tup (K := K) (a := q) (xs := ns.map V.int) (fun i σ H' => ∃ (v2 v3 v4 : Option V), σ = [some (.ref q), some (.int (gN (ns.take i) : Int)), v2, v3, v4] ∧ H' = H)
      ⟨none, none, none, rfl, rfl⟩ (fun i σ H' _ ⟨_, _, _, _, e⟩ => by rw [e]; exact sq (Same.refl _)) ?_ ?_⟩
    · rintro i v σ H' hi ⟨v2, v3, v4, rfl, rfl⟩
      obtain ⟨n, hn, rfl, hm⟩ := hI i v hi
      refine ⟨_, rfl, _, rfl, n, rfl, _, _, rfl, ?_⟩
      have eab : (if n < 0 then -n else n) = (n.natAbs : Int) := by split <;> omega
      rw [eab]
      refine while_by (fun σ2 H2 => ∃ a b : Nat, a.gcd b = (gN (ns.take i)).gcd n.natAbs ∧ σ2 = [some (.ref q), some (.int (gN (ns.take i) : Int)), some (.int n), some (.int (a : Int)), some (.int (b : Int))] ∧ H2 = H')
        (fun σ2 _ => natOf σ2[4]?) ⟨_, _, rfl, rfl, rfl⟩ ?_ ?_
      · rintro σ2 H2 ⟨a, b2, hg, rfl, rfl⟩
        refine ⟨_, rfl, (b2 : Int), 0, rfl, rfl, _, rfl, ite2 (fun hb => ?_) (fun hb => ?_)⟩
        · have hb' : (0 : Int) < (b2 : Int) := of_decide_eq_true hb
          refine ⟨_, rfl, _, rfl, .inl ⟨(a : Int), rfl, _, rfl, (a : Int), (b2 : Int), rfl, rfl, hb', _, _, rfl, ⟨b2, a % b2, ?_, ?_, rfl⟩, ?_⟩⟩
          · rw [← hg, Nat.gcd_comm, ← Nat.gcd_rec, Nat.gcd_comm]
          · rw [Int.natCast_emod] <;> rfl
          · show ((a : Int) % (b2 : Int)).toNat < (b2 : Int).toNat
            have m1 := Int.emod_lt_of_pos (a : Int) hb'
            have m0 := Int.emod_nonneg (a : Int) (show (b2 : Int) ≠ 0 by omega)
            omega
        · have b0 : b2 = 0 := by
            by_cases z : b2 = 0
            · exact z
            · exact absurd (decide_eq_true (show (0 : Int) < (b2 : Int) by omega)) hb
          subst b0
          rw [Nat.gcd_zero_right] at hg
          refine ⟨_, rfl, some (.int n), some (.int (a : Int)), some (.int ((0 : Nat) : Int)), ?_, rfl⟩
          rw [gN_take hn, ← hg]
          rfl
      · intro σ2 H2 Q1 Q2 hm2 h
        obtain ⟨v, hv, i1, j1, e1, e2, kb, ek, q1⟩ := h
        exact ⟨v, hv, i1, j1, e1, e2, kb, ek, hm2 _ _ q1⟩
    · rintro σ H' ⟨v2, v3, v4, rfl, rfl⟩
      have et : ns.take (ns.map V.int).length = ns := by rw [hml, List.take_length]
      rw [et]
      refine ⟨_, rfl, q, rfl, ⟨_, sq (Same.refl _)⟩, fun D hD => lc_tup (K := K) (a := q) (xs := ns.map V.int) (fun i H2 => H2 = upd H' D (.lst ((ns.take i).map fun n => V.int (n / (gN ns : Int)))))
        rfl (fun i H2 _ e => by rw [e]; exact sq (sameNew hD)) ?_ ?_⟩
      · rintro i v H2 hi rfl
        obtain ⟨n, hn, rfl, hm⟩ := hI i v hi
        have hl : i < ns.length := (List.getElem?_eq_some_iff.mp hn).1
        have hb := gN_le hlim
        have hmx : 1 ≤ (if (gN ns : Int) > 1 then (gN ns : Int) else 1) ∧ (if (gN ns : Int) > 1 then (gN ns : Int) else 1) ≤ 1000000000 := by split <;> omega
        have h3 : (3 : Nat) < sizeLine := by decide
        refine ⟨rfl, ?_⟩
        unfold tYes
        dsimp only
        rw [if_pos rfl]
        refine ⟨_, rfl, _, rfl, 1, (gN ns : Int), rfl, n, _, rfl, rfl, ?_, _, upd_same, ?_, ?_⟩
        · exact ⟨by omega, by omega⟩
        · rw [List.length_map, List.length_take]
          omega
        · dsimp only
          rw [upd_upd, div_max hm, List.take_add_one, hn, List.map_append]
          rfl
      · rintro H2 rfl
        rw [hml, List.take_length]
        refine ⟨D, _, rfl, .inl ⟨SqL.of upd_same, fun l hl => ?_⟩⟩
        have s0 := sameNew (o := .lst (ns.map fun n => V.int (n / (gN ns : Int)))) hD
        exact k l _ (s0.trans (sameNew hl)) upd_same
end
end K2
namespace K2
open PySem PySem.Spec PyProof.Rows L2
theorem at3_of {H : Hp} {r : Addr} {x y z : Int} (h : H r = some (.tup ([x, y, z].map fun n => V.int (n / (gN [x, y, z] : Int))))) : At3 H (.ref r) (nm3 x y z) := by
  refine ⟨r, rfl, ?_⟩
  rw [h, gN3]
  rfl
theorem at2_of {H : Hp} {r : Addr} {x y : Int} (h : H r = some (.tup ([x, y].map fun n => V.int (n / (gN [x, y] : Int))))) : At2 H (.ref r) (nm2 x y) := by
  refine ⟨r, rfl, ?_⟩
  rw [h, gN2]
  rfl
theorem lim3 {x y z : Int} (hx : Lim x) (hy : Lim y) (hz : Lim z) : ∀ n ∈ [x, y, z], Lim n := fun n hn => by
  simp only [List.mem_cons, List.not_mem_nil, or_false] at hn
  rcases hn with rfl | rfl | rfl <;> assumption
theorem lim2 {x y : Int} (hx : Lim x) (hy : Lim y) : ∀ n ∈ [x, y], Lim n := fun n hn => by
  simp only [List.mem_cons, List.not_mem_nil, or_false] at hn
  rcases hn with rfl | rfl <;> assumption
theorem Lim.sm {x : Int} (h : Lim x) : Sm x := ⟨by have := h.1; omega, by have := h.2; omega⟩
def partZ (t l : Int) : P2 := if 0 < l then nm2 t l else nm2 (-t) (-l)
theorem part_pos {t l : Int} (h : 0 < l) : 0 < l / g2 t l := by
  obtain ⟨a, b, _, hy, _, e2, _⟩ := ex2 (g2_pos (x := t) (show l ≠ 0 by omega))
  rw [e2]
  exact pos_of_mul (g2_pos (x := t) (show l ≠ 0 by omega)) (hy ▸ h)
theorem g2_neg (t l : Int) : g2 (-t) (-l) = g2 t l := by
  unfold g2
  rw [Int.natAbs_neg, Int.natAbs_neg]
theorem part_neg {t l : Int} (h : l < 0) : ¬ 0 < l / g2 t l ∧ (⟨0 - t / g2 t l, 0 - l / g2 t l⟩ : P2) = nm2 (-t) (-l) := by
  have hg := g2_pos (x := t) (show l ≠ 0 by omega)
  obtain ⟨a, b, hx, hy, e1, e2, _⟩ := ex2 hg
  have hn : ∀ {u v : Int}, u = g2 t l * v → -u / g2 t l = -v := fun {u v} e => by
    have e3 : -u = g2 t l * -v := by rw [e, Int.mul_neg]
    rw [e3, Int.mul_ediv_cancel_left _ (show g2 t l ≠ 0 by omega)]
  refine ⟨?_, ?_⟩
  · rw [e2]
    intro z
    have : 0 < g2 t l * b := Int.mul_pos (by omega) z
    omega
  · unfold nm2
    rw [g2_neg, hn hx, hn hy, e1, e2, Int.zero_sub, Int.zero_sub]
def pMid (p q : P3) (f : P2) : P3 := pSum (pTimes p ⟨f.d - f.n, f.d⟩) (pTimes q f)
def pBack (p : P3) : P3 := ⟨0 - p.x, 0 - p.y, p.w⟩
def leftZ (p q r : P3) : Int := p.x * (q.y * r.w - q.w * r.y) - p.y * (q.x * r.w - q.w * r.x) + p.w * (q.x * r.y - q.y * r.x)
def pRim (p q : P3) : P3 := nm3 (p.w * q.y - p.y * q.w) (p.x * q.w - p.w * q.x) (p.x * q.y - p.y * q.x)
def fSum (p q : P2) : P2 := partZ (p.n * q.d + q.n * p.d) (p.d * q.d)
def fBy (p q : P2) : P2 := partZ (p.n * q.n) (p.d * q.d)
def Li3 (p : P3) : Prop := Lim p.x ∧ Lim p.y ∧ Lim p.w
def Li2 (f : P2) : Prop := Lim f.n ∧ Lim f.d
def LSum (p q : P3) : Prop := Lim (p.x * q.w + q.x * p.w) ∧ Lim (p.y * q.w + q.y * p.w) ∧ Lim (p.w * q.w)
def LTimes (p : P3) (f : P2) : Prop := Lim (p.x * f.n) ∧ Lim (p.y * f.n) ∧ Lim (p.w * f.d)
def spPart : Sp := fun vs H Q _ => ∃ t l : Int, vs = [.int t, .int l] ∧ Lim t ∧ Lim l ∧ l ≠ 0 ∧ ∀ r H', Same H H' → At2 H' r (partZ t l) → Q r H'
def spF2 (g : P2 → P2 → P2) (L : P2 → P2 → Prop) : Sp := fun vs H Q _ => ∃ (u v : V) (p q : P2), vs = [u, v] ∧ At2 H u p ∧ At2 H v q ∧ Li2 p ∧ Li2 q ∧ L p q ∧ ∀ r H', Same H H' → At2 H' r (g p q) → Q r H'
def LfSum (p q : P2) : Prop := Lim (p.n * q.d + q.n * p.d) ∧ Lim (p.d * q.d) ∧ p.d * q.d ≠ 0
def LfBy (p q : P2) : Prop := Lim (p.n * q.n) ∧ Lim (p.d * q.d) ∧ p.d * q.d ≠ 0
def spAdd : Sp := fun vs H Q _ => ∃ (u v : V) (p q : P3), vs = [u, v] ∧ At3 H u p ∧ At3 H v q ∧ Li3 p ∧ Li3 q ∧ LSum p q ∧ ∀ r H', Same H H' → At3 H' r (pSum p q) → Q r H'
def spGrow : Sp := fun vs H Q _ => ∃ (u v : V) (p : P3) (q : P2), vs = [u, v] ∧ At3 H u p ∧ At2 H v q ∧ Li3 p ∧ LTimes p q ∧ ∀ r H', Same H H' → At3 H' r (pTimes p q) → Q r H'
def spMid : Sp := fun vs H Q _ => ∃ (u v t : V) (p q : P3) (f : P2), vs = [u, v, t] ∧ At3 H u p ∧ At3 H v q ∧ At2 H t f ∧ Li3 p ∧ Li3 q ∧ Li2 f ∧ LTimes p ⟨f.d - f.n, f.d⟩ ∧ LTimes q f ∧ Li3 (pTimes p ⟨f.d - f.n, f.d⟩) ∧ Li3 (pTimes q f) ∧ LSum (pTimes p ⟨f.d - f.n, f.d⟩) (pTimes q f) ∧ ∀ r H', Same H H' → At3 H' r (pMid p q f) → Q r H'
def spBack : Sp := fun vs H Q _ => ∃ (u : V) (p : P3), vs = [u] ∧ At3 H u p ∧ ∀ r H', Same H H' → At3 H' r (pBack p) → Q r H'
def spLeft : Sp := fun vs H Q _ => ∃ (u v t : V) (p q r : P3), vs = [u, v, t] ∧ At3 H u p ∧ At3 H v q ∧ At3 H t r ∧ Li3 p ∧ Li3 q ∧ Li3 r ∧ Q (.int (leftZ p q r)) H
def spRim : Sp := fun vs H Q _ => ∃ (u v : V) (p q : P3), vs = [u, v] ∧ At3 H u p ∧ At3 H v q ∧ Li3 p ∧ Li3 q ∧ Lim (p.w * q.y - p.y * q.w) ∧ Lim (p.x * q.w - p.w * q.x) ∧ Lim (p.x * q.y - p.y * q.x) ∧ ∀ r H', Same H H' → At3 H' r (pRim p q) → Q r H'
def spBefore : Sp := fun vs H Q _ => ∃ (u v : V) (p q : P2), vs = [u, v] ∧ At2 H u p ∧ At2 H v q ∧ Li2 p ∧ Q (.bl (earl p q)) H
section
variable {P : Program} {w : World} {K : PySem.W.Frag} {mg : Str → Option Value} {base : Heap} {f : Addr} {fd : FuncData} {Ad : Nat → Addr} {Dd : Nat → FuncData}
theorem Pg.oLLeast (T : Pg K mg Ad Dd) (N : Nm mg) : FnOk P w K mg base CX0 1 (Ad 46) (Dd 46) ["_law_numbers"] spLeast := okLeast (T.fn 46 "_law_least" rfl).1 N
theorem scLPart : FnScope ["_law_top", "_law_low", "_law_found"] ["_law_top", "_law_low"] (defScope (top 48)) := ⟨rfl, rfl, rfl, by decide +kernel, rfl, by decide +kernel, by decide +kernel⟩
theorem bindsLPart (F : FnP K "_law_part" (top 48) f fd) : Binds K fd ["_law_top", "_law_low"] [] := F.bindsN fun _ _ _ _ _ _ us hl => match us, hl with | [_, _], _ => rfl
theorem Pg.oLPart (T : Pg K mg Ad Dd) (N : Nm mg) : FnOk P w K mg base CX0 2 (Ad 48) (Dd 48) ["_law_top", "_law_low"] (spPart) := by
  refine (T.fn 48 "_law_part" rfl).1.ok scLPart (fun vs H Q E h => ?_) (fun cdv A outer s H vs Q E hr h => ?_)
  · obtain ⟨t, l, rfl, _⟩ := h
    rfl
  · obtain ⟨t, l, rfl, lt, ll, l0, k⟩ := h
    have hr1 : Room 1 _ := hr.mono (by decide)
    refine ⟨_, PSs.nox (pss_cons (ps_set (i := 2) scLPart.nd rfl (.inl rfl) (pe_call (T.oLLeast N) hr1 rfl (T.fn 46 "_law_least" rfl).2 (T.fn 46 "_law_least" rfl).1.kp (bindsLLeast (T.fn 46 "_law_least" rfl).1) .nil pass0 (pa_cons (pe_tup (pa_cons (pv 0) (pa_cons (pv 1) pa_nil))) pa_nil))) (pss_one (ps_ret (pe_ifExp (pt_cmpR op_gt (pe_ix ix_tup (pv 2) pe_int (fun _ _ => rfl)) pe_int (nomark _)) (pv 2)
      (pe_tup (pa_cons (pe_op op_sub pe_int (pe_ix ix_tup (pv 2) pe_int (fun _ _ => rfl))) (pa_cons (pe_op op_sub pe_int (pe_ix ix_tup (pv 2) pe_int (fun _ _ => rfl))) pa_nil))))))), ?_⟩
    refine ⟨_, rfl, _, rfl, (by show 2 ≤ sizeLine; decide), fun q hq => ⟨q, [t, l], rfl, upd_same, (by show 2 ≤ 3; decide), lim2 lt ll, fun r H1 s e => ?_⟩⟩
    obtain ⟨a, ea, h1⟩ := at2_of e
    cases ea
    have s1 := (sameNew (o := .tup [V.int t, V.int l]) hq).trans s
    refine ⟨_, rfl, r, _, 1, .int (nm2 t l).d, rfl, rfl, SqT.of (h1), rfl, _, _, rfl, rfl, _, rfl, ite2 (fun h => ?_) (fun h => ?_)⟩
    · have hl : 0 < l := by
        rcases Int.lt_trichotomy l 0 with z | z | z
        · exact absurd (of_decide_eq_true h) (part_neg z).1
        · exact absurd z l0
        · exact z
      have e2 : partZ t l = nm2 t l := if_pos hl
      refine ⟨_, rfl, k _ _ s1 ?_⟩
      rw [e2]
      exact ⟨r, rfl, h1⟩
    · have hl : l < 0 := by
        rcases Int.lt_trichotomy l 0 with z | z | z
        · exact z
        · exact absurd z l0
        · exact absurd (decide_eq_true (part_pos (t := t) z)) h
      have e2 : partZ t l = ⟨0 - t / g2 t l, 0 - l / g2 t l⟩ := (if_neg (by omega)).trans (part_neg hl).2.symm
      refine ⟨_, rfl, r, _, 0, .int (nm2 t l).n, rfl, rfl, SqT.of (h1), rfl, _, _, rfl, rfl, _, rfl, r, _, 1, .int (nm2 t l).d, rfl, rfl, SqT.of (h1), rfl, _, _, rfl, rfl, (by show 2 ≤ sizeLine; decide), fun p hp => k _ _ (s1.trans (sameNew hp)) ?_⟩
      rw [e2]
      exact ⟨p, rfl, upd_same⟩
theorem scLSum : FnScope ["_law_one", "_law_two"] ["_law_one", "_law_two"] (defScope (top 49)) := ⟨rfl, rfl, rfl, by decide +kernel, rfl, by decide +kernel, by decide +kernel⟩
theorem bindsLSum (F : FnP K "_law_sum" (top 49) f fd) : Binds K fd ["_law_one", "_law_two"] [] := F.bindsN fun _ _ _ _ _ _ us hl => match us, hl with | [_, _], _ => rfl
theorem Pg.oLSum (T : Pg K mg Ad Dd) (N : Nm mg) : FnOk P w K mg base CX0 3 (Ad 49) (Dd 49) ["_law_one", "_law_two"] (spF2 fSum LfSum) := by
  refine (T.fn 49 "_law_sum" rfl).1.ok scLSum (fun vs H Q E h => ?_) (fun cdv A outer s H vs Q E hr h => ?_)
  · obtain ⟨u, v, p, q, rfl, _⟩ := h
    rfl
  · obtain ⟨u, v, ⟨a, b⟩, ⟨c, d⟩, rfl, ⟨a1, rfl, h1⟩, ⟨a2, rfl, h2⟩, ⟨la, lb⟩, ⟨lc, ld⟩, ⟨l1, l2, l3⟩, k⟩ := h
    have hr2 : Room 2 _ := hr.mono (by decide)
    have hr1 : Room 1 _ := hr.mono (by decide)
    dsimp only at *
    refine ⟨_, PSs.nox (pss_one (ps_ret (pe_call (T.oLPart N) hr2 rfl (T.fn 48 "_law_part" rfl).2 (T.fn 48 "_law_part" rfl).1.kp (bindsLPart (T.fn 48 "_law_part" rfl).1) .nil pass0 (pa_cons (pe_op op_add (pe_op op_mul (pe_ix ix_tup (pv 0) pe_int (fun _ _ => rfl)) (pe_ix ix_tup (pv 1) pe_int (fun _ _ => rfl))) (pe_op op_mul (pe_ix ix_tup (pv 1) pe_int (fun _ _ => rfl)) (pe_ix ix_tup (pv 0) pe_int (fun _ _ => rfl)))) (pa_cons (pe_op op_mul (pe_ix ix_tup (pv 0) pe_int (fun _ _ => rfl)) (pe_ix ix_tup (pv 1) pe_int (fun _ _ => rfl))) pa_nil))))), ?_⟩
    exact ⟨_, rfl, a1, _, 0, .int a, rfl, rfl, SqT.of (h1), rfl, _, rfl, a2, _, 1, .int d, rfl, rfl, SqT.of (h2), rfl, _, _, rfl, rfl, la.sm.mul, _, rfl, a2, _, 0, .int c, rfl, rfl, SqT.of (h2), rfl, _, rfl, a1, _, 1, .int b, rfl, rfl, SqT.of (h1), rfl, _, _, rfl, rfl, lc.sm.mul, _, _, rfl, rfl, _, rfl, a1, _, 1, .int b, rfl, rfl, SqT.of (h1), rfl, _, rfl, a2, _, 1, .int d, rfl, rfl, SqT.of (h2), rfl, _, _, rfl, rfl, lb.sm.mul, _, _, rfl, l1, l2, l3, fun r H' s at2 => k r H' s at2⟩
theorem scLBy : FnScope ["_law_one", "_law_two"] ["_law_one", "_law_two"] (defScope (top 50)) := ⟨rfl, rfl, rfl, by decide +kernel, rfl, by decide +kernel, by decide +kernel⟩
theorem bindsLBy (F : FnP K "_law_by" (top 50) f fd) : Binds K fd ["_law_one", "_law_two"] [] := F.bindsN fun _ _ _ _ _ _ us hl => match us, hl with | [_, _], _ => rfl
theorem Pg.oLBy (T : Pg K mg Ad Dd) (N : Nm mg) : FnOk P w K mg base CX0 3 (Ad 50) (Dd 50) ["_law_one", "_law_two"] (spF2 fBy LfBy) := by
  refine (T.fn 50 "_law_by" rfl).1.ok scLBy (fun vs H Q E h => ?_) (fun cdv A outer s H vs Q E hr h => ?_)
  · obtain ⟨u, v, p, q, rfl, _⟩ := h
    rfl
  · obtain ⟨u, v, ⟨a, b⟩, ⟨c, d⟩, rfl, ⟨a1, rfl, h1⟩, ⟨a2, rfl, h2⟩, ⟨la, lb⟩, ⟨lc, ld⟩, ⟨l1, l2, l3⟩, k⟩ := h
    have hr2 : Room 2 _ := hr.mono (by decide)
    have hr1 : Room 1 _ := hr.mono (by decide)
    dsimp only at *
    refine ⟨_, PSs.nox (pss_one (ps_ret (pe_call (T.oLPart N) hr2 rfl (T.fn 48 "_law_part" rfl).2 (T.fn 48 "_law_part" rfl).1.kp (bindsLPart (T.fn 48 "_law_part" rfl).1) .nil pass0 (pa_cons (pe_op op_mul (pe_ix ix_tup (pv 0) pe_int (fun _ _ => rfl)) (pe_ix ix_tup (pv 1) pe_int (fun _ _ => rfl))) (pa_cons (pe_op op_mul (pe_ix ix_tup (pv 0) pe_int (fun _ _ => rfl)) (pe_ix ix_tup (pv 1) pe_int (fun _ _ => rfl))) pa_nil))))), ?_⟩
    exact ⟨_, rfl, a1, _, 0, .int a, rfl, rfl, SqT.of (h1), rfl, _, rfl, a2, _, 0, .int c, rfl, rfl, SqT.of (h2), rfl, _, _, rfl, rfl, la.sm.mul, _, rfl, a1, _, 1, .int b, rfl, rfl, SqT.of (h1), rfl, _, rfl, a2, _, 1, .int d, rfl, rfl, SqT.of (h2), rfl, _, _, rfl, rfl, lb.sm.mul, _, _, rfl, l1, l2, l3, fun r H' s at2 => k r H' s at2⟩
theorem scLAdd : FnScope ["_law_one", "_law_two", "_law_low"] ["_law_one", "_law_two"] (defScope (top 51)) := ⟨rfl, rfl, rfl, by decide +kernel, rfl, by decide +kernel, by decide +kernel⟩
theorem bindsLAdd (F : FnP K "_law_add" (top 51) f fd) : Binds K fd ["_law_one", "_law_two"] [] := F.bindsN fun _ _ _ _ _ _ us hl => match us, hl with | [_, _], _ => rfl
theorem Pg.oLAdd (T : Pg K mg Ad Dd) (N : Nm mg) : FnOk P w K mg base CX0 2 (Ad 51) (Dd 51) ["_law_one", "_law_two"] (spAdd) := by
  refine (T.fn 51 "_law_add" rfl).1.ok scLAdd (fun vs H Q E h => ?_) (fun cdv A outer s H vs Q E hr h => ?_)
  · obtain ⟨u, v, p, q, rfl, _⟩ := h
    rfl
  · obtain ⟨u, v, ⟨x1, y1, w1⟩, ⟨x2, y2, w2⟩, rfl, ⟨a1, rfl, h1⟩, ⟨a2, rfl, h2⟩, ⟨lx1, ly1, lw1⟩, ⟨lx2, ly2, lw2⟩, ⟨l1, l2, l3⟩, k⟩ := h
    have hr1 : Room 1 _ := hr.mono (by decide)
    dsimp only at *
    refine ⟨_, PSs.nox (pss_cons (ps_set (i := 2) scLAdd.nd rfl (.inl rfl) (pe_op op_mul (pe_ix ix_tup (pv 0) pe_int (fun _ _ => rfl)) (pe_ix ix_tup (pv 1) pe_int (fun _ _ => rfl)))) (pss_one (ps_ret (pe_call (T.oLLeast N) hr1 rfl (T.fn 46 "_law_least" rfl).2 (T.fn 46 "_law_least" rfl).1.kp (bindsLLeast (T.fn 46 "_law_least" rfl).1) .nil pass0 (pa_cons (pe_tup (pa_cons (pe_op op_add (pe_op op_mul (pe_ix ix_tup (pv 0) pe_int (fun _ _ => rfl)) (pe_ix ix_tup (pv 1) pe_int (fun _ _ => rfl))) (pe_op op_mul (pe_ix ix_tup (pv 1) pe_int (fun _ _ => rfl)) (pe_ix ix_tup (pv 0) pe_int (fun _ _ => rfl)))) (pa_cons (pe_op op_add (pe_op op_mul (pe_ix ix_tup (pv 0) pe_int (fun _ _ => rfl)) (pe_ix ix_tup (pv 1) pe_int (fun _ _ => rfl))) (pe_op op_mul (pe_ix ix_tup (pv 1) pe_int (fun _ _ => rfl)) (pe_ix ix_tup (pv 0) pe_int (fun _ _ => rfl)))) (pa_cons (pv 2) pa_nil)))) pa_nil))))), ?_⟩
    refine ⟨_, rfl, a1, _, 2, .int w1, rfl, rfl, SqT.of (h1), rfl, _, rfl, a2, _, 2, .int w2, rfl, rfl, SqT.of (h2), rfl, _, _, rfl, rfl, lw1.sm.mul, ?_⟩
    exact ⟨_, rfl, a1, _, 0, .int x1, rfl, rfl, SqT.of (h1), rfl, _, rfl, a2, _, 2, .int w2, rfl, rfl, SqT.of (h2), rfl, _, _, rfl, rfl, lx1.sm.mul, _, rfl, a2, _, 0, .int x2, rfl, rfl, SqT.of (h2), rfl, _, rfl, a1, _, 2, .int w1, rfl, rfl, SqT.of (h1), rfl, _, _, rfl, rfl, lx2.sm.mul, _, _, rfl, rfl, _, rfl, a1, _, 1, .int y1, rfl, rfl, SqT.of (h1), rfl, _, rfl, a2, _, 2, .int w2, rfl, rfl, SqT.of (h2), rfl, _, _, rfl, rfl, ly1.sm.mul, _, rfl, a2, _, 1, .int y2, rfl, rfl, SqT.of (h2), rfl, _, rfl, a1, _, 2, .int w1, rfl, rfl, SqT.of (h1), rfl, _, _, rfl, rfl, ly2.sm.mul, _, _, rfl, rfl, _, rfl, (by show 3 ≤ sizeLine; decide),
      fun q hq => ⟨q, [x1 * w2 + x2 * w1, y1 * w2 + y2 * w1, w1 * w2], rfl, upd_same, (by show 3 ≤ 3; decide), lim3 l1 l2 l3, fun r H1 s e => k _ _ ((sameNew hq).trans s) (at3_of e)⟩⟩
theorem scLGrow : FnScope ["_law_spot_here", "_law_share_here"] ["_law_spot_here", "_law_share_here"] (defScope (top 52)) := ⟨rfl, rfl, rfl, by decide +kernel, rfl, by decide +kernel, by decide +kernel⟩
theorem bindsLGrow (F : FnP K "_law_grow" (top 52) f fd) : Binds K fd ["_law_spot_here", "_law_share_here"] [] := F.bindsN fun _ _ _ _ _ _ us hl => match us, hl with | [_, _], _ => rfl
theorem Pg.oLGrow (T : Pg K mg Ad Dd) (N : Nm mg) : FnOk P w K mg base CX0 2 (Ad 52) (Dd 52) ["_law_spot_here", "_law_share_here"] (spGrow) := by
  refine (T.fn 52 "_law_grow" rfl).1.ok scLGrow (fun vs H Q E h => ?_) (fun cdv A outer s H vs Q E hr h => ?_)
  · obtain ⟨u, v, p, q, rfl, _⟩ := h
    rfl
  · obtain ⟨u, v, ⟨x1, y1, w1⟩, ⟨n, d⟩, rfl, ⟨a1, rfl, h1⟩, ⟨a2, rfl, h2⟩, ⟨lx1, ly1, lw1⟩, ⟨l1, l2, l3⟩, k⟩ := h
    have hr1 : Room 1 _ := hr.mono (by decide)
    dsimp only at *
    refine ⟨_, PSs.nox (pss_one (ps_ret (pe_call (T.oLLeast N) hr1 rfl (T.fn 46 "_law_least" rfl).2 (T.fn 46 "_law_least" rfl).1.kp (bindsLLeast (T.fn 46 "_law_least" rfl).1) .nil pass0 (pa_cons (pe_tup (pa_cons (pe_op op_mul (pe_ix ix_tup (pv 0) pe_int (fun _ _ => rfl)) (pe_ix ix_tup (pv 1) pe_int (fun _ _ => rfl))) (pa_cons (pe_op op_mul (pe_ix ix_tup (pv 0) pe_int (fun _ _ => rfl)) (pe_ix ix_tup (pv 1) pe_int (fun _ _ => rfl))) (pa_cons (pe_op op_mul (pe_ix ix_tup (pv 0) pe_int (fun _ _ => rfl)) (pe_ix ix_tup (pv 1) pe_int (fun _ _ => rfl))) pa_nil)))) pa_nil)))), ?_⟩
    exact ⟨_, rfl, a1, _, 0, .int x1, rfl, rfl, SqT.of (h1), rfl, _, rfl, a2, _, 0, .int n, rfl, rfl, SqT.of (h2), rfl, _, _, rfl, rfl, lx1.sm.mul, _, rfl, a1, _, 1, .int y1, rfl, rfl, SqT.of (h1), rfl, _, rfl, a2, _, 0, .int n, rfl, rfl, SqT.of (h2), rfl, _, _, rfl, rfl, ly1.sm.mul, _, rfl, a1, _, 2, .int w1, rfl, rfl, SqT.of (h1), rfl, _, rfl, a2, _, 1, .int d, rfl, rfl, SqT.of (h2), rfl, _, _, rfl, rfl, lw1.sm.mul, (by show 3 ≤ sizeLine; decide),
      fun q hq => ⟨q, [x1 * n, y1 * n, w1 * d], rfl, upd_same, (by show 3 ≤ 3; decide), lim3 l1 l2 l3, fun r H1 s e => k _ _ ((sameNew hq).trans s) (at3_of e)⟩⟩
theorem scLMidway : FnScope ["_law_one", "_law_two", "_law_share_here"] ["_law_one", "_law_two", "_law_share_here"] (defScope (top 53)) := ⟨rfl, rfl, rfl, by decide +kernel, rfl, by decide +kernel, by decide +kernel⟩
theorem bindsLMidway (F : FnP K "_law_midway" (top 53) f fd) : Binds K fd ["_law_one", "_law_two", "_law_share_here"] [] := F.bindsN fun _ _ _ _ _ _ us hl => match us, hl with | [_, _, _], _ => rfl
theorem Pg.oLMidway (T : Pg K mg Ad Dd) (N : Nm mg) : FnOk P w K mg base CX0 3 (Ad 53) (Dd 53) ["_law_one", "_law_two", "_law_share_here"] (spMid) := by
  refine (T.fn 53 "_law_midway" rfl).1.ok scLMidway (fun vs H Q E h => ?_) (fun cdv A outer s H vs Q E hr h => ?_)
  · obtain ⟨u, v, t, p, q, f, rfl, _⟩ := h
    rfl
  · obtain ⟨u, v, t, p, q, ⟨n, d⟩, rfl, h1, h2, ⟨a3, rfl, h3⟩, l1, l2, ⟨ln, ld⟩, l4, l5, l6, l7, l8, k⟩ := h
    have hr2 : Room 2 _ := hr.mono (by decide)
    have hr1 : Room 1 _ := hr.mono (by decide)
    dsimp only at *
    refine ⟨_, PSs.nox (pss_one (ps_ret (pe_call (T.oLAdd N) hr2 rfl (T.fn 51 "_law_add" rfl).2 (T.fn 51 "_law_add" rfl).1.kp (bindsLAdd (T.fn 51 "_law_add" rfl).1) .nil pass0 (pa_cons (pe_call (T.oLGrow N) hr2 rfl (T.fn 52 "_law_grow" rfl).2 (T.fn 52 "_law_grow" rfl).1.kp (bindsLGrow (T.fn 52 "_law_grow" rfl).1) .nil pass0 (pa_cons (pv 0) (pa_cons (pe_tup (pa_cons (pe_op op_sub (pe_ix ix_tup (pv 2) pe_int (fun _ _ => rfl)) (pe_ix ix_tup (pv 2) pe_int (fun _ _ => rfl))) (pa_cons (pe_ix ix_tup (pv 2) pe_int (fun _ _ => rfl)) pa_nil))) pa_nil))) (pa_cons (pe_call (T.oLGrow N) hr2 rfl (T.fn 52 "_law_grow" rfl).2 (T.fn 52 "_law_grow" rfl).1.kp (bindsLGrow (T.fn 52 "_law_grow" rfl).1) .nil pass0 (pa_cons (pv 1) (pa_cons (pv 2) pa_nil))) pa_nil))))), ?_⟩
    refine ⟨_, rfl, _, rfl, a3, _, 1, .int d, rfl, rfl, SqT.of (h3), rfl, _, rfl, a3, _, 0, .int n, rfl, rfl, SqT.of (h3), rfl, _, _, rfl, rfl, _, rfl, a3, _, 1, .int d, rfl, rfl, SqT.of (h3), rfl, (by show 2 ≤ sizeLine; decide), fun b hb => ⟨u, _, p, ⟨d - n, d⟩, rfl, h1.mono (sameNew hb), ⟨b, rfl, upd_same⟩, l1, l4, fun r H1 s at1 => ?_⟩⟩
    have s1 := (sameNew (o := .tup [V.int (d - n), V.int d]) hb).trans s
    refine ⟨_, rfl, _, rfl, v, _, q, ⟨n, d⟩, rfl, h2.mono s1, ⟨a3, rfl, s1 _ _ h3⟩, l2, l5, fun r2 H2 s2 at2 => ?_⟩
    exact ⟨r, r2, _, _, rfl, at1.mono s2, at2, l6, l7, l8, fun r3 H3 s3 at3 => k r3 H3 (s1.trans (s2.trans s3)) at3⟩
theorem scLBack : FnScope ["_law_spot_here"] ["_law_spot_here"] (defScope (top 54)) := ⟨rfl, rfl, rfl, by decide +kernel, rfl, by decide +kernel, by decide +kernel⟩
theorem bindsLBack (F : FnP K "_law_back" (top 54) f fd) : Binds K fd ["_law_spot_here"] [] := F.bindsN fun _ _ _ _ _ _ us hl => match us, hl with | [_], _ => rfl
theorem Pg.oLBack (T : Pg K mg Ad Dd) (N : Nm mg) : FnOk P w K mg base CX0 1 (Ad 54) (Dd 54) ["_law_spot_here"] (spBack) := by
  refine (T.fn 54 "_law_back" rfl).1.ok scLBack (fun vs H Q E h => ?_) (fun cdv A outer s H vs Q E hr h => ?_)
  · obtain ⟨u, p, rfl, _⟩ := h
    rfl
  · obtain ⟨u, ⟨x1, y1, w1⟩, rfl, ⟨a1, rfl, h1⟩, k⟩ := h
    dsimp only at *
    refine ⟨_, PSs.nox (pss_one (ps_ret (pe_tup (pa_cons (pe_op op_sub (pe_int) (pe_ix ix_tup (pv 0) pe_int (fun _ _ => rfl))) (pa_cons (pe_op op_sub (pe_int) (pe_ix ix_tup (pv 0) pe_int (fun _ _ => rfl))) (pa_cons (pe_ix ix_tup (pv 0) pe_int (fun _ _ => rfl)) pa_nil)))))), ?_⟩
    exact ⟨_, rfl, a1, _, 0, .int x1, rfl, rfl, SqT.of (h1), rfl, _, _, rfl, rfl, _, rfl, a1, _, 1, .int y1, rfl, rfl, SqT.of (h1), rfl, _, _, rfl, rfl, _, rfl, a1, _, 2, .int w1, rfl, rfl, SqT.of (h1), rfl, (by show 3 ≤ sizeLine; decide), fun q hq => k _ _ (sameNew hq) ⟨q, rfl, upd_same⟩⟩
end
end K2
namespace K2
open PySem PySem.Spec PyProof.Rows L2
theorem div_bd {x g m : Int} (hg : 1 ≤ g) (h1 : -m ≤ x) (h2 : x ≤ m) : -m ≤ x / g ∧ x / g ≤ m := by
  have hm : 0 ≤ m := by omega
  refine ⟨(Int.le_ediv_iff_mul_le (by omega)).mpr ?_, ?_⟩
  · have : -m * g ≤ -m * 1 := Int.mul_le_mul_of_nonpos_left (by omega) hg
    omega
  · have q1 : x / g ≤ m / g := Int.ediv_le_ediv (by omega) h2
    have q2 : m / g ≤ m := Int.ediv_le_self _ hm
    omega
/-- bounds of a point, of a fraction -/
structure Bd3 (m n : Int) (p : P3) : Prop where
  pt : Pt p
  x0 : -m ≤ p.x
  x1 : p.x ≤ m
  y0 : -m ≤ p.y
  y1 : p.y ≤ m
  w1 : p.w ≤ n
structure Bd2 (m n : Int) (f : P2) : Prop where
  fr : Fr f
  n0 : -m ≤ f.n
  n1 : f.n ≤ m
  d1 : f.d ≤ n
structure Gu (f : P2) : Prop where
  di : Di f
  n0 : -99 ≤ f.n
  n1 : f.n ≤ 99
  d0 : -99 ≤ f.d
  d1 : f.d ≤ 99
theorem nm3_bd {x y w m n : Int} (hw : 0 < w) (x0 : -m ≤ x) (x1 : x ≤ m) (y0 : -m ≤ y) (y1 : y ≤ m) (w1 : w ≤ n) : Bd3 m n (nm3 x y w) := by
  have g := g3_pos (x := x) (y := y) (show w ≠ 0 by omega)
  have a := div_bd g x0 x1
  have b := div_bd g y0 y1
  have c := Int.ediv_le_self (g3 x y w) (show 0 ≤ w by omega)
  exact ⟨nm3_pt hw, a.1, a.2, b.1, b.2, Int.le_trans c w1⟩
theorem nm2_bd {x w m n : Int} (hw : 0 < w) (x0 : -m ≤ x) (x1 : x ≤ m) (w1 : w ≤ n) : Bd2 m n (nm2 x w) := by
  have g := g2_pos (x := x) (show w ≠ 0 by omega)
  have a := div_bd g x0 x1
  have c := Int.ediv_le_self (g2 x w) (show 0 ≤ w by omega)
  exact ⟨nm2_fr hw, a.1, a.2, Int.le_trans c w1⟩
theorem SrcAt.some {H : Hp} {p : Addr} (h : SrcAt H p) : ∃ o, H p = Option.some o := by
  obtain ⟨_, _, _, _, _, _, _, e⟩ := h
  exact ⟨_, e⟩
theorem SrcAt.ne {H : Hp} {p b : Addr} (h : SrcAt H p) (e : H b = none) : b ≠ p := fun z => by
  obtain ⟨o, q⟩ := h.some
  rw [z, q] at e
  cases e
theorem SrcAt.upd {H : Hp} {p b : Addr} {o : HO} (h : SrcAt H p) (n : b ≠ p) : SrcAt (upd H b o) p := by
  obtain ⟨a, m, c, h1, h2, h3, h4, e⟩ := h
  exact ⟨a, m, c, h1, h2, h3, h4, by rw [upd_ne n.symm]; exact e⟩
theorem Same.but {p : Addr} {H H' : Hp} (s : Same H H') : But p H H' := fun b o _ e => s b o e
theorem Same.src {p : Addr} {H H' : Hp} (s : Same H H') (h : SrcAt H p) : SrcAt H' p := by
  obtain ⟨a, m, c, h1, h2, h3, h4, e⟩ := h
  exact ⟨a, m, c, h1, h2, h3, h4, s _ _ e⟩
/-- what the source's draws leave of values -/
theorem At3.but {p : Addr} {H H' : Hp} {v : V} {q : P3} (b : But p H H') (s : SrcAt H p) (h : At3 H v q) : At3 H' v q := by
  obtain ⟨a, e, h⟩ := h
  refine ⟨a, e, b _ _ (fun z => ?_) h⟩
  obtain ⟨_, _, _, _, _, _, _, e2⟩ := s
  rw [z, e2] at h
  cases h
theorem At2.but {p : Addr} {H H' : Hp} {v : V} {q : P2} (b : But p H H') (s : SrcAt H p) (h : At2 H v q) : At2 H' v q := by
  obtain ⟨a, e, h⟩ := h
  refine ⟨a, e, b _ _ (fun z => ?_) h⟩
  obtain ⟨_, _, _, _, _, _, _, e2⟩ := s
  rw [z, e2] at h
  cases h
def spSpot : Sp := fun vs H Q _ => ∃ p : Addr, vs = [.ref p] ∧ SrcAt H p ∧ ∀ v q H', But p H H' → SrcAt H' p → At3 H' v q → Bd3 99 5 q → Q v H'
def spShare : Sp := fun vs H Q _ => ∃ p : Addr, vs = [.ref p] ∧ SrcAt H p ∧ ∀ v q H', But p H H' → SrcAt H' p → At2 H' v q → Bd2 6 4 q → Q v H'
def spGust : Sp := fun vs H Q _ => ∃ p : Addr, vs = [.ref p] ∧ SrcAt H p ∧ ∀ v q H', But p H H' → SrcAt H' p → At2 H' v q → Gu q → Q v H'
theorem pick_int {K : PySem.W.Frag} {x : V} {ns : List Int} (h : x ∈ ns.map V.int) : ∃ n, x = .int n ∧ n ∈ ns := by
  obtain ⟨n, hn, e⟩ := List.mem_map.mp h
  exact ⟨n, e.symm, hn⟩
section
variable {P : Program} {w : World} {K : PySem.W.Frag} {mg : Str → Option Value} {base : Heap} {f : Addr} {fd : FuncData} {Ad : Nat → Addr} {Dd : Nat → FuncData}
theorem bindsLDraw (F : FnP K "_law_draw" (top 44) f fd) : Binds K fd ["_law_source_here", "_law_many"] [] := bindsDraw F
theorem bindsLPick (F : FnP K "_law_pick" (top 45) f fd) : Binds K fd ["_law_source_here", "_law_some"] [] := bindsPick F
theorem Pg.oLDraw (T : Pg K mg Ad Dd) (N : Nm mg) : FnOk P w K mg base CX0 1 (Ad 44) (Dd 44) ["_law_source_here", "_law_many"] spDraw := okDraw (T.fn 44 "_law_draw" rfl).1 N
theorem Pg.oLPick (T : Pg K mg Ad Dd) (N : Nm mg) : FnOk P w K mg base CX0 2 (Ad 45) (Dd 45) ["_law_source_here", "_law_some"] (spPick K) := okPick (T.fn 45 "_law_pick" rfl).1 (T.fn 44 "_law_draw" rfl).1 (T.fn 44 "_law_draw" rfl).2 N
theorem scLLeft : FnScope ["_law_one", "_law_two", "_law_three", "_law_first"] ["_law_one", "_law_two", "_law_three"] (defScope (top 55)) := ⟨rfl, rfl, rfl, by decide +kernel, rfl, by decide +kernel, by decide +kernel⟩
theorem bindsLLeft (F : FnP K "_law_left" (top 55) f fd) : Binds K fd ["_law_one", "_law_two", "_law_three"] [] := F.bindsN fun _ _ _ _ _ _ us hl => match us, hl with | [_, _, _], _ => rfl
theorem Pg.oLLeft (T : Pg K mg Ad Dd) (N : Nm mg) : FnOk P w K mg base CX0 1 (Ad 55) (Dd 55) ["_law_one", "_law_two", "_law_three"] (spLeft) := by
  refine (T.fn 55 "_law_left" rfl).1.ok scLLeft (fun vs H Q E h => ?_) (fun cdv A outer s H vs Q E hr h => ?_)
  · obtain ⟨u, v, t, p, q, f, rfl, _⟩ := h
    rfl
  · obtain ⟨u, v, t, ⟨x1, y1, w1⟩, ⟨x2, y2, w2⟩, ⟨x3, y3, w3⟩, rfl, ⟨a1, rfl, h1⟩, ⟨a2, rfl, h2⟩, ⟨a3, rfl, h3⟩, ⟨lx1, ly1, lw1⟩, ⟨lx2, ly2, lw2⟩, l3, k⟩ := h
    dsimp only at *
    refine ⟨_, PSs.nox (pss_cons (ps_set (i := 3) scLLeft.nd rfl (.inl rfl) (pe_op op_sub (pe_op op_mul (pe_ix ix_tup (pv 0) pe_int (fun _ _ => rfl)) (pe_op op_sub (pe_op op_mul (pe_ix ix_tup (pv 1) pe_int (fun _ _ => rfl)) (pe_ix ix_tup (pv 2) pe_int (fun _ _ => rfl))) (pe_op op_mul (pe_ix ix_tup (pv 1) pe_int (fun _ _ => rfl)) (pe_ix ix_tup (pv 2) pe_int (fun _ _ => rfl))))) (pe_op op_mul (pe_ix ix_tup (pv 0) pe_int (fun _ _ => rfl)) (pe_op op_sub (pe_op op_mul (pe_ix ix_tup (pv 1) pe_int (fun _ _ => rfl)) (pe_ix ix_tup (pv 2) pe_int (fun _ _ => rfl))) (pe_op op_mul (pe_ix ix_tup (pv 1) pe_int (fun _ _ => rfl)) (pe_ix ix_tup (pv 2) pe_int (fun _ _ => rfl))))))) (pss_one (ps_ret (pe_op op_add (pv 3) (pe_op op_mul (pe_ix ix_tup (pv 0) pe_int (fun _ _ => rfl)) (pe_op op_sub (pe_op op_mul (pe_ix ix_tup (pv 1) pe_int (fun _ _ => rfl)) (pe_ix ix_tup (pv 2) pe_int (fun _ _ => rfl))) (pe_op op_mul (pe_ix ix_tup (pv 1) pe_int (fun _ _ => rfl)) (pe_ix ix_tup (pv 2) pe_int (fun _ _ => rfl))))))))), ?_⟩
    refine ⟨_, rfl, a1, _, 0, .int x1, rfl, rfl, SqT.of (h1), rfl, _, rfl, a2, _, 1, .int y2, rfl, rfl, SqT.of (h2), rfl, _, rfl, a3, _, 2, .int w3, rfl, rfl, SqT.of (h3), rfl, _, _, rfl, rfl, ly2.sm.mul, _, rfl, a2, _, 2, .int w2, rfl, rfl, SqT.of (h2), rfl, _, rfl, a3, _, 1, .int y3, rfl, rfl, SqT.of (h3), rfl, _, _, rfl, rfl, lw2.sm.mul, _, _, rfl, rfl, _, _, rfl, rfl, lx1.sm.mul, _, rfl, a1, _, 1, .int y1, rfl, rfl, SqT.of (h1), rfl, _, rfl, a2, _, 0, .int x2, rfl, rfl, SqT.of (h2), rfl, _, rfl, a3, _, 2, .int w3, rfl, rfl, SqT.of (h3), rfl, _, _, rfl, rfl, lx2.sm.mul, _, rfl, a2, _, 2, .int w2, rfl, rfl, SqT.of (h2), rfl, _, rfl, a3, _, 0, .int x3, rfl, rfl, SqT.of (h3), rfl, _, _, rfl, rfl, lw2.sm.mul, _, _, rfl, rfl, _, _, rfl, rfl, ly1.sm.mul, _, _, rfl, rfl, ?_⟩
    exact ⟨_, rfl, _, rfl, a1, _, 2, .int w1, rfl, rfl, SqT.of (h1), rfl, _, rfl, a2, _, 0, .int x2, rfl, rfl, SqT.of (h2), rfl, _, rfl, a3, _, 1, .int y3, rfl, rfl, SqT.of (h3), rfl, _, _, rfl, rfl, lx2.sm.mul, _, rfl, a2, _, 1, .int y2, rfl, rfl, SqT.of (h2), rfl, _, rfl, a3, _, 0, .int x3, rfl, rfl, SqT.of (h3), rfl, _, _, rfl, rfl, ly2.sm.mul, _, _, rfl, rfl, _, _, rfl, rfl, lw1.sm.mul, _, _, rfl, rfl, k⟩
theorem scLSide : FnScope ["_law_one", "_law_two", "_law_a", "_law_b"] ["_law_one", "_law_two"] (defScope (top 56)) := ⟨rfl, rfl, rfl, by decide +kernel, rfl, by decide +kernel, by decide +kernel⟩
theorem bindsLSide (F : FnP K "_law_side" (top 56) f fd) : Binds K fd ["_law_one", "_law_two"] [] := F.bindsN fun _ _ _ _ _ _ us hl => match us, hl with | [_, _], _ => rfl
theorem Pg.oLSide (T : Pg K mg Ad Dd) (N : Nm mg) : FnOk P w K mg base CX0 2 (Ad 56) (Dd 56) ["_law_one", "_law_two"] (spRim) := by
  refine (T.fn 56 "_law_side" rfl).1.ok scLSide (fun vs H Q E h => ?_) (fun cdv A outer s H vs Q E hr h => ?_)
  · obtain ⟨u, v, p, q, rfl, _⟩ := h
    rfl
  · obtain ⟨u, v, ⟨x1, y1, w1⟩, ⟨x2, y2, w2⟩, rfl, ⟨a1, rfl, h1⟩, ⟨a2, rfl, h2⟩, ⟨lx1, ly1, lw1⟩, ⟨lx2, ly2, lw2⟩, l1, l2, l3, k⟩ := h
    have hr1 : Room 1 _ := hr.mono (by decide)
    dsimp only at *
    refine ⟨_, PSs.nox (pss_cons (ps_par (by rfl) scLSide.nd (i := 2) (j := 3) rfl rfl (by decide) rfl rfl (pa_cons (pe_op op_sub (pe_op op_mul (pe_ix ix_tup (pv 0) pe_int (fun _ _ => rfl)) (pe_ix ix_tup (pv 1) pe_int (fun _ _ => rfl))) (pe_op op_mul (pe_ix ix_tup (pv 0) pe_int (fun _ _ => rfl)) (pe_ix ix_tup (pv 1) pe_int (fun _ _ => rfl)))) (pa_cons (pe_op op_sub (pe_op op_mul (pe_ix ix_tup (pv 0) pe_int (fun _ _ => rfl)) (pe_ix ix_tup (pv 1) pe_int (fun _ _ => rfl))) (pe_op op_mul (pe_ix ix_tup (pv 0) pe_int (fun _ _ => rfl)) (pe_ix ix_tup (pv 1) pe_int (fun _ _ => rfl)))) pa_nil)) (by rfl)) (pss_one (ps_ret (pe_call (T.oLLeast N) hr1 rfl (T.fn 46 "_law_least" rfl).2 (T.fn 46 "_law_least" rfl).1.kp (bindsLLeast (T.fn 46 "_law_least" rfl).1) .nil pass0 (pa_cons (pe_tup (pa_cons (pv 2) (pa_cons (pv 3) (pa_cons (pe_op op_sub (pe_op op_mul (pe_ix ix_tup (pv 0) pe_int (fun _ _ => rfl)) (pe_ix ix_tup (pv 1) pe_int (fun _ _ => rfl))) (pe_op op_mul (pe_ix ix_tup (pv 0) pe_int (fun _ _ => rfl)) (pe_ix ix_tup (pv 1) pe_int (fun _ _ => rfl)))) pa_nil)))) pa_nil))))), ?_⟩
    refine ⟨_, rfl, a1, _, 2, .int w1, rfl, rfl, SqT.of (h1), rfl, _, rfl, a2, _, 1, .int y2, rfl, rfl, SqT.of (h2), rfl, _, _, rfl, rfl, lw1.sm.mul, _, rfl, a1, _, 1, .int y1, rfl, rfl, SqT.of (h1), rfl, _, rfl, a2, _, 2, .int w2, rfl, rfl, SqT.of (h2), rfl, _, _, rfl, rfl, ly1.sm.mul, _, _, rfl, rfl, _, rfl, a1, _, 0, .int x1, rfl, rfl, SqT.of (h1), rfl, _, rfl, a2, _, 2, .int w2, rfl, rfl, SqT.of (h2), rfl, _, _, rfl, rfl, lx1.sm.mul, _, rfl, a1, _, 2, .int w1, rfl, rfl, SqT.of (h1), rfl, _, rfl, a2, _, 0, .int x2, rfl, rfl, SqT.of (h2), rfl, _, _, rfl, rfl, lw1.sm.mul, _, _, rfl, rfl, _, _, rfl, ?_⟩
    exact ⟨_, rfl, _, rfl, _, rfl, a1, _, 0, .int x1, rfl, rfl, SqT.of (h1), rfl, _, rfl, a2, _, 1, .int y2, rfl, rfl, SqT.of (h2), rfl, _, _, rfl, rfl, lx1.sm.mul, _, rfl, a1, _, 1, .int y1, rfl, rfl, SqT.of (h1), rfl, _, rfl, a2, _, 0, .int x2, rfl, rfl, SqT.of (h2), rfl, _, _, rfl, rfl, ly1.sm.mul, _, _, rfl, rfl, (by show 3 ≤ sizeLine; decide), fun q hq => ⟨q, [_, _, _], rfl, upd_same, (by show 3 ≤ 3; decide), lim3 l1 l2 l3, fun r H1 s e => k _ _ ((sameNew hq).trans s) (at3_of e)⟩⟩
theorem scLHalf : FnScope ["_law_gust_here"] ["_law_gust_here"] (defScope (top 57)) := ⟨rfl, rfl, rfl, by decide +kernel, rfl, by decide +kernel, by decide +kernel⟩
theorem bindsLHalf (F : FnP K "_law_half" (top 57) f fd) : Binds K fd ["_law_gust_here"] [] := F.bindsN fun _ _ _ _ _ _ us hl => match us, hl with | [_], _ => rfl
theorem Pg.oLHalf (T : Pg K mg Ad Dd) (N : Nm mg) : FnOk P w K mg base CX0 1 (Ad 57) (Dd 57) ["_law_gust_here"] (spHalf) := by
  refine (T.fn 57 "_law_half" rfl).1.ok scLHalf (fun vs H Q E h => ?_) (fun cdv A outer s H vs Q E hr h => ?_)
  · obtain ⟨v, f, rfl, _⟩ := h
    rfl
  · obtain ⟨v, ⟨n, d⟩, rfl, ⟨a, rfl, ha⟩, k⟩ := h
    refine ⟨_, PSs.nox (pss_one (ps_ret (pe_ifExp (PW.pt (pw_or (pt_cmpR op_gt (pe_ix ix_tup (pv 0) pe_int (fun _ _ => rfl)) pe_int (nomark _)) (pw_or1 (PW.pt (pw_and (pt_cmpR op_eq (pe_ix ix_tup (pv 0) pe_int (fun _ _ => rfl)) pe_int (nomark _)) (pw_and1 (pt_cmpR op_gt (pe_ix ix_tup (pv 0) pe_int (fun _ _ => rfl)) pe_int (nomark _)))))))) pe_int pe_int))), ?_⟩
    refine ⟨_, rfl, a, _, 1, .int d, rfl, rfl, SqT.of (ha), rfl, _, _, rfl, rfl, _, rfl, ite2 (fun h1 => iteT ?_) (fun h1 => ?_)⟩
    · have e : halfZ ⟨n, d⟩ = 0 := if_pos (of_decide_eq_true h1)
      rw [e] at k
      exact k
    have n1 : ¬ 0 < d := fun z => h1 (decide_eq_true z)
    refine ⟨_, rfl, a, _, 1, .int d, rfl, rfl, SqT.of (ha), rfl, rfl, _, rfl, ite2 (fun h2 => ?_) (fun h2 => iteF ?_)⟩
    · have e2 : d = 0 := V.int.inj (of_decide_eq_true h2)
      refine ⟨_, rfl, a, _, 0, .int n, rfl, rfl, SqT.of (ha), rfl, _, _, rfl, rfl, _, rfl, ite2 (fun h3 => ?_) (fun h3 => ?_)⟩
      · have e : halfZ ⟨n, d⟩ = 0 := (if_neg n1).trans ((if_pos e2).trans (if_pos (of_decide_eq_true h3)))
        rw [e] at k
        exact k
      · have e : halfZ ⟨n, d⟩ = 1 := (if_neg n1).trans ((if_pos e2).trans (if_neg fun z => h3 (decide_eq_true z)))
        rw [e] at k
        exact k
    · have e : halfZ ⟨n, d⟩ = 1 := (if_neg n1).trans (if_neg fun z => h2 (decide_eq_true (congrArg V.int z)))
      rw [e] at k
      exact k
theorem scLBefore : FnScope ["_law_one", "_law_two"] ["_law_one", "_law_two"] (defScope (top 58)) := ⟨rfl, rfl, rfl, by decide +kernel, rfl, by decide +kernel, by decide +kernel⟩
theorem bindsLBefore (F : FnP K "_law_before" (top 58) f fd) : Binds K fd ["_law_one", "_law_two"] [] := F.bindsN fun _ _ _ _ _ _ us hl => match us, hl with | [_, _], _ => rfl
theorem Pg.oLBefore (T : Pg K mg Ad Dd) (N : Nm mg) : FnOk P w K mg base CX0 2 (Ad 58) (Dd 58) ["_law_one", "_law_two"] (spBefore) := by
  refine (T.fn 58 "_law_before" rfl).1.ok scLBefore (fun vs H Q E h => ?_) (fun cdv A outer s H vs Q E hr h => ?_)
  · obtain ⟨u, v, p, q, rfl, _⟩ := h
    rfl
  · obtain ⟨u, v, ⟨a, b⟩, ⟨c, d⟩, rfl, ⟨a1, rfl, h1⟩, ⟨a2, rfl, h2⟩, ⟨la, lb⟩, k⟩ := h
    dsimp only at h1 h2 la lb
    refine ⟨_, PSs.nox (pss_cons (ps_if (pt_cmpR op_ne (pe_call (T.oLHalf N) hr rfl (T.fn 57 "_law_half" rfl).2 (T.fn 57 "_law_half" rfl).1.kp (bindsLHalf (T.fn 57 "_law_half" rfl).1) .nil pass0 (pa_cons (pv 0) pa_nil)) (pe_call (T.oLHalf N) hr rfl (T.fn 57 "_law_half" rfl).2 (T.fn 57 "_law_half" rfl).1.kp (bindsLHalf (T.fn 57 "_law_half" rfl).1) .nil pass0 (pa_cons (pv 1) pa_nil)) (nomark _)) (pss_one (ps_ret (pe_cmpR op_lt (pe_call (T.oLHalf N) hr rfl (T.fn 57 "_law_half" rfl).2 (T.fn 57 "_law_half" rfl).1.kp (bindsLHalf (T.fn 57 "_law_half" rfl).1) .nil pass0 (pa_cons (pv 0) pa_nil)) (pe_call (T.oLHalf N) hr rfl (T.fn 57 "_law_half" rfl).2 (T.fn 57 "_law_half" rfl).1.kp (bindsLHalf (T.fn 57 "_law_half" rfl).1) .nil pass0 (pa_cons (pv 1) pa_nil)) (nomark _)))) pss_nil)
      (pss_one (ps_ret (pe_cmpR op_gt (pe_op op_sub (pe_op op_mul (pe_ix ix_tup (pv 0) pe_int (fun _ _ => rfl)) (pe_ix ix_tup (pv 1) pe_int (fun _ _ => rfl))) (pe_op op_mul (pe_ix ix_tup (pv 0) pe_int (fun _ _ => rfl)) (pe_ix ix_tup (pv 1) pe_int (fun _ _ => rfl)))) pe_int (nomark _))))), ?_⟩
    refine ⟨_, rfl, _, ⟨a, b⟩, rfl, ⟨a1, rfl, h1⟩, _, rfl, _, ⟨c, d⟩, rfl, ⟨a2, rfl, h2⟩, rfl, _, rfl, ?_⟩
    by_cases e : halfZ ⟨a, b⟩ = halfZ ⟨c, d⟩
    · refine iteNS (congrArg V.int e) ?_
      refine ⟨_, rfl, a1, _, 0, .int a, rfl, rfl, SqT.of (h1), rfl, _, rfl, a2, _, 1, .int d, rfl, rfl, SqT.of (h2), rfl, _, _, rfl, rfl, la.sm.mul, _, rfl, a1, _, 1, .int b, rfl, rfl, SqT.of (h1), rfl, _, rfl, a2, _, 0, .int c, rfl, rfl, SqT.of (h2), rfl, _, _, rfl, rfl, lb.sm.mul, _, _, rfl, rfl, _, _, rfl, rfl, ?_⟩
      have e2 : earl ⟨a, b⟩ ⟨c, d⟩ = decide (0 < a * d - b * c) := if_pos e
      rw [e2] at k
      exact k
    · refine iteNN (fun z => e (V.int.inj z)) ?_
      have e2 : earl ⟨a, b⟩ ⟨c, d⟩ = decide (halfZ ⟨a, b⟩ < halfZ ⟨c, d⟩) := if_neg e
      rw [e2] at k
      exact ⟨_, rfl, _, ⟨a, b⟩, rfl, ⟨a1, rfl, h1⟩, _, rfl, _, ⟨c, d⟩, rfl, ⟨a2, rfl, h2⟩, _, _, rfl, rfl, k⟩
theorem scLShare : FnScope ["_law_source_here"] ["_law_source_here"] (defScope (top 60)) := ⟨rfl, rfl, rfl, by decide +kernel, rfl, by decide +kernel, by decide +kernel⟩
theorem bindsLShare (F : FnP K "_law_share" (top 60) f fd) : Binds K fd ["_law_source_here"] [] := F.bindsN fun _ _ _ _ _ _ us hl => match us, hl with | [_], _ => rfl
theorem Pg.oLShare (T : Pg K mg Ad Dd) (N : Nm mg) : FnOk P w K mg base CX0 3 (Ad 60) (Dd 60) ["_law_source_here"] (spShare) := by
  refine (T.fn 60 "_law_share" rfl).1.ok scLShare (fun vs H Q E h => ?_) (fun cdv A outer s H vs Q E hr h => ?_)
  · obtain ⟨p, rfl, _⟩ := h
    rfl
  · obtain ⟨p, rfl, hs, k⟩ := h
    have hr2 : Room 2 _ := hr.mono (by decide)
    have hr1 : Room 1 _ := hr.mono (by decide)
    refine ⟨_, PSs.nox (pss_one (ps_ret (pe_call (T.oLPart N) hr2 rfl (T.fn 48 "_law_part" rfl).2 (T.fn 48 "_law_part" rfl).1.kp (bindsLPart (T.fn 48 "_law_part" rfl).1) .nil pass0 (pa_cons (pe_op op_sub (pe_call (T.oLDraw N) hr1 rfl (T.fn 44 "_law_draw" rfl).2 (T.fn 44 "_law_draw" rfl).1.kp (bindsLDraw (T.fn 44 "_law_draw" rfl).1) .nil pass0 (pa_cons (pv 0) (pa_cons (pe_int) pa_nil))) (pe_int)) (pa_cons (pe_op op_add (pe_int) (pe_call (T.oLDraw N) hr1 rfl (T.fn 44 "_law_draw" rfl).2 (T.fn 44 "_law_draw" rfl).1.kp (bindsLDraw (T.fn 44 "_law_draw" rfl).1) .nil pass0 (pa_cons (pv 0) (pa_cons (pe_int) pa_nil)))) pa_nil))))), ?_⟩
    refine ⟨_, rfl, p, 13, rfl, hs, by decide, by decide, fun d1 H1 d10 d11 b1 s1 => ?_⟩
    refine ⟨d1, 6, rfl, rfl, _, rfl, p, 4, rfl, s1, by decide, by decide, fun d2 H2 d20 d21 b2 s2 => ?_⟩
    refine ⟨1, d2, rfl, rfl, d1 - 6, 1 + d2, rfl, ⟨by omega, by omega⟩, ⟨by omega, by omega⟩, by omega, fun r H3 s at2 => ?_⟩
    have e : partZ (d1 - 6) (1 + d2) = nm2 (d1 - 6) (1 + d2) := if_pos (by omega)
    rw [e] at at2
    exact k r _ H3 (b1.trans (b2.trans (Same.but s))) (Same.src s s2) at2 (nm2_bd (by omega) (by omega) (by omega) (by omega))
theorem scLSpot : FnScope ["_law_source_here", "_law_most", "_law_low"] ["_law_source_here"] (defScope (top 47)) := ⟨rfl, rfl, rfl, by decide +kernel, rfl, by decide +kernel, by decide +kernel⟩
theorem bindsLSpot (F : FnP K "_law_spot" (top 47) f fd) : Binds K fd ["_law_source_here"] [] := F.bindsN fun _ _ _ _ _ _ us hl => match us, hl with | [_], _ => rfl
theorem Pg.oLSpot (T : Pg K mg Ad Dd) (N : Nm mg) : FnOk P w K mg base CX0 3 (Ad 47) (Dd 47) ["_law_source_here"] (spSpot) := by
  refine (T.fn 47 "_law_spot" rfl).1.ok scLSpot (fun vs H Q E h => ?_) (fun cdv A outer s H vs Q E hr h => ?_)
  · obtain ⟨p, rfl, _⟩ := h
    rfl
  · obtain ⟨p, rfl, hs, k⟩ := h
    have hr2 : Room 2 _ := hr.mono (by decide)
    have hr1 : Room 1 _ := hr.mono (by decide)
    refine ⟨_, PSs.nox (pss_cons (ps_par (by rfl) scLSpot.nd (i := 1) (j := 2) rfl rfl (by decide) rfl rfl (pa_cons (pe_call (T.oLPick N) hr2 rfl (T.fn 45 "_law_pick" rfl).2 (T.fn 45 "_law_pick" rfl).1.kp (bindsLPick (T.fn 45 "_law_pick" rfl).1) .nil pass0 (pa_cons (pv 0) (pa_cons (pe_tup (pa_cons (pe_int) (pa_cons (pe_int) (pa_cons (pe_int) (pa_cons (pe_int) (pa_cons (pe_int) (pa_cons (pe_int) pa_nil))))))) pa_nil))) (pa_cons (pe_call (T.oLPick N) hr2 rfl (T.fn 45 "_law_pick" rfl).2 (T.fn 45 "_law_pick" rfl).1.kp (bindsLPick (T.fn 45 "_law_pick" rfl).1) .nil pass0 (pa_cons (pv 0) (pa_cons (pe_tup (pa_cons (pe_int) (pa_cons (pe_int) (pa_cons (pe_int) (pa_cons (pe_int) (pa_cons (pe_int) (pa_cons (pe_int) pa_nil))))))) pa_nil))) pa_nil)) (by rfl))
      (pss_one (ps_ret (pe_call (T.oLLeast N) hr1 rfl (T.fn 46 "_law_least" rfl).2 (T.fn 46 "_law_least" rfl).1.kp (bindsLLeast (T.fn 46 "_law_least" rfl).1) .nil pass0 (pa_cons (pe_tup (pa_cons (pe_op op_sub (pe_call (T.oLDraw N) hr1 rfl (T.fn 44 "_law_draw" rfl).2 (T.fn 44 "_law_draw" rfl).1.kp (bindsLDraw (T.fn 44 "_law_draw" rfl).1) .nil pass0 (pa_cons (pv 0) (pa_cons (pe_op op_add (pe_op op_mul (pe_int) (pv 1)) (pe_int)) pa_nil))) (pv 1)) (pa_cons (pe_op op_sub (pe_call (T.oLDraw N) hr1 rfl (T.fn 44 "_law_draw" rfl).2 (T.fn 44 "_law_draw" rfl).1.kp (bindsLDraw (T.fn 44 "_law_draw" rfl).1) .nil pass0 (pa_cons (pv 0) (pa_cons (pe_op op_add (pe_op op_mul (pe_int) (pv 1)) (pe_int)) pa_nil))) (pv 1)) (pa_cons (pv 2) pa_nil)))) pa_nil))))), ?_⟩
    have six : 6 ≤ sizeLine := by decide
    refine ⟨_, rfl, six, fun a ha => ?_⟩
    have ap := hs.ne ha
    refine ⟨p, a, _, rfl, ap, hs.upd ap, SqT.of upd_same, by decide, by decide, fun x H1 hx b1 s1 => ?_⟩
    obtain ⟨m, rfl, m0, m1⟩ : ∃ m, x = V.int m ∧ 1 ≤ m ∧ m ≤ 99 := by
      simp only [List.mem_cons, List.not_mem_nil, or_false] at hx
      rcases hx with rfl | rfl | rfl | rfl | rfl | rfl <;> exact ⟨_, rfl, by decide, by decide⟩
    refine ⟨_, rfl, six, fun a2 ha2 => ?_⟩
    have ap2 := s1.ne ha2
    refine ⟨p, a2, _, rfl, ap2, s1.upd ap2, SqT.of upd_same, by decide, by decide, fun x H2 hx b2 s2 => ?_⟩
    obtain ⟨l, rfl, l0, l1⟩ : ∃ m, x = V.int m ∧ 1 ≤ m ∧ m ≤ 5 := by
      simp only [List.mem_cons, List.not_mem_nil, or_false] at hx
      rcases hx with rfl | rfl | rfl | rfl | rfl | rfl <;> exact ⟨_, rfl, by decide, by decide⟩
    have B2 : But p H H2 := ((Same.but (sameNew ha)).trans b1).trans ((Same.but (sameNew ha2)).trans b2)
    refine ⟨_, _, rfl, ?_⟩
    refine ⟨_, rfl, _, rfl, 2, m, rfl, rfl, .inl ⟨by decide, by decide⟩, _, _, rfl, rfl, p, 2 * m + 1, rfl, s2, by omega, by omega, fun d1 H3 d10 d11 b3 s3 => ?_⟩
    refine ⟨_, rfl, d1, m, rfl, rfl, ?_⟩
    refine ⟨_, rfl, _, rfl, 2, m, rfl, rfl, .inl ⟨by decide, by decide⟩, _, _, rfl, rfl, p, 2 * m + 1, rfl, s3, by omega, by omega, fun d2 H4 d20 d21 b4 s4 => ?_⟩
    refine ⟨_, rfl, d2, m, rfl, rfl, _, rfl, (by show 3 ≤ sizeLine; decide), fun q hq => ?_⟩
    refine ⟨q, [d1 - m, d2 - m, l], rfl, upd_same, (by show 3 ≤ 3; decide), lim3 ⟨by omega, by omega⟩ ⟨by omega, by omega⟩ ⟨by omega, by omega⟩, fun r H5 s e => ?_⟩
    have s5 := (sameNew (o := .tup [V.int (d1 - m), V.int (d2 - m), V.int l]) hq).trans s
    exact k _ _ H5 ((B2.trans (b3.trans b4)).trans (Same.but s5)) (Same.src s5 s4) (at3_of e) (nm3_bd (by omega) (by omega) (by omega) (by omega) (by omega) (by omega))
theorem scLGust : FnScope ["_law_source_here", "_law_most", "_law_found"] ["_law_source_here"] (defScope (top 59)) := ⟨rfl, rfl, rfl, by decide +kernel, rfl, by decide +kernel, by decide +kernel⟩
theorem bindsLGust (F : FnP K "_law_gust" (top 59) f fd) : Binds K fd ["_law_source_here"] [] := F.bindsN fun _ _ _ _ _ _ us hl => match us, hl with | [_], _ => rfl
theorem Pg.oLGust (T : Pg K mg Ad Dd) (N : Nm mg) : FnOk P w K mg base CX0 3 (Ad 59) (Dd 59) ["_law_source_here"] (spGust) := by
  refine (T.fn 59 "_law_gust" rfl).1.ok scLGust (fun vs H Q E h => ?_) (fun cdv A outer s H vs Q E hr h => ?_)
  · obtain ⟨p, rfl, _⟩ := h
    rfl
  · obtain ⟨p, rfl, hs, k⟩ := h
    have hr2 : Room 2 _ := hr.mono (by decide)
    have hr1 : Room 1 _ := hr.mono (by decide)
    have hu := hr.units
    refine ⟨_, PSs.nox (pss_cons (ps_set (i := 1) scLGust.nd rfl (.inl rfl) (pe_call (T.oLPick N) hr2 rfl (T.fn 45 "_law_pick" rfl).2 (T.fn 45 "_law_pick" rfl).1.kp (bindsLPick (T.fn 45 "_law_pick" rfl).1) .nil pass0 (pa_cons (pv 0) (pa_cons (pe_tup (pa_cons (pe_int) (pa_cons (pe_int) (pa_cons (pe_int) (pa_cons (pe_int) (pa_cons (pe_int) (pa_cons (pe_int) pa_nil))))))) pa_nil)))) (pss_cons (ps_set (i := 2) scLGust.nd rfl (.inl rfl) (pe_tup (pa_cons (pe_op op_sub (pe_call (T.oLDraw N) hr1 rfl (T.fn 44 "_law_draw" rfl).2 (T.fn 44 "_law_draw" rfl).1.kp (bindsLDraw (T.fn 44 "_law_draw" rfl).1) .nil pass0 (pa_cons (pv 0) (pa_cons (pe_op op_add (pe_op op_mul (pe_int) (pv 1)) (pe_int)) pa_nil))) (pv 1)) (pa_cons (pe_op op_sub (pe_call (T.oLDraw N) hr1 rfl (T.fn 44 "_law_draw" rfl).2 (T.fn 44 "_law_draw" rfl).1.kp (bindsLDraw (T.fn 44 "_law_draw" rfl).1) .nil pass0 (pa_cons (pv 0) (pa_cons (pe_op op_add (pe_op op_mul (pe_int) (pv 1)) (pe_int)) pa_nil))) (pv 1)) pa_nil))))
      (pss_one (ps_ret (pe_ifExp (pt_cmpR (op_neD hu) (pv 2) (pe_tup (pa_cons (pe_int) (pa_cons (pe_int) pa_nil))) (nomark _)) (pe_call (T.oLLeast N) hr1 rfl (T.fn 46 "_law_least" rfl).2 (T.fn 46 "_law_least" rfl).1.kp (bindsLLeast (T.fn 46 "_law_least" rfl).1) .nil pass0 (pa_cons (pv 2) pa_nil)) (pe_tup (pa_cons (pe_int) (pa_cons (pe_int) pa_nil)))))))), ?_⟩
    have six : 6 ≤ sizeLine := by decide
    refine ⟨_, rfl, six, fun a ha => ?_⟩
    have ap := hs.ne ha
    refine ⟨p, a, _, rfl, ap, hs.upd ap, SqT.of upd_same, by decide, by decide, fun x H1 hx b1 s1 => ?_⟩
    obtain ⟨m, rfl, m0, m1⟩ : ∃ m, x = V.int m ∧ 1 ≤ m ∧ m ≤ 99 := by
      simp only [List.mem_cons, List.not_mem_nil, or_false] at hx
      rcases hx with rfl | rfl | rfl | rfl | rfl | rfl <;> exact ⟨_, rfl, by decide, by decide⟩
    have B1 : But p H H1 := (Same.but (sameNew ha)).trans b1
    refine ⟨_, rfl, _, rfl, 2, m, rfl, rfl, .inl ⟨by decide, by decide⟩, _, _, rfl, rfl, p, 2 * m + 1, rfl, s1, by omega, by omega, fun d1 H3 d10 d11 b3 s3 => ?_⟩
    refine ⟨_, rfl, d1, m, rfl, rfl, ?_⟩
    refine ⟨_, rfl, _, rfl, 2, m, rfl, rfl, .inl ⟨by decide, by decide⟩, _, _, rfl, rfl, p, 2 * m + 1, rfl, s3, by omega, by omega, fun d2 H4 d20 d21 b4 s4 => ?_⟩
    refine ⟨_, rfl, d2, m, rfl, rfl, (by show 2 ≤ sizeLine; decide), fun q hq => ?_⟩
    have B4 : But p H H4 := B1.trans (b3.trans b4)
    refine ⟨_, rfl, (by show 2 ≤ sizeLine; decide), fun r hr5 => ?_⟩
    have s6 := (sameNew (o := .tup [V.int (d1 - m), V.int (d2 - m)]) hq).trans (sameNew (o := .tup [V.int 0, V.int 0]) hr5)
    have hq6 := sameNew (o := .tup [V.int 0, V.int 0]) hr5 _ _ (upd_same (H := H4) (a := q) (o := .tup [V.int (d1 - m), V.int (d2 - m)]))
    refine ⟨.tuple [.int (d1 - m), .int (d2 - m)], .tuple [.int 0, .int 0], Dp.tup (SqT.of hq6) (.cons (.int _) (.cons (.int _) .nil)), Dp.tup (SqT.of upd_same) (.cons (.int _) (.cons (.int _) .nil)), rfl, rfl, _, rfl, ?_⟩
    have e1 : PyData.eqv (.tuple [.int (d1 - m), .int (d2 - m)]) (.tuple [.int 0, .int 0]) = ((d1 - m) == 0 && (d2 - m) == 0) := by simp [PyData.eqv, PyData.eqvAll]
    rw [e1]
    by_cases z : d1 - m = 0 ∧ d2 - m = 0
    · have e2 : ((d1 - m) == 0 && (d2 - m) == 0) = true := by
        rw [z.1, z.2]
        rfl
      rw [e2]
      refine iteF ⟨(by show 2 ≤ sizeLine; decide), fun t ht => ?_⟩
      have s7 := s6.trans (sameNew (o := .tup [V.int 0, V.int 1]) ht)
      exact k (.ref t) ⟨0, 1⟩ _ (B4.trans (Same.but s7)) (Same.src s7 s4) ⟨t, rfl, upd_same⟩ ⟨rfl, by decide, by decide, by decide, by decide⟩
    · have e2 : ((d1 - m) == 0 && (d2 - m) == 0) = false := by
        refine Bool.eq_false_iff.mpr fun y => z ?_
        obtain ⟨y1, y2⟩ := Bool.and_eq_true_iff.mp y
        exact ⟨eq_of_beq y1, eq_of_beq y2⟩
      rw [e2]
      have hg : 1 ≤ g2 (d1 - m) (d2 - m) := by
        by_cases y : d1 - m = 0
        · exact g2_pos fun y2 => z ⟨y, y2⟩
        · exact g2_pos' y
      refine iteT ⟨_, rfl, q, [d1 - m, d2 - m], rfl, hq6, (by show 2 ≤ 3; decide), lim2 ⟨by omega, by omega⟩ ⟨by omega, by omega⟩, fun r2 H5 s e => ?_⟩
      have s7 := s6.trans s
      obtain ⟨a3, b3', _, _, e3, e4, u⟩ := ex2 hg
      have c1 := div_bd (x := d1 - m) (m := 99) hg (by omega) (by omega)
      have c2 := div_bd (x := d2 - m) (m := 99) hg (by omega) (by omega)
      refine k _ _ H5 (B4.trans (Same.but s7)) (Same.src s7 s4) (at2_of e) ⟨?_, c1.1, c1.2, c2.1, c2.2⟩
      show g2 ((d1 - m) / g2 (d1 - m) (d2 - m)) ((d2 - m) / g2 (d1 - m) (d2 - m)) = 1
      rw [e3, e4]
      exact u
end
end K2
namespace K2
open PySem PySem.Spec PyProof.Rows L2
/-! ### bounds -/
theorem mul_bd {a b m n : Int} (h1 : -m ≤ a) (h2 : a ≤ m) (h3 : -n ≤ b) (h4 : b ≤ n) : -(m * n) ≤ a * b ∧ a * b ≤ m * n := by
  have ha : a.natAbs ≤ m.toNat := by omega
  have hb : b.natAbs ≤ n.toNat := by omega
  have e : (a * b).natAbs ≤ m.toNat * n.toNat := by
    rw [Int.natAbs_mul]
    exact Nat.mul_le_mul ha hb
  have em : (m.toNat : Int) = m := Int.toNat_of_nonneg (by omega)
  have en : (n.toNat : Int) = n := Int.toNat_of_nonneg (by omega)
  have e2 : ((m.toNat * n.toNat : Nat) : Int) = m * n := by rw [Int.natCast_mul, em, en]
  have e3 : ((a * b).natAbs : Int) ≤ m * n := by
    rw [← e2]
    exact Int.ofNat_le.mpr e
  omega
theorem mul_ps {a b n k : Int} (h1 : 0 < a) (h2 : a ≤ n) (h3 : 0 < b) (h4 : b ≤ k) : 0 < a * b ∧ a * b ≤ n * k := ⟨Int.mul_pos h1 h3, Int.mul_le_mul h2 h4 (by omega) (by omega)⟩
theorem Bd3.sm {m n : Int} {p : P3} (h : Bd3 m n p) (hm : m ≤ 1000000000) (hn : n ≤ 30000) : Sm3 p := by
  obtain ⟨⟨h0, _⟩, h1, h2, h3, h4, h5⟩ := h
  exact ⟨⟨by omega, by omega⟩, ⟨by omega, by omega⟩, h0, by omega⟩
theorem Bd3.li {m n : Int} {p : P3} (h : Bd3 m n p) (hm : m ≤ 1000000000) (hn : n ≤ 30000) : Li3 p := by
  obtain ⟨⟨h0, _⟩, h1, h2, h3, h4, h5⟩ := h
  exact ⟨⟨by omega, by omega⟩, ⟨by omega, by omega⟩, ⟨by omega, by omega⟩⟩
theorem Bd2.sm {m n : Int} {p : P2} (h : Bd2 m n p) (hm : m ≤ 1000000000) (hn : n ≤ 30000) : Sm2 p := by
  obtain ⟨⟨h0, _⟩, h1, h2, h3⟩ := h
  exact ⟨⟨by omega, by omega⟩, h0, by omega⟩
theorem Bd2.li {m n : Int} {p : P2} (h : Bd2 m n p) (hm : m ≤ 1000000000) (hn : n ≤ 30000) : Li2 p := by
  obtain ⟨⟨h0, _⟩, h1, h2, h3⟩ := h
  exact ⟨⟨by omega, by omega⟩, ⟨by omega, by omega⟩⟩
theorem Bd3.sum {m n m' n' M W : Int} {p q : P3} (h : Bd3 m n p) (h' : Bd3 m' n' q) (e1 : m * n' + m' * n ≤ M) (e2 : n * n' ≤ W) (l1 : M ≤ 1000000000) (l2 : W ≤ 1000000000) : Bd3 M W (pSum p q) ∧ LSum p q := by
  obtain ⟨⟨h0, _⟩, h1, h2, h3, h4, h5⟩ := h
  obtain ⟨⟨k0, _⟩, k1, k2, k3, k4, k5⟩ := h'
  have a := mul_bd (n := n') h1 h2 (show -n' ≤ q.w by omega) k5
  have b := mul_bd (n := n) k1 k2 (show -n ≤ p.w by omega) h5
  have c := mul_bd (n := n') h3 h4 (show -n' ≤ q.w by omega) k5
  have d := mul_bd (n := n) k3 k4 (show -n ≤ p.w by omega) h5
  have w := mul_ps h0 h5 k0 k5
  exact ⟨nm3_bd w.1 (by omega) (by omega) (by omega) (by omega) (by omega), ⟨by omega, by omega⟩, ⟨by omega, by omega⟩, ⟨by omega, by omega⟩⟩
theorem Bd3.gap {m n m' n' M W : Int} {p q : P3} (h : Bd3 m n p) (h' : Bd3 m' n' q) (e1 : m * n' + m' * n ≤ M) (e2 : n * n' ≤ W) : Bd3 M W (pGap p q) := by
  obtain ⟨⟨h0, _⟩, h1, h2, h3, h4, h5⟩ := h
  obtain ⟨⟨k0, _⟩, k1, k2, k3, k4, k5⟩ := h'
  have a := mul_bd (n := n') h1 h2 (show -n' ≤ q.w by omega) k5
  have b := mul_bd (n := n) k1 k2 (show -n ≤ p.w by omega) h5
  have c := mul_bd (n := n') h3 h4 (show -n' ≤ q.w by omega) k5
  have d := mul_bd (n := n) k3 k4 (show -n ≤ p.w by omega) h5
  have w := mul_ps h0 h5 k0 k5
  exact nm3_bd w.1 (by omega) (by omega) (by omega) (by omega) (by omega)
theorem Bd3.times {m n k l M W : Int} {p : P3} {f : P2} (h : Bd3 m n p) (f0 : -k ≤ f.n) (f1 : f.n ≤ k) (d0 : 0 < f.d) (d1 : f.d ≤ l) (e1 : m * k ≤ M) (e2 : n * l ≤ W) (l1 : M ≤ 1000000000) (l2 : W ≤ 1000000000) : Bd3 M W (pTimes p f) ∧ LTimes p f := by
  obtain ⟨⟨h0, _⟩, h1, h2, h3, h4, h5⟩ := h
  have a := mul_bd h1 h2 f0 f1
  have c := mul_bd h3 h4 f0 f1
  have w := mul_ps h0 h5 d0 d1
  exact ⟨nm3_bd w.1 (by omega) (by omega) (by omega) (by omega) (by omega), ⟨by omega, by omega⟩, ⟨by omega, by omega⟩, ⟨by omega, by omega⟩⟩
/-! ### values -/
theorem frac_add {a b c d : Int} (hb : b ≠ 0) (hd : d ≠ 0) : ((a * d + c * b : Int) : Rat) / ((b * d : Int) : Rat) = (a : Rat) / (b : Rat) + (c : Rat) / (d : Rat) := by
  have h1 := rat_ne hb
  have h2 := rat_ne hd
  rw [Rat.intCast_add, Rat.intCast_mul, Rat.intCast_mul, Rat.intCast_mul]
  grind
theorem frac_sub {a b c d : Int} (hb : b ≠ 0) (hd : d ≠ 0) : ((a * d - c * b : Int) : Rat) / ((b * d : Int) : Rat) = (a : Rat) / (b : Rat) - (c : Rat) / (d : Rat) := by
  have h1 := rat_ne hb
  have h2 := rat_ne hd
  rw [Rat.intCast_sub, Rat.intCast_mul, Rat.intCast_mul, Rat.intCast_mul]
  grind
theorem frac_mul {a b c d : Int} (hb : b ≠ 0) (hd : d ≠ 0) : ((a * c : Int) : Rat) / ((b * d : Int) : Rat) = (a : Rat) / (b : Rat) * ((c : Rat) / (d : Rat)) := by
  have h1 := rat_ne hb
  have h2 := rat_ne hd
  rw [Rat.intCast_mul, Rat.intCast_mul]
  grind
theorem mul_ne {a b : Int} (ha : 0 < a) (hb : 0 < b) : a * b ≠ 0 := by
  have := Int.mul_pos ha hb
  omega
section
variable {p q : P3} {f g : P2}
theorem sum_pt (hp : 0 < p.w) (hq : 0 < q.w) : Pt (pSum p q) := nm3_pt (Int.mul_pos hp hq)
theorem gap_pt (hp : 0 < p.w) (hq : 0 < q.w) : Pt (pGap p q) := nm3_pt (Int.mul_pos hp hq)
theorem times_pt (hp : 0 < p.w) (hf : 0 < f.d) : Pt (pTimes p f) := nm3_pt (Int.mul_pos hp hf)
theorem sum_x (hp : 0 < p.w) (hq : 0 < q.w) : vx (pSum p q) = vx p + vx q := (nm3_vx (mul_ne hp hq)).trans (frac_add (by omega) (by omega))
theorem sum_y (hp : 0 < p.w) (hq : 0 < q.w) : vy (pSum p q) = vy p + vy q := (nm3_vy (mul_ne hp hq)).trans (frac_add (by omega) (by omega))
theorem gap_x (hp : 0 < p.w) (hq : 0 < q.w) : vx (pGap p q) = vx p - vx q := (nm3_vx (mul_ne hp hq)).trans (frac_sub (by omega) (by omega))
theorem gap_y (hp : 0 < p.w) (hq : 0 < q.w) : vy (pGap p q) = vy p - vy q := (nm3_vy (mul_ne hp hq)).trans (frac_sub (by omega) (by omega))
theorem times_x (hp : 0 < p.w) (hf : 0 < f.d) : vx (pTimes p f) = vx p * vf f := (nm3_vx (mul_ne hp hf)).trans (frac_mul (by omega) (by omega))
theorem times_y (hp : 0 < p.w) (hf : 0 < f.d) : vy (pTimes p f) = vy p * vf f := (nm3_vy (mul_ne hp hf)).trans (frac_mul (by omega) (by omega))
theorem part_fr {t l : Int} (h : l ≠ 0) : Fr (partZ t l) := by
  unfold partZ
  by_cases z : 0 < l
  · rw [if_pos z]
    exact nm2_fr z
  · rw [if_neg z]
    exact nm2_fr (by omega)
theorem part_v {t l : Int} (h : l ≠ 0) : vf (partZ t l) = (t : Rat) / (l : Rat) := by
  unfold partZ
  by_cases z : 0 < l
  · rw [if_pos z]
    exact nm2_vf h
  · rw [if_neg z, nm2_vf (show -l ≠ 0 by omega), Rat.intCast_neg, Rat.intCast_neg]
    have h1 := rat_ne h
    grind
theorem part_bd {t l m n : Int} (h : l ≠ 0) (t0 : -m ≤ t) (t1 : t ≤ m) (l0 : -n ≤ l) (l1 : l ≤ n) : Bd2 m n (partZ t l) := by
  unfold partZ
  by_cases z : 0 < l
  · rw [if_pos z]
    exact nm2_bd z t0 t1 l1
  · rw [if_neg z]
    exact nm2_bd (by omega) (by omega) (by omega) (by omega)
theorem sum_comm (hp : 0 < p.w) (hq : 0 < q.w) : pSum p q = pSum q p := by
  refine pt_ext (sum_pt hp hq) (sum_pt hq hp) ?_ ?_
  · rw [sum_x hp hq, sum_x hq hp, Rat.add_comm]
  · rw [sum_y hp hq, sum_y hq hp, Rat.add_comm]
theorem gap_sum (hp : Pt p) (hq : 0 < q.w) : pGap (pSum p q) q = p := by
  have h1 := sum_pt hp.1 hq
  refine pt_ext (gap_pt h1.1 hq) hp ?_ ?_
  · rw [gap_x h1.1 hq, sum_x hp.1 hq]
    grind
  · rw [gap_y h1.1 hq, sum_y hp.1 hq]
    grind
theorem gap_back (hp : 0 < p.w) (hq : 0 < q.w) : pGap p q = pSum p (pBack q) := by
  have e1 : vx (pBack q) = - vx q := by
    show ((0 - q.x : Int) : Rat) / (q.w : Rat) = _
    rw [Rat.intCast_sub]
    unfold vx
    have := rat_ne (show q.w ≠ 0 by omega)
    grind
  have e2 : vy (pBack q) = - vy q := by
    show ((0 - q.y : Int) : Rat) / (q.w : Rat) = _
    rw [Rat.intCast_sub]
    unfold vy
    have := rat_ne (show q.w ≠ 0 by omega)
    grind
  have hb : 0 < (pBack q).w := hq
  refine pt_ext (gap_pt hp hq) (sum_pt hp hb) ?_ ?_
  · rw [gap_x hp hq, sum_x hp hb, e1]
    grind
  · rw [gap_y hp hq, sum_y hp hb, e2]
    grind
theorem zero_pt : Pt ⟨0, 0, 1⟩ := ⟨by decide, by decide⟩
theorem one_fr : Fr ⟨1, 1⟩ := ⟨by decide, by decide⟩
theorem nul_fr : Fr ⟨0, 1⟩ := ⟨by decide, by decide⟩
theorem one_vf : vf ⟨1, 1⟩ = 1 := by
  show ((1 : Int) : Rat) / ((1 : Int) : Rat) = 1
  grind
theorem nul_vf : vf ⟨0, 1⟩ = 0 := by
  show ((0 : Int) : Rat) / ((1 : Int) : Rat) = 0
  grind
theorem gap_self (hp : 0 < p.w) : pGap p p = ⟨0, 0, 1⟩ := by
  have e1 : vx ⟨0, 0, 1⟩ = 0 := by
    show ((0 : Int) : Rat) / ((1 : Int) : Rat) = 0
    grind
  have e2 : vy ⟨0, 0, 1⟩ = 0 := by
    show ((0 : Int) : Rat) / ((1 : Int) : Rat) = 0
    grind
  refine pt_ext (gap_pt hp hp) zero_pt ?_ ?_
  · rw [gap_x hp hp, e1]
    grind
  · rw [gap_y hp hp, e2]
    grind
theorem times_one (hp : Pt p) : pTimes p ⟨1, 1⟩ = p := by
  refine pt_ext (times_pt hp.1 (by decide)) hp ?_ ?_
  · rw [times_x hp.1 (by decide), one_vf]
    grind
  · rw [times_y hp.1 (by decide), one_vf]
    grind
theorem times_back (hp : Pt p) (hf : 0 < f.d) (hn : f.n ≠ 0) : pTimes (pTimes p f) (partZ f.d f.n) = p := by
  have h1 := times_pt hp.1 hf
  have h2 := part_fr (t := f.d) hn
  have e : vf f * vf (partZ f.d f.n) = 1 := by
    rw [part_v hn]
    unfold vf
    have a := rat_ne hn
    have b := rat_ne (show f.d ≠ 0 by omega)
    grind
  refine pt_ext (times_pt h1.1 h2.1) hp ?_ ?_
  · rw [times_x h1.1 h2.1, times_x hp.1 hf]
    grind
  · rw [times_y h1.1 h2.1, times_y hp.1 hf]
    grind
def pAt (f g : P2) : P3 := nm3 (f.n * g.d) (g.n * f.d) (f.d * g.d)
theorem at_x (hf : 0 < f.d) (hg : 0 < g.d) : vx (pAt f g) = vf f := by
  refine (nm3_vx (mul_ne hf hg)).trans ?_
  rw [Rat.intCast_mul, Rat.intCast_mul]
  unfold vf
  have a := rat_ne (show g.d ≠ 0 by omega)
  have b := rat_ne (show f.d ≠ 0 by omega)
  grind
theorem at_y (hf : 0 < f.d) (hg : 0 < g.d) : vy (pAt f g) = vf g := by
  refine (nm3_vy (mul_ne hf hg)).trans ?_
  rw [Rat.intCast_mul, Rat.intCast_mul]
  unfold vf
  have a := rat_ne (show g.d ≠ 0 by omega)
  have b := rat_ne (show f.d ≠ 0 by omega)
  grind
theorem swap_pt {x y w : Int} (h : Pt ⟨x, y, w⟩) : Pt ⟨y, x, w⟩ := by
  refine ⟨h.1, ?_⟩
  have z := h.2
  unfold g3 at z ⊢
  dsimp only at z ⊢
  rw [Nat.gcd_comm y.natAbs x.natAbs]
  exact z
theorem at_of (hp : Pt p) : pAt (partZ p.x p.w) (partZ p.y p.w) = p := by
  have hw : p.w ≠ 0 := by have := hp.1; omega
  have h1 := part_fr (t := p.x) hw
  have h2 := part_fr (t := p.y) hw
  refine pt_ext (nm3_pt (Int.mul_pos h1.1 h2.1)) hp ?_ ?_
  · rw [at_x h1.1 h2.1, part_v hw]
    rfl
  · rw [at_y h1.1 h2.1, part_v hw]
    rfl
/-- between -/
theorem btw_pt (hp : 0 < p.w) (hq : 0 < q.w) (hf : 0 < f.d) : Pt (pBtw p q f) := sum_pt hp (times_pt (gap_pt hq hp).1 hf).1
theorem btw_x (hp : 0 < p.w) (hq : 0 < q.w) (hf : 0 < f.d) : vx (pBtw p q f) = vx p + (vx q - vx p) * vf f := by
  unfold pBtw
  rw [sum_x hp (times_pt (gap_pt hq hp).1 hf).1, times_x (gap_pt hq hp).1 hf, gap_x hq hp]
theorem btw_y (hp : 0 < p.w) (hq : 0 < q.w) (hf : 0 < f.d) : vy (pBtw p q f) = vy p + (vy q - vy p) * vf f := by
  unfold pBtw
  rw [sum_y hp (times_pt (gap_pt hq hp).1 hf).1, times_y (gap_pt hq hp).1 hf, gap_y hq hp]
theorem com_vf (hf : 0 < f.d) : vf ⟨f.d - f.n, f.d⟩ = 1 - vf f := by
  unfold vf
  dsimp only
  rw [Rat.intCast_sub]
  have b := rat_ne (show f.d ≠ 0 by omega)
  grind
theorem mid_btw (hp : 0 < p.w) (hq : 0 < q.w) (hf : 0 < f.d) : pBtw p q f = pMid p q f := by
  have h1 := times_pt (p := p) (f := ⟨f.d - f.n, f.d⟩) hp hf
  have h2 := times_pt (p := q) hq hf
  refine pt_ext (btw_pt hp hq hf) (sum_pt h1.1 h2.1) ?_ ?_
  · unfold pMid
    rw [btw_x hp hq hf, sum_x h1.1 h2.1, times_x (f := ⟨f.d - f.n, f.d⟩) hp hf, times_x hq hf, com_vf hf]
    grind
  · unfold pMid
    rw [btw_y hp hq hf, sum_y h1.1 h2.1, times_y (f := ⟨f.d - f.n, f.d⟩) hp hf, times_y hq hf, com_vf hf]
    grind
theorem fsum_v (hf : 0 < f.d) (hg : 0 < g.d) : Fr (fSum f g) ∧ vf (fSum f g) = vf f + vf g := ⟨part_fr (mul_ne hf hg), (part_v (mul_ne hf hg)).trans (frac_add (by omega) (by omega))⟩
theorem fby_v (hf : 0 < f.d) (hg : 0 < g.d) : Fr (fBy f g) ∧ vf (fBy f g) = vf f * vf g := ⟨part_fr (mul_ne hf hg), (part_v (mul_ne hf hg)).trans (frac_mul (by omega) (by omega))⟩
theorem neg_vf (hf : 0 < f.d) : vf ⟨0 - f.n, f.d⟩ = - vf f := by
  unfold vf
  dsimp only
  rw [Rat.intCast_sub]
  have b := rat_ne (show f.d ≠ 0 by omega)
  grind
theorem btw_turn (hp : 0 < p.w) (hq : 0 < q.w) (hf : 0 < f.d) : pBtw q p (fSum ⟨1, 1⟩ ⟨0 - f.n, f.d⟩) = pBtw p q f := by
  obtain ⟨h1, h2⟩ := fsum_v (f := ⟨1, 1⟩) (g := ⟨0 - f.n, f.d⟩) (by decide) hf
  rw [one_vf, neg_vf hf] at h2
  refine pt_ext (btw_pt hq hp h1.1) (btw_pt hp hq hf) ?_ ?_
  · rw [btw_x hq hp h1.1, btw_x hp hq hf, h2]
    grind
  · rw [btw_y hq hp h1.1, btw_y hp hq hf, h2]
    grind
theorem btw_zero (hp : Pt p) (hq : 0 < q.w) : pBtw p q ⟨0, 1⟩ = p := by
  refine pt_ext (btw_pt hp.1 hq (by decide)) hp ?_ ?_
  · rw [btw_x hp.1 hq (by decide), nul_vf]
    grind
  · rw [btw_y hp.1 hq (by decide), nul_vf]
    grind
theorem btw_one (hp : 0 < p.w) (hq : Pt q) : pBtw p q ⟨1, 1⟩ = q := by
  refine pt_ext (btw_pt hp hq.1 (by decide)) hq ?_ ?_
  · rw [btw_x hp hq.1 (by decide), one_vf]
    grind
  · rw [btw_y hp hq.1 (by decide), one_vf]
    grind
theorem btw_btw (hp : 0 < p.w) (hq : 0 < q.w) (hf : 0 < f.d) (hg : 0 < g.d) : pBtw p (pBtw p q f) g = pBtw p q (fBy f g) := by
  obtain ⟨h1, h2⟩ := fby_v hf hg
  have h3 := btw_pt hp hq hf
  refine pt_ext (btw_pt hp h3.1 hg) (btw_pt hp hq h1.1) ?_ ?_
  · rw [btw_x hp h3.1 hg, btw_x hp hq hf, btw_x hp hq h1.1, h2]
    grind
  · rw [btw_y hp h3.1 hg, btw_y hp hq hf, btw_y hp hq h1.1, h2]
    grind
end
end K2
namespace K2
open PySem PySem.Spec PyProof.Rows L2
/-! ### defs that ask for repr: called where no repr is under way -/
structure FnG (P : Program) (w : World) (K : PySem.W.Frag) (mg : Str → Option Value) (base : Heap) (CX : CXT) (k : Nat) (f : Addr) (fd : FuncData) (ps : List Str) (sp : Sp) : Prop where
  len : ∀ vs H Q E, sp vs H Q E → vs.length = ps.length
  run : ∀ (A : Around) (outer : List Env) (s : Shared) (H : Hp) (args : Args) (us : List Value) (vs : List V) (Q : VK) (E : XK), A.guards = some [] → Room k A → Env0 P w K mg base A outer s H → BindsTo s fd args (ps.zip us) → Vals vs us →
    sp vs H Q E → codeAny (model P w) A (.call (.ref f) args) (CR CX outer P w H s Q E) s
section
variable {P : Program} {w : World} {K : PySem.W.Frag} {mg : Str → Option Value} {base : Heap}
theorem fnG_of {CX : CXT} {k : Nat} {f : Addr} {nm qu : Str} {pars : Arguments} {bd : List Stmt} {sc : Scope} {dvs : List V} {kws : List (Str × V)} {fd : FuncData} {N ps : List Str} {sp : Sp}
    (F : FunD K nm qu pars bd sc dvs kws f fd) (S : FnScope N ps sc) (len : ∀ vs H Q E, sp vs H Q E → vs.length = ps.length)
    (body : ∀ (cdv : Value) (A : Around) (outer : List Env) (s : Shared) (H : Hp) (vs : List V) (Q : VK) (E : XK), (cxOf CX P w K mg base N qu sc f cdv A outer s H E).A.guards = some [] →
      Room k (A.deeper (envOfC qu sc s.heap.objs.size f cdv)) → sp vs H Q E →
      ∃ t, PSs (cxOf CX P w K mg base N qu sc f cdv A outer s H E) bd t ∧ t { nx := fun _ H' => Q .non H', rt := Q } (start N vs) H) : FnG P w K mg base CX (k + 1) f fd ps sp := by
  obtain ⟨oc, od, dV, kV, doc, pm, an, cdv, ct, osl, rfl, lk, hcd, _, _⟩ := F.ex
  refine ⟨len, fun A outer s H args us vs Q E hgd hr e0 hb r hsp => ?_⟩
  have hl := len _ _ _ _ hsp
  have kin : K.In s.heap := e0.mod.kin.keeps fun b o e => (e0.bs b o e).1
  have nol : s.heap.NoLimit := e0.mod.nolimit.keeps fun b o e => (e0.bs b o e).1
  have kinds : ∀ y ∈ ps.zip us, sc.names.lookup y.1 = some .local ∨ (sc.names.lookup y.1 = some .cell ∧ ((cellsFrom (s.heap.objs.size + 1) sc.names []).lookup y.1).isSome = true) := by
    rintro ⟨n, v⟩ hy
    rcases S.par n (List.of_mem_zip hy).1 with q | q
    · exact .inl q
    · exact .inr ⟨q, PySem.W.cellsFrom_some _ _ _ (.inl q)⟩
  refine codeAny_call_function hr.depth (kin _ _ lk) rfl S.co S.gen rfl (PySem.W.codeRec_of kin hcd) (hb _ _ _ _ ?_)
  refine wpAny_newFunctionEnv_cells S.kind kinds fun env he sB x => ?_
  subst he
  refine ⟨nol.keeps x.toInCall.keep, codeAny_func ?_⟩
  obtain ⟨t, ht, hq⟩ := body cdv A outer s H vs Q E hgd (hr.deeper _) hsp
  have I : Inv (cxOf CX P w K mg base N qu sc f cdv A outer s H E) [] (start N vs) H sB := inv_start S hr.hd e0 hl r x
  refine wpAny_mono (ht.run [] sB (start N vs) H _ I hq) (fun fl s' hs => ?_) fun e s' hs => hs
  have fin : ∀ {σ' : L2.St} {H' : Hp} {v : V} {u : Value}, Inv (cxOf CX P w K mg base N qu sc f cdv A outer s H E) [] σ' H' s' → RelV v u → Q v H' → CE outer P w H s Q u s' :=
    fun {_ H' v _} J rv q => ⟨v, H', J.os, J.bare, J.base, J.hok, rv, q⟩
  cases fl with
  | ret u =>
    obtain ⟨v, σ', H', J, rv, q⟩ := hs
    exact fin J rv q
  | next =>
    obtain ⟨σ', H', J, q⟩ := hs
    exact fin (v := V.non) (u := Value.none) J rfl q
  | brk =>
    obtain ⟨_, _, _, q⟩ := hs
    exact q.elim
  | cont =>
    obtain ⟨_, _, _, q⟩ := hs
    exact q.elim
end
section
variable {X : Cx} {k : Nat} {f : Addr} {fd : FuncData} {ps : List Str} {sp : Sp} {x : Str} {p pos : Pos} {e : Expr} {es : List Expr} {t : TA}
theorem runG {pins : List (Addr × Obj)} {σ : L2.St} {H : Hp} {s : Shared} {Q : VK} {us : List Value} {vs : List V} (F : FnG X.prog X.w X.K X.mg X.base CX0 k f fd ps sp) (hgd : X.A.guards = some []) (hr : Room k X.A) (hb : Binds X.K fd ps [])
    (I : Inv X pins σ H s) (r : Vals vs us) (h : sp vs H Q E0) : wpAny (model X.prog X.w) X.A (call (.ref f) us) (EP X pins σ Q) X.xe s := by
  have hl : us.length = ps.length := by rw [← r.length]; exact F.len _ _ _ _ h
  have b := hb s us I.kIn (by rw [List.append_nil]; exact hl)
  rw [List.append_nil] at b
  refine wpAny_call (codeAny_mono (F.run X.A X.stack s H ⟨us, []⟩ us vs Q E0 hgd hr I.env0 b r h) fun r s' hq => ?_)
  cases r with
  | error e => exact hq.elim
  | ok fl =>
    cases fl with
    | ret u => exact I.after hq
    | next => exact hq.elim
    | brk => exact hq.elim
    | cont => exact hq.elim
theorem pe_callG (F : FnG X.prog X.w X.K X.mg X.base CX0 k f fd ps sp) (hgd : X.A.guards = some []) (hr : Room k X.A) (hg : Gl X x) (hm : X.mg x = some (.ref f)) (hk : PySem.W.keepIn X.K (.ref f) = true) (hb : Binds X.K fd ps [])
    (ha : PA X (e :: es) t) (hdb : (x == ("__debug__" : Str)) = false := by decide) (he : starEach (e :: es) X.env = (false, eval e X.env) :: starEach es X.env := by rfl) (hpl : (backTo pos (starEach es X.env)).any (·.1) = false := by rfl) :
    PE X (.Call (.Name x p) (e :: es) [] pos) (tCall sp [] E0 t) := by
  refine ⟨fun pins s σ H Q I h => ?_⟩
  refine wpAny_Call_Name_kw (ld_glob I hg hm ?_ hdb)
  refine PySem.W.callWith_K (h₀ := X.base) I.ok.mod.kin hk (thn (ha.run pos pins s σ H _ I h) fun us sA ⟨vs, H1, I1, r, q⟩ => ⟨I1.kIn, ?_⟩) he hpl
  have q2 : sp (vs ++ []) H1 Q E0 := q
  rw [List.append_nil] at q2
  exact runG F hgd hr hb I1 r q2
end
/-! ### repr of data -/
/-- v shows as d in H: data of any depth, or an empty dict -/
def Shows (K : PySem.W.Frag) (H : Hp) (v : V) (d : PyData) : Prop := Dp K H v d ∨ ∃ a, v = .ref a ∧ d = .dict [] ∧ H a = some (.dK [])
def rRepr (K : PySem.W.Frag) : List V → Hp → VK → Prop := fun xs H Q => ∃ (v : V) (d : PyData), xs = [v] ∧ Shows K H v d ∧ d.showable = true ∧ d.depth ≤ 60 ∧ d.shown.length ≤ sizeLine ∧ Q (.str d.shown) H
theorem dp_noDict {K : PySem.W.Frag} {H : Hp} : (∀ (d : PyData) (v : V), Dp K H v d → d.hasDict = false) ∧ ∀ (ds : List PyData) (vs : List V), DpAll K H vs ds → PyData.hasDictAll ds = false := by
  have key : ∀ (n : Nat), (∀ (d : PyData) (v : V), sizeOf d ≤ n → Dp K H v d → d.hasDict = false) ∧ ∀ (ds : List PyData) (vs : List V), sizeOf ds ≤ n → DpAll K H vs ds → PyData.hasDictAll ds = false := by
    intro n
    induction n with
    | zero =>
      refine ⟨fun d v hz _ => ?_, fun ds vs hz _ => ?_⟩
      · cases d <;> simp at hz <;> omega
      · cases ds <;> simp at hz <;> omega
    | succ n ih =>
      refine ⟨fun d v hz h => ?_, fun ds vs hz h => ?_⟩
      · cases h with
        | non => rfl
        | bl b => rfl
        | int i => rfl
        | str x => rfl
        | lst hs ha =>
          rename_i ds
          unfold PyData.hasDict
          exact ih.2 _ _ (by simp at hz; omega) ha
        | tup hs ha =>
          rename_i ds
          unfold PyData.hasDict
          exact ih.2 _ _ (by simp at hz; omega) ha
      · cases h with
        | nil => rfl
        | cons h1 h2 =>
          unfold PyData.hasDictAll
          rw [ih.1 _ _ (by simp at hz; omega) h1, ih.2 _ _ (by simp at hz; omega) h2]
          rfl
  exact ⟨fun d v h => (key _).1 d v (Nat.le_refl _) h, fun ds vs h => (key _).2 ds vs (Nat.le_refl _) h⟩
theorem call_reprD {X : Cx} (hgd : X.A.guards = some []) (hu : X.A.units + 64 < cLine) : CallR X (.builtin "repr") (rRepr X.K) := by
  intro pins s σ H xs us Q I r h
  obtain ⟨v, d, rfl, hd, hs, hdp, hz, q⟩ := h
  obtain ⟨u, rfl, ru⟩ := vals1 r
  rcases hd with hd | ⟨a, rfl, rfl, ha⟩
  · obtain ⟨as, rd⟩ := Dp.reads I d v u hd ru
    have hnd := dp_noDict.1 d v hd
    cases rd with
    | none => exact PySem.P.repr_of_none ⟨.str _, H, I.tok _, ⟨_, rfl⟩, q⟩
    | bool b => exact PySem.P.repr_of_bool ⟨.str _, H, I.tok _, ⟨_, rfl⟩, by cases b <;> exact q⟩
    | int i t => exact PySem.P.repr_of_int (by simpa [PyData.showable] using hs) ⟨.str _, H, I.tok _, ⟨_, rfl⟩, q⟩
    | str x t => exact PySem.P.repr_of_str ⟨.str _, H, I.tok _, ⟨_, rfl⟩, q⟩ hz
    | list h1 h2 h3 h4 => exact repr_of_reads' (Reads.list h1 h2 h3 h4) hs (fun z => by rw [hnd] at z; cases z) hgd (by omega) (fun _ _ e => e) (fun h' t' tk kp => ⟨.str _, H, I.kept kp, ⟨_, rfl⟩, q⟩) hz
    | tuple h1 h2 h3 h4 => exact repr_of_reads' (Reads.tuple h1 h2 h3 h4) hs (fun z => by rw [hnd] at z; cases z) hgd (by omega) (fun _ _ e => e) (fun h' t' tk kp => ⟨.str _, H, I.kept kp, ⟨_, rfl⟩, q⟩) hz
    | dict h1 h2 h3 h4 h5 => exact absurd hnd (by simp [PyData.hasDict])
  · obtain rfl : u = Value.ref a := ru
    obtain ⟨_, hsm, vs, kv, hdo⟩ := I.hok a _ ha
    cases kv
    obtain ⟨o, es, ep, ho, hex, hdat, hes, hpr, _⟩ := hdo
    have he : es.toList = [] := by
      generalize es.toList = l at hpr
      cases hpr
      rfl
    have rd : Reads s.heap (.ref a) (.dict []) (a :: [] ++ []) := by
      refine Reads.dict ho hex.1 hdat ?_ ?_
      · rw [he]; exact ReadsAll.nil
      · rw [he]; exact ReadsAll.nil
    exact repr_of_reads' rd hs (fun _ z => by
      have z2 : sysModules = a := by simpa using z
      rw [z2] at hsm
      simp at hsm) hgd (by omega) (fun _ _ e => e) (fun h' t' tk kp => ⟨.str _, H, I.kept kp, ⟨_, rfl⟩, q⟩) hz
/-! ### the law's own head, its def asking for repr -/
theorem callLawG {P : Program} {w : World} {K : PySem.W.Frag} {mg mb : Str → Option Value} {k : Nat} {fa a : Addr} {fd : FuncData} {x : Str} {sp : Sp} {sB : Shared} {vs : List Value} {ns : List Int}
    (kin : K.In sB.heap) (hns : sB.heap.Ns mainGlobals mg) (hbn : sB.heap.Ns builtinsNs mb) (hbb : ∀ x : Str, x ≠ "__name__" → mb x = bootBuiltins x) (nol : sB.heap.NoLimit) (hgen : sB.gens = #[])
    (hobj : sB.heap.get? a = some { cls := .type "list", data := .seq vs.toArray }) (hints : IntsAre vs ns) (hlen : ns.length ≤ sizeLine) (hr : Room k callerA)
    (F : ∀ base : Heap, K.In base → base.Ns mainGlobals mg → FnG P w K mg base CX0 k fa fd [x] sp) (hbind : ∀ (s : Shared) (u : Value), BindsTo s fd ⟨[u], []⟩ [(x, u)])
    (hsp : ∀ H : Hp, Only H → SqL K H a (ns.map V.int) → sp [.ref a] H (fun v _ => v = .bl true) E0) :
    codeAny (model P w) callerA (.call (.ref fa) ⟨[.ref a], []⟩) (fun r s' => r = .ok (.ret (.bool true)) ∧ OldK sB.heap s'.heap ∧ s'.os = sB.os ∧ AllBare s'.gens) sB := by
  have rv := vals_ints hints
  have lenV := hints.length
  have main : ∀ H : Hp, Only H → SqL K H a (ns.map V.int) → HOk P w H sB.heap → (∀ b, H b ≠ none → b = a) → (H a ≠ none → K.lookup a = none) →
      codeAny (model P w) callerA (.call (.ref fa) ⟨[.ref a], []⟩) (fun r s' => r = .ok (.ret (.bool true)) ∧ OldK sB.heap s'.heap ∧ s'.os = sB.os ∧ AllBare s'.gens) sB := by
    intro H only seq hok onlyA noK
    have hid : ∀ {b : Addr} {o : Obj}, sB.heap.get? b = some o → H b = none → (hidT sB.heap H).get? b = some o := fun e n => hidT_get e n
    have noD : ∀ {b : Addr} {o : Obj} {es : Array DictEntry} {ep : Nat}, sB.heap.get? b = some o → o.data = .dict es ep → H b = none := by
      intro b o es ep e d
      cases q : H b with
      | none => rfl
      | some u =>
        have e' : b = a := onlyA b (by rw [q]; simp)
        subst e'
        rw [hobj] at e
        cases e
        have d' : Data.seq vs.toArray _ = Data.dict es ep := d
        cases d'
    have nsOf : ∀ {b : Addr} {m : Str → Option Value}, sB.heap.Ns b m → (hidT sB.heap H).Ns b m := fun {_ _} ⟨o, es, ep, e, d, r⟩ => ⟨o, es, ep, hid e (noD e d), d, r⟩
    have kinB : K.In (hidT sB.heap H) := by
      intro b o e
      refine hid (kin b o e) ?_
      cases q : H b with
      | none => rfl
      | some u =>
        have e' : b = a := onlyA b (by rw [q]; simp)
        subst e'
        rw [noK (by rw [q]; simp)] at e
        cases e
    obtain ⟨mc, l1, l2⟩ := nol
    have hM : Mod K mg (hidT sB.heap H) := ⟨kinB, nsOf hns, ⟨mb, nsOf hbn, hbb⟩, ⟨mc, nsOf l1, l2⟩⟩
    have en : Env0 P w K mg (hidT sB.heap H) callerA [] sB H := ⟨rfl, hM, fun b o e => of_hidT e, Nat.le_of_eq (hidT_size _ _), trivial, fun b hb => absurd (show b ∈ ([] : List Addr) from hb) (by simp), hok, .of_eq hgen⟩
    refine codeAny_mono ((F _ kinB (nsOf hns)).run callerA [] sB H ⟨[.ref a], []⟩ [.ref a] [.ref a] _ _ rfl hr en (hbind sB (.ref a)) (.cons rfl .nil) (hsp H only seq)) fun r s' h => ?_
    cases r with
    | error e => exact h.elim
    | ok fl =>
      cases fl with
      | next => exact h.elim
      | brk => exact h.elim
      | cont => exact h.elim
      | ret u =>
        obtain ⟨v, H', os, bare, un, hok', r', q⟩ := h
        have q' : v = .bl true := q
        subst q'
        obtain rfl : u = Value.bool true := r'
        refine ⟨rfl, OldK.of_keep fun b o e => ?_, os, bare⟩
        cases q : H b with
        | none => exact un.keep b o e q (fun z => absurd (show b ∈ ([] : List Addr) from z) (by simp)) (by simp)
        | some u =>
          rcases only b with z | ⟨ob, xs, z⟩
          · rw [q] at z
            cases z
          · have z2 := un.frzs b ob _ z
            obtain ⟨e1, _⟩ := hok b _ z
            obtain ⟨e2, _⟩ := hok' b _ z2
            rw [e] at e1
            cases e1
            exact e2
  cases hk : K.lookup a with
  | some o =>
    have e := kin a o hk
    rw [hobj] at e
    cases e
    exact main (fun _ => none) (fun _ => .inl rfl) (.inr ⟨_, vs.toArray, _, hk, rfl, rfl, rfl, by rw [List.size_toArray, lenV]; exact hlen, by simpa using rv⟩) (fun b u z => by
      have z' : (none : Option HO) = some u := z
      cases z') (fun b z => absurd rfl z) fun z => absurd rfl z
  | none =>
    refine main (fun b => if b = a then some (.frz { cls := .type "list", data := .seq vs.toArray } (.lst (ns.map V.int))) else none) (fun b => ?_) (.inl (.inr ⟨{ cls := .type "list", data := .seq vs.toArray }, if_pos rfl⟩)) (fun b u z => ?_) (fun b z => ?_) fun _ => hk
    · by_cases hb : b = a
      · exact .inr ⟨_, _, if_pos hb⟩
      · exact .inl (if_neg hb)
    · by_cases hb : b = a
      · have z' := (if_pos hb).symm.trans z
        cases z'
        subst hb
        exact ⟨hobj, by rw [List.length_map]; exact hlen, vs, _, rv, hobj⟩
      · have z' := (if_neg hb).symm.trans z
        cases z'
    · by_cases hb : b = a
      · exact hb
      · exact absurd (if_neg hb) z
theorem walkG {l : PySem.W.OpenLaw} {n k : Nat} {q : Program} {loose : List Str} {XP : (Str → Option Value) → Heap → Prop} {YP : World → Heap → Prop} {d : DefRec} {x : Str}
    (hn : l.most = some n) (hn2 : n ≤ sizeLine) (hdf : d.params.defaults = []) (hr : Room k callerA)
    (F : ∀ (w : World) (mg : Str → Option Value) (fa : Addr) (h : Heap), YP w h → h.Ns mainGlobals mg → mg d.name = some (.ref fa) →
      ∃ (K : PySem.W.Frag) (fd : FuncData) (sp : Sp), K.In h ∧ (∀ (s : Shared) (u : Value), BindsTo s fd ⟨[u], []⟩ [(x, u)]) ∧
        (∀ (H : Hp) (a : Addr) (ns : List Int), ns.length ≤ n → (∀ z ∈ ns, Builtin.Int.intBits z ≤ 1048576) → Only H → SqL K H a (ns.map V.int) → sp [.ref a] H (fun v _ => v = .bl true) E0) ∧
        ∀ base : Heap, K.In base → base.Ns mainGlobals mg → FnG l.prog w K mg base CX0 k fa fd [x] sp) :
    PySem.W.WalkO q loose XP YP l.row.toRowW d [] (fun f vs => PySem.call f vs) := by
  refine Att.attach_callB hn hdf fun w sA sB mg mb fa o pm cd doc a vs ns G Y ho hd hcd hmg hobj hints hlen hbits hgen => ?_
  obtain ⟨K, fd, sp, kin, hb, hsp, hF⟩ := F w mg fa _ Y G.T.g hmg
  exact callLawG kin G.T.g G.T.b G.T.builtins G.T.nolimit hgen hobj hints (Nat.le_trans hlen hn2) hr hF hb fun H hO hS => hsp H a ns hlen hbits hO hS
end K2
namespace K2
open PySem PySem.Spec PyProof.Rows L2
/-! ### what is shown -/
def d3 (p : P3) : PyData := .tuple [.int p.x, .int p.y, .int p.w]
def d2 (f : P2) : PyData := .tuple [.int f.n, .int f.d]
def Sml (d : PyData) : Prop := d.showable = true ∧ d.depth ≤ 5 ∧ d.shown.length ≤ 8000
theorem int_ok {x : Int} (h : Lim x) : (PyData.int x).showable = true := by
  have : x.natAbs.log2 < 1920 := by
    by_cases h0 : x.natAbs = 0
    · rw [h0]
      decide
    · refine (Nat.log2_lt h0).mpr ?_
      obtain ⟨h1, h2⟩ := h
      have : x.natAbs ≤ 1000000000 := by omega
      exact Nat.lt_of_le_of_lt this (Nat.lt_of_lt_of_le (by decide : 1000000000 < 2 ^ 30) (Nat.pow_le_pow_right (by decide) (by decide)))
  simp [PyData.showable, this]
theorem int_len {x : Int} (h : Lim x) : (PyData.int x).shown.length ≤ 1921 := by
  have z := int_ok h
  simp only [PyData.showable, decide_eq_true_eq] at z
  show (Str.ofString (toString x)).length ≤ 1921
  exact int_text_len_1921 z
theorem int_sml {x : Int} (h : Lim x) : Sml (.int x) := ⟨int_ok h, by simp [PyData.depth], Nat.le_trans (int_len h) (by decide)⟩
theorem bl_sml (b : Bool) : Sml (.bool b) := by
  cases b
  · exact ⟨rfl, by decide, by decide +kernel⟩
  · exact ⟨rfl, by decide, by decide +kernel⟩
theorem non_sml : Sml .none := ⟨rfl, by decide, by decide +kernel⟩
theorem d3_sml {p : P3} (h : Li3 p) : Sml (d3 p) := by
  obtain ⟨hx, hy, hz⟩ := h
  have a := int_len hx
  have b := int_len hy
  have c := int_len hz
  refine ⟨?_, by simp [d3, PyData.depth, PyData.depthAll], ?_⟩
  · show PyData.showableAll [.int p.x, .int p.y, .int p.w] = true
    simp only [PyData.showableAll, int_ok hx, int_ok hy, int_ok hz, Bool.and_self]
  · have e : (d3 p).shown = tupleText [(PyData.int p.x).shown, (PyData.int p.y).shown, (PyData.int p.w).shown] := by simp only [d3, PyData.shown, PyData.shownAll]
    rw [e]
    refine Nat.le_trans (tupleText_len_le _) ?_
    simp only [List.map_cons, List.map_nil, List.sum_cons, List.sum_nil, List.length_cons, List.length_nil]
    omega
theorem d2_sml {p : P2} (h : Li2 p) : Sml (d2 p) := by
  obtain ⟨hx, hy⟩ := h
  have a := int_len hx
  have b := int_len hy
  refine ⟨?_, by simp [d2, PyData.depth, PyData.depthAll], ?_⟩
  · show PyData.showableAll [.int p.n, .int p.d] = true
    simp only [PyData.showableAll, int_ok hx, int_ok hy, Bool.and_self]
  · have e : (d2 p).shown = tupleText [(PyData.int p.n).shown, (PyData.int p.d).shown] := by simp only [d2, PyData.shown, PyData.shownAll]
    rw [e]
    refine Nat.le_trans (tupleText_len_le _) ?_
    simp only [List.map_cons, List.map_nil, List.sum_cons, List.sum_nil, List.length_cons, List.length_nil]
    omega
theorem shownAll_map : ∀ ds : List PyData, PyData.shownAll ds = ds.map PyData.shown
  | [] => by simp [PyData.shownAll]
  | d :: ds => by simp [PyData.shownAll, shownAll_map ds]
theorem showAll_of : ∀ {ds : List PyData}, (∀ d ∈ ds, Sml d) → PyData.showableAll ds = true
  | [], _ => by simp [PyData.showableAll]
  | d :: ds, h => by
    simp only [PyData.showableAll, (h d List.mem_cons_self).1, showAll_of fun x hx => h x (List.mem_cons_of_mem _ hx), Bool.and_self]
theorem depthAll_of : ∀ {ds : List PyData}, (∀ d ∈ ds, Sml d) → PyData.depthAll ds ≤ 5
  | [], _ => by simp [PyData.depthAll]
  | d :: ds, h => by
    have a := (h d List.mem_cons_self).2.1
    have b := depthAll_of fun x hx => h x (List.mem_cons_of_mem _ hx)
    simp only [PyData.depthAll]
    omega
theorem sum_of : ∀ {ds : List PyData}, (∀ d ∈ ds, Sml d) → ((ds.map PyData.shown).map fun x => x.length).sum ≤ 8000 * ds.length
  | [], _ => by simp
  | d :: ds, h => by
    have a := (h d List.mem_cons_self).2.2
    have b := sum_of fun x hx => h x (List.mem_cons_of_mem _ hx)
    simp only [List.map_cons, List.sum_cons, List.length_cons]
    omega
theorem lst_ok {ds : List PyData} (h : ∀ d ∈ ds, Sml d) (hl : ds.length ≤ 100) : (PyData.list ds).showable = true ∧ (PyData.list ds).depth ≤ 60 ∧ (PyData.list ds).shown.length ≤ sizeLine := by
  refine ⟨showAll_of h, ?_, ?_⟩
  · have := depthAll_of h
    simp only [PyData.depth]
    omega
  · have e : (PyData.list ds).shown = listText (ds.map PyData.shown) := by
      simp only [PyData.shown]
      rw [shownAll_map]
    rw [e]
    refine Nat.le_trans (listText_len_le _) (Nat.le_trans ?_ (by decide : 1000000 ≤ sizeLine))
    have z := sum_of h
    simp only [List.length_map]
    omega
end K2
namespace K2
open PySem PySem.Spec PyProof.Rows L2
section
variable {K : PySem.W.Frag} {H : Hp} {v : V} {Q : VK}
theorem At3.dp {p : P3} (h : At3 H v p) : Dp K H v (d3 p) := by
  obtain ⟨a, rfl, h⟩ := h
  exact Dp.tup (SqT.of h) (.cons (.int _) (.cons (.int _) (.cons (.int _) .nil)))
theorem At2.dp {p : P2} (h : At2 H v p) : Dp K H v (d2 p) := by
  obtain ⟨a, rfl, h⟩ := h
  exact Dp.tup (SqT.of h) (.cons (.int _) (.cons (.int _) .nil))
theorem rrL {r : Addr} {vs : List V} {ds : List PyData} (h : H r = some (.lst vs)) (a : DpAll K H vs ds) (s : ∀ d ∈ ds, Sml d) (l : ds.length ≤ 100) : Shows K H (.ref r) (.list ds) ∧ (PyData.list ds).showable = true ∧ (PyData.list ds).depth ≤ 60 ∧ (PyData.list ds).shown.length ≤ sizeLine := by
  obtain ⟨o1, o2, o3⟩ := lst_ok s l
  exact ⟨.inl (Dp.lst (SqL.of h) a), o1, o2, o3⟩
theorem rrD {d : PyData} (a : Dp K H v d) (s : Sml d) : Shows K H v d ∧ d.showable = true ∧ d.depth ≤ 60 ∧ d.shown.length ≤ sizeLine :=
  ⟨.inl a, s.1, Nat.le_trans s.2.1 (by decide), Nat.le_trans s.2.2 (by decide)⟩
theorem mem1 {a : PyData} (ha : Sml a) : ∀ d ∈ [a], Sml d := fun d h => by
  simp only [List.mem_cons, List.not_mem_nil, or_false] at h
  subst h
  exact ha
theorem mem2 {a b : PyData} (ha : Sml a) (hb : Sml b) : ∀ d ∈ [a, b], Sml d := fun d h => by
  simp only [List.mem_cons, List.not_mem_nil, or_false] at h
  rcases h with rfl | rfl <;> assumption
theorem mem3 {a b c : PyData} (ha : Sml a) (hb : Sml b) (hc : Sml c) : ∀ d ∈ [a, b, c], Sml d := fun d h => by
  simp only [List.mem_cons, List.not_mem_nil, or_false] at h
  rcases h with rfl | rfl | rfl <;> assumption
end
theorem zero_li : Li3 ⟨0, 0, 1⟩ := by
  refine ⟨⟨?_, ?_⟩, ⟨?_, ?_⟩, ⟨?_, ?_⟩⟩ <;> decide
theorem back_pt {q : P3} (h : Pt q) : Pt (pBack q) := by
  refine ⟨h.1, ?_⟩
  have z := h.2
  unfold g3 at z ⊢
  show (((0 - q.x).natAbs.gcd (0 - q.y).natAbs).gcd q.w.natAbs : Int) = 1
  rw [Int.zero_sub, Int.zero_sub, Int.natAbs_neg, Int.natAbs_neg]
  exact z
def spSums : Sp := fun vs H Q _ => ∃ (u v t : V) (p q : P3) (f : P2), vs = [u, v, t] ∧ At3 H u p ∧ At3 H v q ∧ At2 H t f ∧ Bd3 99 5 p ∧ Bd3 99 5 q ∧ Bd2 6 4 f ∧ ∀ H', Same H H' → Q (.bl true) H'
section
variable {P : Program} {w : World} {K : PySem.W.Frag} {mg : Str → Option Value} {base : Heap} {f : Addr} {fd : FuncData} {Ad : Nat → Addr} {Dd : Nat → FuncData}
theorem scLSumsRight : FnScope ["_law_one", "_law_two", "_law_share_here", "_law_told", "_law_first", "_law_second"] ["_law_one", "_law_two", "_law_share_here"] (defScope (top 61)) := ⟨rfl, rfl, rfl, by decide +kernel, rfl, by decide +kernel, by decide +kernel⟩
theorem bindsLSumsRight (F : FnP K "_law_sums_right" (top 61) f fd) : Binds K fd ["_law_one", "_law_two", "_law_share_here"] [] := F.bindsN fun _ _ _ _ _ _ us hl => match us, hl with | [_, _, _], _ => rfl
theorem Pg.oLSumsRight (T : Pg K mg Ad Dd) (N : Nm mg) : FnG P w K mg base CX0 6 (Ad 61) (Dd 61) ["_law_one", "_law_two", "_law_share_here"] (spSums) := by
  refine fnG_of (T.fn 61 "_law_sums_right" rfl).1 scLSumsRight (fun vs H Q E h => ?_) (fun cdv A outer s H vs Q E hgd hr h => ?_)
  · obtain ⟨u, v, t, p, q, f, rfl, _⟩ := h
    rfl
  · obtain ⟨_, v, t, p, q, ⟨n, m⟩, rfl, ⟨a1, rfl, e1⟩, h2, ⟨a3, rfl, h3⟩, b1, b2, b3, k⟩ := h
    have hu := hr.units
    have rp := N.repr
    have hr5 : Room 5 _ := hr.mono (by decide)
    have hr4 : Room 4 _ := hr.mono (by decide)
    have hr3 : Room 3 _ := hr.mono (by decide)
    have hr2 : Room 2 _ := hr.mono (by decide)
    have hr1 : Room 1 _ := hr.mono (by decide)
    refine ⟨_, PSs.nox (pss_cons (ps_set (i := 3) scLSumsRight.nd rfl (.inl rfl) (pe_call (T.oPlus N) hr5 rfl (T.fn 34 "plus" rfl).2 (T.fn 34 "plus" rfl).1.kp (bindsPlus (T.fn 34 "plus" rfl).1) .nil pass0 (pa_cons (pv 0) (pa_cons (pv 1) pa_nil)))) (pss_cons (ps_if (pt_cmpR op_ne (pe_callB (call_reprD hgd hu) (by rfl) rp (by decide +kernel) (pa_cons (pe_lst (pa_cons (pv 3) (pa_cons (pe_callK0 (T.oPlus N) hr5 rfl (T.fn 34 "plus" rfl).2 (T.fn 34 "plus" rfl).1.kp (kb2 (ks := ["point", "other"]) false rfl (fun s a b => kbD (T.fn 34 "plus" rfl).1 (fun _ _ _ _ _ _ => rfl) s)) pass0 (pk_cons (pv 1) (pk_cons (pv 0) pk_nil))) (pa_cons (pe_call (T.oMinus N) hr5 rfl (T.fn 35 "minus" rfl).2 (T.fn 35 "minus" rfl).1.kp (bindsMinus (T.fn 35 "minus" rfl).1) .nil pass0 (pa_cons (pv 3) (pa_cons (pv 1) pa_nil))) pa_nil)))) pa_nil)) (pe_callB (call_reprD hgd hu) (by rfl) rp (by decide +kernel) (pa_cons (pe_lst (pa_cons (pe_call (T.oLAdd N) hr2 rfl (T.fn 51 "_law_add" rfl).2 (T.fn 51 "_law_add" rfl).1.kp (bindsLAdd (T.fn 51 "_law_add" rfl).1) .nil pass0 (pa_cons (pv 0) (pa_cons (pv 1) pa_nil))) (pa_cons (pv 3) (pa_cons (pv 0) pa_nil)))) pa_nil)) (nomark _)) (pss_one (ps_ret pe_bl)) pss_nil) (pss_cons (ps_if (pt_cmpR op_ne (pe_callB (call_reprD hgd hu) (by rfl) rp (by decide +kernel) (pa_cons (pe_lst (pa_cons (pe_callK0 (T.oMinus N) hr5 rfl (T.fn 35 "minus" rfl).2 (T.fn 35 "minus" rfl).1.kp (kb2 (ks := ["point", "other"]) false rfl (fun s a b => kbD (T.fn 35 "minus" rfl).1 (fun _ _ _ _ _ _ => rfl) s)) pass0 (pk_cons (pv 0) (pk_cons (pv 1) pk_nil))) (pa_cons (pe_call (T.oMinus N) hr5 rfl (T.fn 35 "minus" rfl).2 (T.fn 35 "minus" rfl).1.kp (bindsMinus (T.fn 35 "minus" rfl).1) .nil pass0 (pa_cons (pv 0) (pa_cons (pv 0) pa_nil))) pa_nil))) pa_nil)) (pe_callB (call_reprD hgd hu) (by rfl) rp (by decide +kernel) (pa_cons (pe_lst (pa_cons (pe_call (T.oLAdd N) hr2 rfl (T.fn 51 "_law_add" rfl).2 (T.fn 51 "_law_add" rfl).1.kp (bindsLAdd (T.fn 51 "_law_add" rfl).1) .nil pass0 (pa_cons (pv 0) (pa_cons (pe_call (T.oLBack N) hr1 rfl (T.fn 54 "_law_back" rfl).2 (T.fn 54 "_law_back" rfl).1.kp (bindsLBack (T.fn 54 "_law_back" rfl).1) .nil pass0 (pa_cons (pv 1) pa_nil)) pa_nil))) (pa_cons (pe_tup (pa_cons (pe_int) (pa_cons (pe_int) (pa_cons (pe_int) pa_nil)))) pa_nil))) pa_nil)) (nomark _)) (pss_one (ps_ret pe_bl)) pss_nil) (pss_cons (ps_set (i := 3) scLSumsRight.nd rfl (.inl rfl) (pe_call (T.oTimesP N) hr5 rfl (T.fn 36 "times" rfl).2 (T.fn 36 "times" rfl).1.kp (bindsTimesP (T.fn 36 "times" rfl).1) .nil pass0 (pa_cons (pv 0) (pa_cons (pv 2) pa_nil)))) (pss_cons (ps_if (pt_cmpR op_ne (pe_callB (call_reprD hgd hu) (by rfl) rp (by decide +kernel) (pa_cons (pe_lst (pa_cons (pv 3) (pa_cons (pe_callK0 (T.oTimesP N) hr5 rfl (T.fn 36 "times" rfl).2 (T.fn 36 "times" rfl).1.kp (kb2 (ks := ["point", "fraction"]) false rfl (fun s a b => kbD (T.fn 36 "times" rfl).1 (fun _ _ _ _ _ _ => rfl) s)) pass0 (pk_cons (pv 0) (pk_cons (pe_tup (pa_cons pe_int (pa_cons pe_int pa_nil))) pk_nil))) pa_nil))) pa_nil)) (pe_callB (call_reprD hgd hu) (by rfl) rp (by decide +kernel) (pa_cons (pe_lst (pa_cons (pe_call (T.oLGrow N) hr2 rfl (T.fn 52 "_law_grow" rfl).2 (T.fn 52 "_law_grow" rfl).1.kp (bindsLGrow (T.fn 52 "_law_grow" rfl).1) .nil pass0 (pa_cons (pv 0) (pa_cons (pv 2) pa_nil))) (pa_cons (pv 0) pa_nil))) pa_nil)) (nomark _)) (pss_one (ps_ret pe_bl)) pss_nil) (pss_cons (ps_if (PW.pt (pw_and (pt_cmpR op_ne (pe_ix ix_tup (pv 2) pe_int (fun _ _ => rfl)) (pe_int) (nomark _)) (pw_and1 (pt_cmpR op_ne (pe_callB (call_reprD hgd hu) (by rfl) rp (by decide +kernel) (pa_cons (pe_call (T.oTimesP N) hr5 rfl (T.fn 36 "times" rfl).2 (T.fn 36 "times" rfl).1.kp (bindsTimesP (T.fn 36 "times" rfl).1) .nil pass0 (pa_cons (pv 3) (pa_cons (pe_call (T.oLPart N) hr2 rfl (T.fn 48 "_law_part" rfl).2 (T.fn 48 "_law_part" rfl).1.kp (bindsLPart (T.fn 48 "_law_part" rfl).1) .nil pass0 (pa_cons (pe_ix ix_tup (pv 2) pe_int (fun _ _ => rfl)) (pa_cons (pe_ix ix_tup (pv 2) pe_int (fun _ _ => rfl)) pa_nil))) pa_nil))) pa_nil)) (pe_callB (call_reprD hgd hu) (by rfl) rp (by decide +kernel) (pa_cons (pv 0) pa_nil)) (nomark _))))) (pss_one (ps_ret pe_bl)) pss_nil) (pss_cons (ps_par (by rfl) scLSumsRight.nd (i := 4) (j := 5) rfl rfl (by decide) rfl rfl (pa_cons (pe_call (T.oLPart N) hr2 rfl (T.fn 48 "_law_part" rfl).2 (T.fn 48 "_law_part" rfl).1.kp (bindsLPart (T.fn 48 "_law_part" rfl).1) .nil pass0 (pa_cons (pe_ix ix_tup (pv 0) pe_int (fun _ _ => rfl)) (pa_cons (pe_ix ix_tup (pv 0) pe_int (fun _ _ => rfl)) pa_nil))) (pa_cons (pe_call (T.oLPart N) hr2 rfl (T.fn 48 "_law_part" rfl).2 (T.fn 48 "_law_part" rfl).1.kp (bindsLPart (T.fn 48 "_law_part" rfl).1) .nil pass0 (pa_cons (pe_ix ix_tup (pv 0) pe_int (fun _ _ => rfl)) (pa_cons (pe_ix ix_tup (pv 0) pe_int (fun _ _ => rfl)) pa_nil))) pa_nil)) (by rfl)) (pss_one (ps_ret (pe_cmpR op_eq (pe_callB (call_reprD hgd hu) (by rfl) rp (by decide +kernel) (pa_cons (pe_lst (pa_cons (pe_call (T.oPAt N) hr5 rfl (T.fn 33 "point_at" rfl).2 (T.fn 33 "point_at" rfl).1.kp (bindsPAt (T.fn 33 "point_at" rfl).1) .nil pass0 (pa_cons (pv 4) (pa_cons (pv 5) pa_nil))) (pa_cons (pe_callK0 (T.oPAt N) hr5 rfl (T.fn 33 "point_at" rfl).2 (T.fn 33 "point_at" rfl).1.kp (kb2 (ks := ["north", "east"]) true rfl (fun s a b => kbD (T.fn 33 "point_at" rfl).1 (fun _ _ _ _ _ _ => rfl) s)) pass0 (pk_cons (pv 4) (pk_cons (pv 5) pk_nil))) pa_nil))) pa_nil)) (pe_callB (call_reprD hgd hu) (by rfl) rp (by decide +kernel) (pa_cons (pe_lst (pa_cons (pv 0) (pa_cons (pe_tup (pa_cons (pe_ix ix_tup (pv 0) pe_int (fun _ _ => rfl)) (pa_cons (pe_ix ix_tup (pv 0) pe_int (fun _ _ => rfl)) (pa_cons (pe_ix ix_tup (pv 0) pe_int (fun _ _ => rfl)) pa_nil)))) pa_nil))) pa_nil)) (nomark _))))))))))), ?_⟩
    have c1 := b1.sm (by decide) (by decide)
    have c2 := b2.sm (by decide) (by decide)
    have l1 := b1.li (by decide) (by decide)
    have l2 := b2.li (by decide) (by decide)
    have w1 := b1.pt.1
    have w2 := b2.pt.1
    have f0 : 0 < m := b3.fr.1
    obtain ⟨t1, t2⟩ := Bd3.sum (M := 990) (W := 25) b1 b2 (by decide) (by decide) (by decide) (by decide)
    have tp := t1.pt
    have lt := t1.li (by decide) (by decide)
    have ct := t1.sm (by decide) (by decide)
    have h1 : At3 H (.ref a1) p := ⟨a1, rfl, e1⟩
    refine ⟨_, rfl, _, rfl, (.ref a1), v, p, q, rfl, h1, h2, b1.pt, b2.pt, c1, c2, fun r1 H1 st1 k1 => ?_⟩
    refine ⟨_, rfl, ?_⟩
    refine ⟨_, rfl, _, rfl, v, (.ref a1), q, p, rfl, (At3.mono st1 h2), (At3.mono st1 h1), b2.pt, b1.pt, c2, c1, fun r2 H2 st2 k2 => ?_⟩
    rw [← sum_comm w1 w2] at k2
    refine ⟨_, rfl, _, rfl, r1, v, pSum p q, q, rfl, (At3.mono st2 k1), (At3.mono (st1.trans st2) h2), tp, b2.pt, ct, c2, fun r3 H3 st3 k3 => ?_⟩
    rw [gap_sum b1.pt w2] at k3
    refine ⟨(by show 3 ≤ sizeLine; decide), fun ad4 ae4 => ?_⟩
    have st4 := sameNew (o := .lst [r1, r2, r3]) ae4
    obtain ⟨za1, zb1, zc1, zd1⟩ := rrL (K := K) (H := (upd H3 ad4 (.lst [r1, r2, r3]))) (r := ad4) (ds := [d3 (pSum p q), d3 (pSum p q), d3 p]) upd_same (.cons (At3.dp (At3.mono (st2.trans (st3.trans st4)) k1)) (.cons (At3.dp (At3.mono (st3.trans st4) k2)) (.cons (At3.dp (At3.mono st4 k3)) .nil))) (mem3 (d3_sml lt) (d3_sml lt) (d3_sml l1)) (by show 3 ≤ 100; decide)
    refine ⟨_, _, rfl, za1, zb1, zc1, zd1, ?_⟩
    generalize hz1 : (PyData.list [d3 (pSum p q), d3 (pSum p q), d3 p]).shown = sz1
    refine ⟨_, rfl, _, rfl, (.ref a1), v, p, q, rfl, (At3.mono (st1.trans (st2.trans (st3.trans st4))) h1), (At3.mono (st1.trans (st2.trans (st3.trans st4))) h2), l1, l2, t2, fun r5 H5 st5 k5 => ?_⟩
    refine ⟨_, rfl, ?_⟩
    refine ⟨_, rfl, ?_⟩
    refine ⟨(by show 3 ≤ sizeLine; decide), fun ad6 ae6 => ?_⟩
    have st6 := sameNew (o := .lst [r5, r1, (.ref a1)]) ae6
    obtain ⟨za2, zb2, zc2, zd2⟩ := rrL (K := K) (H := (upd H5 ad6 (.lst [r5, r1, (.ref a1)]))) (r := ad6) (ds := [d3 (pSum p q), d3 (pSum p q), d3 p]) upd_same (.cons (At3.dp (At3.mono st6 k5)) (.cons (At3.dp (At3.mono (st2.trans (st3.trans (st4.trans (st5.trans st6)))) k1)) (.cons (At3.dp (At3.mono (st1.trans (st2.trans (st3.trans (st4.trans (st5.trans st6))))) h1)) .nil))) (mem3 (d3_sml lt) (d3_sml lt) (d3_sml l1)) (by show 3 ≤ 100; decide)
    refine ⟨_, _, rfl, za2, zb2, zc2, zd2, ?_⟩
    rw [hz1]
    refine ⟨rfl, _, rfl, iteNS rfl ?_⟩
    have bb := Bd3.gap (M := 990) (W := 25) b1 b2 (by decide) (by decide)
    have lb := bb.li (by decide) (by decide)
    have bk : Bd3 99 5 (pBack q) := ⟨back_pt b2.pt, by have := b2.x1; show -99 ≤ 0 - q.x; omega, by have := b2.x0; show 0 - q.x ≤ 99; omega, by have := b2.y1; show -99 ≤ 0 - q.y; omega, by have := b2.y0; show 0 - q.y ≤ 99; omega, b2.w1⟩
    have lk := bk.li (by decide) (by decide)
    obtain ⟨u1, u2⟩ := Bd3.sum (M := 990) (W := 25) b1 bk (by decide) (by decide) (by decide) (by decide)
    refine ⟨_, rfl, _, rfl, (.ref a1), v, p, q, rfl, (At3.mono (st1.trans (st2.trans (st3.trans (st4.trans (st5.trans st6))))) h1), (At3.mono (st1.trans (st2.trans (st3.trans (st4.trans (st5.trans st6))))) h2), b1.pt, b2.pt, c1, c2, fun r7 H7 st7 k7 => ?_⟩
    refine ⟨_, rfl, _, rfl, (.ref a1), (.ref a1), p, p, rfl, (At3.mono (st1.trans (st2.trans (st3.trans (st4.trans (st5.trans (st6.trans st7)))))) h1), (At3.mono (st1.trans (st2.trans (st3.trans (st4.trans (st5.trans (st6.trans st7)))))) h1), b1.pt, b1.pt, c1, c1, fun r8 H8 st8 k8 => ?_⟩
    rw [gap_self w1] at k8
    refine ⟨(by show 2 ≤ sizeLine; decide), fun ad9 ae9 => ?_⟩
    have st9 := sameNew (o := .lst [r7, r8]) ae9
    obtain ⟨za3, zb3, zc3, zd3⟩ := rrL (K := K) (H := (upd H8 ad9 (.lst [r7, r8]))) (r := ad9) (ds := [d3 (pGap p q), d3 ⟨0, 0, 1⟩]) upd_same (.cons (At3.dp (At3.mono (st8.trans st9) k7)) (.cons (At3.dp (At3.mono st9 k8)) .nil)) (mem2 (d3_sml lb) (d3_sml zero_li)) (by show 2 ≤ 100; decide)
    refine ⟨_, _, rfl, za3, zb3, zc3, zd3, ?_⟩
    generalize hz3 : (PyData.list [d3 (pGap p q), d3 ⟨0, 0, 1⟩]).shown = sz3
    refine ⟨_, rfl, ?_⟩
    refine ⟨_, rfl, v, q, rfl, (At3.mono (st1.trans (st2.trans (st3.trans (st4.trans (st5.trans (st6.trans (st7.trans (st8.trans st9)))))))) h2), fun r10 H10 st10 k10 => ?_⟩
    refine ⟨(.ref a1), r10, p, pBack q, rfl, (At3.mono (st1.trans (st2.trans (st3.trans (st4.trans (st5.trans (st6.trans (st7.trans (st8.trans (st9.trans st10))))))))) h1), k10, l1, lk, u2, fun r11 H11 st11 k11 => ?_⟩
    rw [← gap_back w1 w2] at k11
    refine ⟨(by show 3 ≤ sizeLine; decide), fun ad12 ae12 => ?_⟩
    have st12 := sameNew (o := .tup [V.int 0, V.int 0, V.int 1]) ae12
    refine ⟨(by show 2 ≤ sizeLine; decide), fun ad13 ae13 => ?_⟩
    have st13 := sameNew (o := .lst [r11, (.ref ad12)]) ae13
    obtain ⟨za4, zb4, zc4, zd4⟩ := rrL (K := K) (H := (upd (upd H11 ad12 (.tup [V.int 0, V.int 0, V.int 1])) ad13 (.lst [r11, (.ref ad12)]))) (r := ad13) (ds := [d3 (pGap p q), d3 ⟨0, 0, 1⟩]) upd_same (.cons (At3.dp (At3.mono (st12.trans st13) k11)) (.cons (At3.dp (At3.mono st13 (⟨ad12, rfl, upd_same⟩ : At3 (upd H11 ad12 (.tup [V.int 0, V.int 0, V.int 1])) (.ref ad12) ⟨0, 0, 1⟩))) .nil)) (mem2 (d3_sml lb) (d3_sml zero_li)) (by show 2 ≤ 100; decide)
    refine ⟨_, _, rfl, za4, zb4, zc4, zd4, ?_⟩
    rw [hz3]
    refine ⟨rfl, _, rfl, iteNS rfl ?_⟩
    have f1 := b3.fr
    have cf : Sm2 ⟨n, m⟩ := b3.sm (by decide) (by decide)
    obtain ⟨v1, v2⟩ := Bd3.times (k := 6) (l := 4) (M := 594) (W := 20) b1 b3.n0 b3.n1 f0 b3.d1 (by decide) (by decide) (by decide) (by decide)
    have lv := v1.li (by decide) (by decide)
    have cv := v1.sm (by decide) (by decide)
    have h3p : At2 H (.ref a3) ⟨n, m⟩ := ⟨a3, rfl, h3⟩
    refine ⟨_, rfl, _, rfl, (.ref a1), _, p, ⟨n, m⟩, rfl, (At3.mono (st1.trans (st2.trans (st3.trans (st4.trans (st5.trans (st6.trans (st7.trans (st8.trans (st9.trans (st10.trans (st11.trans (st12.trans st13)))))))))))) h1), (At2.mono (st1.trans (st2.trans (st3.trans (st4.trans (st5.trans (st6.trans (st7.trans (st8.trans (st9.trans (st10.trans (st11.trans (st12.trans st13)))))))))))) h3p), b1.pt, f1, c1, cf, fun r14 H14 st14 k14 => ?_⟩
    refine ⟨_, rfl, ?_⟩
    refine ⟨_, rfl, ?_⟩
    refine ⟨(by show 2 ≤ sizeLine; decide), fun ad15 ae15 => ?_⟩
    have st15 := sameNew (o := .tup [V.int 1, V.int 1]) ae15
    refine ⟨(.ref a1), _, p, ⟨1, 1⟩, rfl, (At3.mono (st1.trans (st2.trans (st3.trans (st4.trans (st5.trans (st6.trans (st7.trans (st8.trans (st9.trans (st10.trans (st11.trans (st12.trans (st13.trans (st14.trans st15)))))))))))))) h1), ⟨ad15, rfl, upd_same⟩, b1.pt, one_fr, c1, ⟨⟨by decide, by decide⟩, by decide, by decide⟩, fun r16 H16 st16 k16 => ?_⟩
    rw [times_one b1.pt] at k16
    refine ⟨(by show 2 ≤ sizeLine; decide), fun ad17 ae17 => ?_⟩
    have st17 := sameNew (o := .lst [r14, r16]) ae17
    obtain ⟨za5, zb5, zc5, zd5⟩ := rrL (K := K) (H := (upd H16 ad17 (.lst [r14, r16]))) (r := ad17) (ds := [d3 (pTimes p ⟨n, m⟩), d3 p]) upd_same (.cons (At3.dp (At3.mono (st15.trans (st16.trans st17)) k14)) (.cons (At3.dp (At3.mono st17 k16)) .nil)) (mem2 (d3_sml lv) (d3_sml l1)) (by show 2 ≤ 100; decide)
    refine ⟨_, _, rfl, za5, zb5, zc5, zd5, ?_⟩
    generalize hz5 : (PyData.list [d3 (pTimes p ⟨n, m⟩), d3 p]).shown = sz5
    refine ⟨_, rfl, _, rfl, (.ref a1), _, p, ⟨n, m⟩, rfl, (At3.mono (st1.trans (st2.trans (st3.trans (st4.trans (st5.trans (st6.trans (st7.trans (st8.trans (st9.trans (st10.trans (st11.trans (st12.trans (st13.trans (st14.trans (st15.trans (st16.trans st17)))))))))))))))) h1), (At2.mono (st1.trans (st2.trans (st3.trans (st4.trans (st5.trans (st6.trans (st7.trans (st8.trans (st9.trans (st10.trans (st11.trans (st12.trans (st13.trans (st14.trans (st15.trans (st16.trans st17)))))))))))))))) h3p), l1, v2, fun r18 H18 st18 k18 => ?_⟩
    refine ⟨_, rfl, ?_⟩
    refine ⟨(by show 2 ≤ sizeLine; decide), fun ad19 ae19 => ?_⟩
    have st19 := sameNew (o := .lst [r18, (.ref a1)]) ae19
    obtain ⟨za6, zb6, zc6, zd6⟩ := rrL (K := K) (H := (upd H18 ad19 (.lst [r18, (.ref a1)]))) (r := ad19) (ds := [d3 (pTimes p ⟨n, m⟩), d3 p]) upd_same (.cons (At3.dp (At3.mono st19 k18)) (.cons (At3.dp (At3.mono (st1.trans (st2.trans (st3.trans (st4.trans (st5.trans (st6.trans (st7.trans (st8.trans (st9.trans (st10.trans (st11.trans (st12.trans (st13.trans (st14.trans (st15.trans (st16.trans (st17.trans (st18.trans st19)))))))))))))))))) h1)) .nil)) (mem2 (d3_sml lv) (d3_sml l1)) (by show 2 ≤ 100; decide)
    refine ⟨_, _, rfl, za6, zb6, zc6, zd6, ?_⟩
    rw [hz5]
    refine ⟨rfl, _, rfl, iteNS rfl ?_⟩
    refine ⟨_, rfl, a3, _, 0, .int n, rfl, rfl, SqT.of ((st1.trans (st2.trans (st3.trans (st4.trans (st5.trans (st6.trans (st7.trans (st8.trans (st9.trans (st10.trans (st11.trans (st12.trans (st13.trans (st14.trans (st15.trans (st16.trans (st17.trans (st18.trans st19)))))))))))))))))) _ _ h3), rfl, rfl, _, rfl, ?_⟩
    by_cases hn : n = 0
    · refine iteNS (congrArg V.int hn) (iteF ?_)
      have wn : p.w ≠ 0 := by omega
      refine ⟨_, rfl, a1, _, 0, .int p.x, rfl, rfl, SqT.of ((st1.trans (st2.trans (st3.trans (st4.trans (st5.trans (st6.trans (st7.trans (st8.trans (st9.trans (st10.trans (st11.trans (st12.trans (st13.trans (st14.trans (st15.trans (st16.trans (st17.trans (st18.trans st19)))))))))))))))))) _ _ e1), rfl, _, rfl, a1, _, 2, .int p.w, rfl, rfl, SqT.of ((st1.trans (st2.trans (st3.trans (st4.trans (st5.trans (st6.trans (st7.trans (st8.trans (st9.trans (st10.trans (st11.trans (st12.trans (st13.trans (st14.trans (st15.trans (st16.trans (st17.trans (st18.trans st19)))))))))))))))))) _ _ e1), rfl, p.x, p.w, rfl, l1.1, l1.2.2, wn, fun r20 H20 st20 k20 => ?_⟩
      refine ⟨_, rfl, a1, _, 1, .int p.y, rfl, rfl, SqT.of ((st1.trans (st2.trans (st3.trans (st4.trans (st5.trans (st6.trans (st7.trans (st8.trans (st9.trans (st10.trans (st11.trans (st12.trans (st13.trans (st14.trans (st15.trans (st16.trans (st17.trans (st18.trans (st19.trans st20))))))))))))))))))) _ _ e1), rfl, _, rfl, a1, _, 2, .int p.w, rfl, rfl, SqT.of ((st1.trans (st2.trans (st3.trans (st4.trans (st5.trans (st6.trans (st7.trans (st8.trans (st9.trans (st10.trans (st11.trans (st12.trans (st13.trans (st14.trans (st15.trans (st16.trans (st17.trans (st18.trans (st19.trans st20))))))))))))))))))) _ _ e1), rfl, p.y, p.w, rfl, l1.2.1, l1.2.2, wn, fun r21 H21 st21 k21 => ?_⟩
      refine ⟨_, _, rfl, ?_⟩
      have pf := part_bd (m := 99) (n := 5) (t := p.x) wn b1.x0 b1.x1 (by omega) b1.w1
      have ps := part_bd (m := 99) (n := 5) (t := p.y) wn b1.y0 b1.y1 (by omega) b1.w1
      have qf := pf.sm (by decide) (by decide)
      have qs := ps.sm (by decide) (by decide)
      refine ⟨_, rfl, _, rfl, r20, r21, partZ p.x p.w, partZ p.y p.w, rfl, (At2.mono st21 k20), k21, pf.fr, ps.fr, qf, qs, fun r22 H22 st22 k22 => ?_⟩
      rw [show nm3 ((partZ p.x p.w).n * (partZ p.y p.w).d) ((partZ p.y p.w).n * (partZ p.x p.w).d) ((partZ p.x p.w).d * (partZ p.y p.w).d) = p from at_of b1.pt] at k22
      refine ⟨_, rfl, _, rfl, r21, r20, partZ p.y p.w, partZ p.x p.w, rfl, (At2.mono st22 k21), (At2.mono (st21.trans st22) k20), ps.fr, pf.fr, qs, qf, fun r23 H23 st23 k23 => ?_⟩
      rw [show nm3 ((partZ p.y p.w).n * (partZ p.x p.w).d) ((partZ p.x p.w).n * (partZ p.y p.w).d) ((partZ p.y p.w).d * (partZ p.x p.w).d) = ⟨p.y, p.x, p.w⟩ from at_of (p := ⟨p.y, p.x, p.w⟩) (swap_pt b1.pt)] at k23
      refine ⟨(by show 2 ≤ sizeLine; decide), fun ad24 ae24 => ?_⟩
      have st24 := sameNew (o := .lst [r22, r23]) ae24
      obtain ⟨za7, zb7, zc7, zd7⟩ := rrL (K := K) (H := (upd H23 ad24 (.lst [r22, r23]))) (r := ad24) (ds := [d3 p, d3 ⟨p.y, p.x, p.w⟩]) upd_same (.cons (At3.dp (At3.mono (st23.trans st24) k22)) (.cons (At3.dp (At3.mono st24 k23)) .nil)) (mem2 (d3_sml l1) (d3_sml ⟨l1.2.1, l1.1, l1.2.2⟩)) (by show 2 ≤ 100; decide)
      refine ⟨_, _, rfl, za7, zb7, zc7, zd7, ?_⟩
      generalize hz7 : (PyData.list [d3 p, d3 ⟨p.y, p.x, p.w⟩]).shown = sz7
      refine ⟨_, rfl, ?_⟩
      refine ⟨_, rfl, a1, _, 1, .int p.y, rfl, rfl, SqT.of ((st1.trans (st2.trans (st3.trans (st4.trans (st5.trans (st6.trans (st7.trans (st8.trans (st9.trans (st10.trans (st11.trans (st12.trans (st13.trans (st14.trans (st15.trans (st16.trans (st17.trans (st18.trans (st19.trans (st20.trans (st21.trans (st22.trans (st23.trans st24))))))))))))))))))))))) _ _ e1), rfl, _, rfl, a1, _, 0, .int p.x, rfl, rfl, SqT.of ((st1.trans (st2.trans (st3.trans (st4.trans (st5.trans (st6.trans (st7.trans (st8.trans (st9.trans (st10.trans (st11.trans (st12.trans (st13.trans (st14.trans (st15.trans (st16.trans (st17.trans (st18.trans (st19.trans (st20.trans (st21.trans (st22.trans (st23.trans st24))))))))))))))))))))))) _ _ e1), rfl, _, rfl, a1, _, 2, .int p.w, rfl, rfl, SqT.of ((st1.trans (st2.trans (st3.trans (st4.trans (st5.trans (st6.trans (st7.trans (st8.trans (st9.trans (st10.trans (st11.trans (st12.trans (st13.trans (st14.trans (st15.trans (st16.trans (st17.trans (st18.trans (st19.trans (st20.trans (st21.trans (st22.trans (st23.trans st24))))))))))))))))))))))) _ _ e1), rfl, ?_⟩
      refine ⟨(by show 3 ≤ sizeLine; decide), fun ad25 ae25 => ?_⟩
      have st25 := sameNew (o := .tup [V.int p.y, V.int p.x, V.int p.w]) ae25
      refine ⟨(by show 2 ≤ sizeLine; decide), fun ad26 ae26 => ?_⟩
      have st26 := sameNew (o := .lst [(.ref a1), (.ref ad25)]) ae26
      obtain ⟨za8, zb8, zc8, zd8⟩ := rrL (K := K) (H := (upd (upd (upd H23 ad24 (.lst [r22, r23])) ad25 (.tup [V.int p.y, V.int p.x, V.int p.w])) ad26 (.lst [(.ref a1), (.ref ad25)]))) (r := ad26) (ds := [d3 p, d3 ⟨p.y, p.x, p.w⟩]) upd_same (.cons (At3.dp (At3.mono (st1.trans (st2.trans (st3.trans (st4.trans (st5.trans (st6.trans (st7.trans (st8.trans (st9.trans (st10.trans (st11.trans (st12.trans (st13.trans (st14.trans (st15.trans (st16.trans (st17.trans (st18.trans (st19.trans (st20.trans (st21.trans (st22.trans (st23.trans (st24.trans (st25.trans st26))))))))))))))))))))))))) h1)) (.cons (At3.dp (At3.mono st26 (⟨ad25, rfl, upd_same⟩ : At3 (upd (upd H23 ad24 (.lst [r22, r23])) ad25 (.tup [V.int p.y, V.int p.x, V.int p.w])) (.ref ad25) ⟨p.y, p.x, p.w⟩))) .nil)) (mem2 (d3_sml l1) (d3_sml ⟨l1.2.1, l1.1, l1.2.2⟩)) (by show 2 ≤ 100; decide)
      refine ⟨_, _, rfl, za8, zb8, zc8, zd8, ?_⟩
      rw [hz7]
      refine ⟨rfl, ?_⟩
      rw [decide_eq_true (show V.str sz7 = V.str sz7 from rfl)]
      exact k _ (st1.trans (st2.trans (st3.trans (st4.trans (st5.trans (st6.trans (st7.trans (st8.trans (st9.trans (st10.trans (st11.trans (st12.trans (st13.trans (st14.trans (st15.trans (st16.trans (st17.trans (st18.trans (st19.trans (st20.trans (st21.trans (st22.trans (st23.trans (st24.trans (st25.trans st26)))))))))))))))))))))))))
    · refine iteNN (fun z => hn (V.int.inj z)) ?_
      have lm : Lim m := ⟨by have := b3.d1; dsimp only at this; omega, by have := b3.d1; dsimp only at this; omega⟩
      have ln : Lim n := ⟨by have := b3.n0; dsimp only at this; omega, by have := b3.n1; dsimp only at this; omega⟩
      refine ⟨_, rfl, _, rfl, a3, _, 1, .int m, rfl, rfl, SqT.of ((st1.trans (st2.trans (st3.trans (st4.trans (st5.trans (st6.trans (st7.trans (st8.trans (st9.trans (st10.trans (st11.trans (st12.trans (st13.trans (st14.trans (st15.trans (st16.trans (st17.trans (st18.trans st19)))))))))))))))))) _ _ h3), rfl, _, rfl, a3, _, 0, .int n, rfl, rfl, SqT.of ((st1.trans (st2.trans (st3.trans (st4.trans (st5.trans (st6.trans (st7.trans (st8.trans (st9.trans (st10.trans (st11.trans (st12.trans (st13.trans (st14.trans (st15.trans (st16.trans (st17.trans (st18.trans st19)))))))))))))))))) _ _ h3), rfl, m, n, rfl, lm, ln, hn, fun r20 H20 st20 k20 => ?_⟩
      have bp := part_bd (m := 4) (n := 6) (t := m) hn (by omega) b3.d1 b3.n0 b3.n1
      refine ⟨r14, r20, pTimes p ⟨n, m⟩, partZ m n, rfl, (At3.mono (st15.trans (st16.trans (st17.trans (st18.trans (st19.trans st20))))) k14), k20, v1.pt, bp.fr, cv, bp.sm (by decide) (by decide), fun r21 H21 st21 k21 => ?_⟩
      rw [times_back (f := ⟨n, m⟩) b1.pt f0 hn] at k21
      obtain ⟨za7, zb7, zc7, zd7⟩ := rrD (K := K) (H := H21) (v := r21) (d := d3 p) (At3.dp k21) (d3_sml l1)
      refine ⟨_, _, rfl, za7, zb7, zc7, zd7, ?_⟩
      generalize hz7 : (d3 p).shown = sz7
      refine ⟨_, rfl, ?_⟩
      obtain ⟨za8, zb8, zc8, zd8⟩ := rrD (K := K) (H := H21) (v := (.ref a1)) (d := d3 p) (At3.dp (At3.mono (st1.trans (st2.trans (st3.trans (st4.trans (st5.trans (st6.trans (st7.trans (st8.trans (st9.trans (st10.trans (st11.trans (st12.trans (st13.trans (st14.trans (st15.trans (st16.trans (st17.trans (st18.trans (st19.trans (st20.trans st21)))))))))))))))))))) h1)) (d3_sml l1)
      refine ⟨_, _, rfl, za8, zb8, zc8, zd8, ?_⟩
      rw [hz7]
      refine ⟨rfl, _, rfl, iteNS rfl ?_⟩
      have wn : p.w ≠ 0 := by omega
      refine ⟨_, rfl, a1, _, 0, .int p.x, rfl, rfl, SqT.of ((st1.trans (st2.trans (st3.trans (st4.trans (st5.trans (st6.trans (st7.trans (st8.trans (st9.trans (st10.trans (st11.trans (st12.trans (st13.trans (st14.trans (st15.trans (st16.trans (st17.trans (st18.trans (st19.trans (st20.trans st21)))))))))))))))))))) _ _ e1), rfl, _, rfl, a1, _, 2, .int p.w, rfl, rfl, SqT.of ((st1.trans (st2.trans (st3.trans (st4.trans (st5.trans (st6.trans (st7.trans (st8.trans (st9.trans (st10.trans (st11.trans (st12.trans (st13.trans (st14.trans (st15.trans (st16.trans (st17.trans (st18.trans (st19.trans (st20.trans st21)))))))))))))))))))) _ _ e1), rfl, p.x, p.w, rfl, l1.1, l1.2.2, wn, fun r22 H22 st22 k22 => ?_⟩
      refine ⟨_, rfl, a1, _, 1, .int p.y, rfl, rfl, SqT.of ((st1.trans (st2.trans (st3.trans (st4.trans (st5.trans (st6.trans (st7.trans (st8.trans (st9.trans (st10.trans (st11.trans (st12.trans (st13.trans (st14.trans (st15.trans (st16.trans (st17.trans (st18.trans (st19.trans (st20.trans (st21.trans st22))))))))))))))))))))) _ _ e1), rfl, _, rfl, a1, _, 2, .int p.w, rfl, rfl, SqT.of ((st1.trans (st2.trans (st3.trans (st4.trans (st5.trans (st6.trans (st7.trans (st8.trans (st9.trans (st10.trans (st11.trans (st12.trans (st13.trans (st14.trans (st15.trans (st16.trans (st17.trans (st18.trans (st19.trans (st20.trans (st21.trans st22))))))))))))))))))))) _ _ e1), rfl, p.y, p.w, rfl, l1.2.1, l1.2.2, wn, fun r23 H23 st23 k23 => ?_⟩
      refine ⟨_, _, rfl, ?_⟩
      have pf := part_bd (m := 99) (n := 5) (t := p.x) wn b1.x0 b1.x1 (by omega) b1.w1
      have ps := part_bd (m := 99) (n := 5) (t := p.y) wn b1.y0 b1.y1 (by omega) b1.w1
      have qf := pf.sm (by decide) (by decide)
      have qs := ps.sm (by decide) (by decide)
      refine ⟨_, rfl, _, rfl, r22, r23, partZ p.x p.w, partZ p.y p.w, rfl, (At2.mono st23 k22), k23, pf.fr, ps.fr, qf, qs, fun r24 H24 st24 k24 => ?_⟩
      rw [show nm3 ((partZ p.x p.w).n * (partZ p.y p.w).d) ((partZ p.y p.w).n * (partZ p.x p.w).d) ((partZ p.x p.w).d * (partZ p.y p.w).d) = p from at_of b1.pt] at k24
      refine ⟨_, rfl, _, rfl, r23, r22, partZ p.y p.w, partZ p.x p.w, rfl, (At2.mono st24 k23), (At2.mono (st23.trans st24) k22), ps.fr, pf.fr, qs, qf, fun r25 H25 st25 k25 => ?_⟩
      rw [show nm3 ((partZ p.y p.w).n * (partZ p.x p.w).d) ((partZ p.x p.w).n * (partZ p.y p.w).d) ((partZ p.y p.w).d * (partZ p.x p.w).d) = ⟨p.y, p.x, p.w⟩ from at_of (p := ⟨p.y, p.x, p.w⟩) (swap_pt b1.pt)] at k25
      refine ⟨(by show 2 ≤ sizeLine; decide), fun ad26 ae26 => ?_⟩
      have st26 := sameNew (o := .lst [r24, r25]) ae26
      obtain ⟨za9, zb9, zc9, zd9⟩ := rrL (K := K) (H := (upd H25 ad26 (.lst [r24, r25]))) (r := ad26) (ds := [d3 p, d3 ⟨p.y, p.x, p.w⟩]) upd_same (.cons (At3.dp (At3.mono (st25.trans st26) k24)) (.cons (At3.dp (At3.mono st26 k25)) .nil)) (mem2 (d3_sml l1) (d3_sml ⟨l1.2.1, l1.1, l1.2.2⟩)) (by show 2 ≤ 100; decide)
      refine ⟨_, _, rfl, za9, zb9, zc9, zd9, ?_⟩
      generalize hz9 : (PyData.list [d3 p, d3 ⟨p.y, p.x, p.w⟩]).shown = sz9
      refine ⟨_, rfl, ?_⟩
      refine ⟨_, rfl, a1, _, 1, .int p.y, rfl, rfl, SqT.of ((st1.trans (st2.trans (st3.trans (st4.trans (st5.trans (st6.trans (st7.trans (st8.trans (st9.trans (st10.trans (st11.trans (st12.trans (st13.trans (st14.trans (st15.trans (st16.trans (st17.trans (st18.trans (st19.trans (st20.trans (st21.trans (st22.trans (st23.trans (st24.trans (st25.trans st26))))))))))))))))))))))))) _ _ e1), rfl, _, rfl, a1, _, 0, .int p.x, rfl, rfl, SqT.of ((st1.trans (st2.trans (st3.trans (st4.trans (st5.trans (st6.trans (st7.trans (st8.trans (st9.trans (st10.trans (st11.trans (st12.trans (st13.trans (st14.trans (st15.trans (st16.trans (st17.trans (st18.trans (st19.trans (st20.trans (st21.trans (st22.trans (st23.trans (st24.trans (st25.trans st26))))))))))))))))))))))))) _ _ e1), rfl, _, rfl, a1, _, 2, .int p.w, rfl, rfl, SqT.of ((st1.trans (st2.trans (st3.trans (st4.trans (st5.trans (st6.trans (st7.trans (st8.trans (st9.trans (st10.trans (st11.trans (st12.trans (st13.trans (st14.trans (st15.trans (st16.trans (st17.trans (st18.trans (st19.trans (st20.trans (st21.trans (st22.trans (st23.trans (st24.trans (st25.trans st26))))))))))))))))))))))))) _ _ e1), rfl, ?_⟩
      refine ⟨(by show 3 ≤ sizeLine; decide), fun ad27 ae27 => ?_⟩
      have st27 := sameNew (o := .tup [V.int p.y, V.int p.x, V.int p.w]) ae27
      refine ⟨(by show 2 ≤ sizeLine; decide), fun ad28 ae28 => ?_⟩
      have st28 := sameNew (o := .lst [(.ref a1), (.ref ad27)]) ae28
      obtain ⟨za10, zb10, zc10, zd10⟩ := rrL (K := K) (H := (upd (upd (upd H25 ad26 (.lst [r24, r25])) ad27 (.tup [V.int p.y, V.int p.x, V.int p.w])) ad28 (.lst [(.ref a1), (.ref ad27)]))) (r := ad28) (ds := [d3 p, d3 ⟨p.y, p.x, p.w⟩]) upd_same (.cons (At3.dp (At3.mono (st1.trans (st2.trans (st3.trans (st4.trans (st5.trans (st6.trans (st7.trans (st8.trans (st9.trans (st10.trans (st11.trans (st12.trans (st13.trans (st14.trans (st15.trans (st16.trans (st17.trans (st18.trans (st19.trans (st20.trans (st21.trans (st22.trans (st23.trans (st24.trans (st25.trans (st26.trans (st27.trans st28))))))))))))))))))))))))))) h1)) (.cons (At3.dp (At3.mono st28 (⟨ad27, rfl, upd_same⟩ : At3 (upd (upd H25 ad26 (.lst [r24, r25])) ad27 (.tup [V.int p.y, V.int p.x, V.int p.w])) (.ref ad27) ⟨p.y, p.x, p.w⟩))) .nil)) (mem2 (d3_sml l1) (d3_sml ⟨l1.2.1, l1.1, l1.2.2⟩)) (by show 2 ≤ 100; decide)
      refine ⟨_, _, rfl, za10, zb10, zc10, zd10, ?_⟩
      rw [hz9]
      refine ⟨rfl, ?_⟩
      rw [decide_eq_true (show V.str sz9 = V.str sz9 from rfl)]
      exact k _ (st1.trans (st2.trans (st3.trans (st4.trans (st5.trans (st6.trans (st7.trans (st8.trans (st9.trans (st10.trans (st11.trans (st12.trans (st13.trans (st14.trans (st15.trans (st16.trans (st17.trans (st18.trans (st19.trans (st20.trans (st21.trans (st22.trans (st23.trans (st24.trans (st25.trans (st26.trans (st27.trans st28)))))))))))))))))))))))))))
end
end K2
namespace K2
open PySem PySem.Spec PyProof.Rows L2
theorem Bd3.li2 {m n : Int} {p : P3} (h : Bd3 m n p) (hm : m ≤ 1000000000) (hn : n ≤ 1000000000) : Li3 p := by
  obtain ⟨⟨h0, _⟩, h1, h2, h3, h4, h5⟩ := h
  exact ⟨⟨by omega, by omega⟩, ⟨by omega, by omega⟩, ⟨by omega, by omega⟩⟩
/-- what between asks of sizes -/
theorem btw_ok {m n k l M W M2 W2 M3 W3 : Int} {p q : P3} {f : P2} (hp : Bd3 99 5 p) (hq : Bd3 m n q) (hf : Bd2 k l f) (e1 : m * 5 + 99 * n ≤ M) (e2 : n * 5 ≤ W) (e3 : M * k ≤ M2) (e4 : W * l ≤ W2) (e5 : 99 * W2 + M2 * 5 ≤ M3) (e6 : 5 * W2 ≤ W3)
    (g1 : M ≤ 1000000000) (g2 : W ≤ 30000) (g3 : M2 ≤ 1000000000) (g4 : W2 ≤ 30000) (g5 : M3 ≤ 1000000000) (g6 : W3 ≤ 1000000000) : Sm3 (pGap q p) ∧ Sm3 (pTimes (pGap q p) f) ∧ Bd3 M3 W3 (pBtw p q f) := by
  have a := Bd3.gap (M := M) (W := W) hq hp (by omega) (by omega)
  obtain ⟨b, _⟩ := Bd3.times (M := M2) (W := W2) a hf.n0 hf.n1 hf.fr.1 hf.d1 e3 e4 g3 (by omega)
  obtain ⟨c, _⟩ := Bd3.sum (M := M3) (W := W3) hp b e5 e6 g5 g6
  exact ⟨a.sm g1 g2, b.sm g3 g4, c⟩
def spBtwR : Sp := fun vs H Q _ => ∃ (u v t z : V) (p q : P3) (f g : P2), vs = [u, v, t, z] ∧ At3 H u p ∧ At3 H v q ∧ At2 H t f ∧ At2 H z g ∧ Bd3 99 5 p ∧ Bd3 99 5 q ∧ Bd2 6 4 f ∧ Bd2 6 4 g ∧ ∀ H', Same H H' → Q (.bl true) H'
section
variable {P : Program} {w : World} {K : PySem.W.Frag} {mg : Str → Option Value} {base : Heap} {f : Addr} {fd : FuncData} {Ad : Nat → Addr} {Dd : Nat → FuncData}
theorem scLBetweenRight : FnScope ["_law_one", "_law_two", "_law_share_here", "_law_more", "_law_told"] ["_law_one", "_law_two", "_law_share_here", "_law_more"] (defScope (top 62)) := ⟨rfl, rfl, rfl, by decide +kernel, rfl, by decide +kernel, by decide +kernel⟩
theorem bindsLBetweenRight (F : FnP K "_law_between_right" (top 62) f fd) : Binds K fd ["_law_one", "_law_two", "_law_share_here", "_law_more"] [] := F.bindsN fun _ _ _ _ _ _ us hl => match us, hl with | [_, _, _, _], _ => rfl
theorem Pg.oLBetweenRight (T : Pg K mg Ad Dd) (N : Nm mg) : FnG P w K mg base CX0 6 (Ad 62) (Dd 62) ["_law_one", "_law_two", "_law_share_here", "_law_more"] (spBtwR) := by
  refine fnG_of (T.fn 62 "_law_between_right" rfl).1 scLBetweenRight (fun vs H Q E h => ?_) (fun cdv A outer s H vs Q E hgd hr h => ?_)
  · obtain ⟨u, v, t, z, p, q, f, g, rfl, _⟩ := h
    rfl
  · obtain ⟨u, v, _, z, p, q, ⟨n, m⟩, g, rfl, h1, h2, ⟨a3, rfl, e3⟩, h4, b1, b2, b3, b4, k⟩ := h
    have hu := hr.units
    have rp := N.repr
    have hr5 : Room 5 _ := hr.mono (by decide)
    have hr4 : Room 4 _ := hr.mono (by decide)
    have hr3 : Room 3 _ := hr.mono (by decide)
    have hr2 : Room 2 _ := hr.mono (by decide)
    have hr1 : Room 1 _ := hr.mono (by decide)
    refine ⟨_, PSs.nox (pss_cons (ps_set (i := 4) scLBetweenRight.nd rfl (.inl rfl) (pe_call (T.oBtw N) hr5 rfl (T.fn 37 "between" rfl).2 (T.fn 37 "between" rfl).1.kp (bindsBtw (T.fn 37 "between" rfl).1) .nil pass0 (pa_cons (pv 0) (pa_cons (pv 1) (pa_cons (pv 2) pa_nil))))) (pss_cons (ps_if (pt_cmpR op_ne (pe_callB (call_reprD hgd hu) (by rfl) rp (by decide +kernel) (pa_cons (pv 4) pa_nil)) (pe_callB (call_reprD hgd hu) (by rfl) rp (by decide +kernel) (pa_cons (pe_call (T.oLMidway N) hr3 rfl (T.fn 53 "_law_midway" rfl).2 (T.fn 53 "_law_midway" rfl).1.kp (bindsLMidway (T.fn 53 "_law_midway" rfl).1) .nil pass0 (pa_cons (pv 0) (pa_cons (pv 1) (pa_cons (pv 2) pa_nil)))) pa_nil)) (nomark _)) (pss_one (ps_ret pe_bl)) pss_nil) (pss_cons (ps_if (pt_cmpR op_ne (pe_callB (call_reprD hgd hu) (by rfl) rp (by decide +kernel) (pa_cons (pe_callK0 (T.oBtw N) hr5 rfl (T.fn 37 "between" rfl).2 (T.fn 37 "between" rfl).1.kp (kb3 (ks := ["point", "other", "fraction"]) rfl (fun s a b c => kbD (T.fn 37 "between" rfl).1 (fun _ _ _ _ _ _ => rfl) s)) pass0 (pk_cons (pv 1) (pk_cons (pv 0) (pk_cons (pe_call (T.oLSum N) hr3 rfl (T.fn 49 "_law_sum" rfl).2 (T.fn 49 "_law_sum" rfl).1.kp (bindsLSum (T.fn 49 "_law_sum" rfl).1) .nil pass0 (pa_cons (pe_tup (pa_cons (pe_int) (pa_cons (pe_int) pa_nil))) (pa_cons (pe_tup (pa_cons (pe_op op_sub (pe_int) (pe_ix ix_tup (pv 2) pe_int (fun _ _ => rfl))) (pa_cons (pe_ix ix_tup (pv 2) pe_int (fun _ _ => rfl)) pa_nil))) pa_nil))) pk_nil)))) pa_nil)) (pe_callB (call_reprD hgd hu) (by rfl) rp (by decide +kernel) (pa_cons (pv 4) pa_nil)) (nomark _)) (pss_one (ps_ret pe_bl)) pss_nil) (pss_cons (ps_if (pt_cmpR op_ne (pe_callB (call_reprD hgd hu) (by rfl) rp (by decide +kernel) (pa_cons (pe_lst (pa_cons (pe_call (T.oBtw N) hr5 rfl (T.fn 37 "between" rfl).2 (T.fn 37 "between" rfl).1.kp (bindsBtw (T.fn 37 "between" rfl).1) .nil pass0 (pa_cons (pv 0) (pa_cons (pv 1) (pa_cons (pe_tup (pa_cons (pe_int) (pa_cons (pe_int) pa_nil))) pa_nil)))) (pa_cons (pe_call (T.oBtw N) hr5 rfl (T.fn 37 "between" rfl).2 (T.fn 37 "between" rfl).1.kp (bindsBtw (T.fn 37 "between" rfl).1) .nil pass0 (pa_cons (pv 0) (pa_cons (pv 1) (pa_cons (pe_tup (pa_cons (pe_int) (pa_cons (pe_int) pa_nil))) pa_nil)))) pa_nil))) pa_nil)) (pe_callB (call_reprD hgd hu) (by rfl) rp (by decide +kernel) (pa_cons (pe_lst (pa_cons (pv 0) (pa_cons (pv 1) pa_nil))) pa_nil)) (nomark _)) (pss_one (ps_ret pe_bl)) pss_nil) (pss_one (ps_ret (pe_cmpR op_eq (pe_callB (call_reprD hgd hu) (by rfl) rp (by decide +kernel) (pa_cons (pe_call (T.oBtw N) hr5 rfl (T.fn 37 "between" rfl).2 (T.fn 37 "between" rfl).1.kp (bindsBtw (T.fn 37 "between" rfl).1) .nil pass0 (pa_cons (pv 0) (pa_cons (pv 4) (pa_cons (pv 3) pa_nil)))) pa_nil)) (pe_callB (call_reprD hgd hu) (by rfl) rp (by decide +kernel) (pa_cons (pe_call (T.oBtw N) hr5 rfl (T.fn 37 "between" rfl).2 (T.fn 37 "between" rfl).1.kp (bindsBtw (T.fn 37 "between" rfl).1) .nil pass0 (pa_cons (pv 0) (pa_cons (pv 1) (pa_cons (pe_call (T.oLBy N) hr3 rfl (T.fn 50 "_law_by" rfl).2 (T.fn 50 "_law_by" rfl).1.kp (bindsLBy (T.fn 50 "_law_by" rfl).1) .nil pass0 (pa_cons (pv 2) (pa_cons (pv 3) pa_nil))) pa_nil)))) pa_nil)) (nomark _)))))))), ?_⟩
    have h3 : At2 H (.ref a3) ⟨n, m⟩ := ⟨a3, rfl, e3⟩
    have c1 := b1.sm (by decide) (by decide)
    have c2 := b2.sm (by decide) (by decide)
    have c3 := b3.sm (by decide) (by decide)
    have c4 := b4.sm (by decide) (by decide)
    have l1 := b1.li (by decide) (by decide)
    have l2 := b2.li (by decide) (by decide)
    have l3 := b3.li (by decide) (by decide)
    have l4 := b4.li (by decide) (by decide)
    have w1 := b1.pt.1
    have w2 := b2.pt.1
    have f0 : 0 < m := b3.fr.1
    have f1 : m ≤ 4 := b3.d1
    have f2 : -6 ≤ n := b3.n0
    have f3 : n ≤ 6 := b3.n1
    obtain ⟨s1, s2, s3⟩ := btw_ok (M := 990) (W := 25) (M2 := 5940) (W2 := 100) (M3 := 39600) (W3 := 500) b1 b2 b3 (by decide) (by decide) (by decide) (by decide) (by decide) (by decide) (by decide) (by decide) (by decide) (by decide) (by decide) (by decide)
    have lt := s3.li2 (by decide) (by decide)
    refine ⟨_, rfl, _, rfl, _, rfl, u, v, (.ref a3), p, q, ⟨n, m⟩, rfl, h1, h2, h3, b1.pt, b2.pt, b3.fr, c1, c2, c3, s1, s2, fun r1 H1 st1 k1 => ?_⟩
    refine ⟨_, rfl, ?_⟩
    obtain ⟨za1, zb1, zc1, zd1⟩ := rrD (K := K) (H := H1) (v := r1) (d := d3 (pBtw p q ⟨n, m⟩)) (At3.dp k1) (d3_sml lt)
    refine ⟨_, _, rfl, za1, zb1, zc1, zd1, ?_⟩
    generalize hz1 : (d3 (pBtw p q ⟨n, m⟩)).shown = sz1
    obtain ⟨y1, y2⟩ := Bd3.times (k := 10) (l := 4) (M := 990) (W := 20) (f := ⟨m - n, m⟩) b1 (by show -10 ≤ m - n; omega) (by show m - n ≤ 10; omega) f0 f1 (by decide) (by decide) (by decide) (by decide)
    obtain ⟨y3, y4⟩ := Bd3.times (k := 6) (l := 4) (M := 594) (W := 20) (f := ⟨n, m⟩) b2 f2 f3 f0 f1 (by decide) (by decide) (by decide) (by decide)
    obtain ⟨y5, y6⟩ := Bd3.sum (M := 31680) (W := 400) y1 y3 (by decide) (by decide) (by decide) (by decide)
    refine ⟨_, rfl, _, rfl, _, rfl, u, v, (.ref a3), p, q, ⟨n, m⟩, rfl, (At3.mono st1 h1), (At3.mono st1 h2), (At2.mono st1 h3), l1, l2, l3, y2, y4, y1.li2 (by decide) (by decide), y3.li2 (by decide) (by decide), y6, fun r2 H2 st2 k2 => ?_⟩
    rw [← mid_btw (f := ⟨n, m⟩) w1 w2 f0] at k2
    obtain ⟨za2, zb2, zc2, zd2⟩ := rrD (K := K) (H := H2) (v := r2) (d := d3 (pBtw p q ⟨n, m⟩)) (At3.dp k2) (d3_sml lt)
    refine ⟨_, _, rfl, za2, zb2, zc2, zd2, ?_⟩
    rw [hz1]
    refine ⟨rfl, _, rfl, iteNS rfl ?_⟩
    refine ⟨_, rfl, ?_⟩
    refine ⟨_, rfl, ?_⟩
    refine ⟨(by show 2 ≤ sizeLine; decide), fun ad3 ae3 => ?_⟩
    have st3 := sameNew (o := .tup [V.int 1, V.int 1]) ae3
    refine ⟨_, rfl, a3, _, 0, .int n, rfl, rfl, SqT.of ((st1.trans (st2.trans st3)) _ _ e3), rfl, 0, n, rfl, rfl, _, rfl, a3, _, 1, .int m, rfl, rfl, SqT.of ((st1.trans (st2.trans st3)) _ _ e3), rfl, ?_⟩
    refine ⟨(by show 2 ≤ sizeLine; decide), fun ad4 ae4 => ?_⟩
    have st4 := sameNew (o := .tup [V.int (0 - n), V.int m]) ae4
    have fs := fsum_v (f := ⟨1, 1⟩) (g := ⟨0 - n, m⟩) (by decide) f0
    have fb : Bd2 10 4 (fSum ⟨1, 1⟩ ⟨0 - n, m⟩) := part_bd (mul_ne (a := 1) (by decide) f0) (by show -10 ≤ 1 * m + (0 - n) * 1; omega) (by show 1 * m + (0 - n) * 1 ≤ 10; omega) (by show -4 ≤ 1 * m; omega) (by show 1 * m ≤ 4; omega)
    refine ⟨(.ref ad3), (.ref ad4), ⟨1, 1⟩, ⟨0 - n, m⟩, rfl, (At2.mono st4 (⟨ad3, rfl, upd_same⟩ : At2 (upd H2 ad3 (.tup [V.int 1, V.int 1])) (.ref ad3) ⟨1, 1⟩)), (⟨ad4, rfl, upd_same⟩ : At2 (upd (upd H2 ad3 (.tup [V.int 1, V.int 1])) ad4 (.tup [V.int (0 - n), V.int m])) (.ref ad4) ⟨0 - n, m⟩), ⟨⟨by decide, by decide⟩, ⟨by decide, by decide⟩⟩, ⟨⟨by show -1000000000 ≤ 0 - n; omega, by show 0 - n ≤ 1000000000; omega⟩, ⟨by show -1000000000 ≤ m; omega, by show m ≤ 1000000000; omega⟩⟩, ⟨⟨by show -1000000000 ≤ 1 * m + (0 - n) * 1; omega, by show 1 * m + (0 - n) * 1 ≤ 1000000000; omega⟩, ⟨by show -1000000000 ≤ 1 * m; omega, by show 1 * m ≤ 1000000000; omega⟩, mul_ne (a := 1) (by decide) f0⟩, fun r5 H5 st5 k5 => ?_⟩
    obtain ⟨q1, q2, q3⟩ := btw_ok (M := 990) (W := 25) (M2 := 9900) (W2 := 100) (M3 := 59400) (W3 := 500) b2 b1 fb (by decide) (by decide) (by decide) (by decide) (by decide) (by decide) (by decide) (by decide) (by decide) (by decide) (by decide) (by decide)
    refine ⟨v, u, r5, q, p, fSum ⟨1, 1⟩ ⟨0 - n, m⟩, rfl, (At3.mono (st1.trans (st2.trans (st3.trans (st4.trans st5)))) h2), (At3.mono (st1.trans (st2.trans (st3.trans (st4.trans st5)))) h1), k5, b2.pt, b1.pt, fb.fr, c2, c1, fb.sm (by decide) (by decide), q1, q2, fun r6 H6 st6 k6 => ?_⟩
    rw [btw_turn (f := ⟨n, m⟩) w1 w2 f0] at k6
    obtain ⟨za3, zb3, zc3, zd3⟩ := rrD (K := K) (H := H6) (v := r6) (d := d3 (pBtw p q ⟨n, m⟩)) (At3.dp k6) (d3_sml lt)
    refine ⟨_, _, rfl, za3, zb3, zc3, zd3, ?_⟩
    generalize hz3 : (d3 (pBtw p q ⟨n, m⟩)).shown = sz3
    refine ⟨_, rfl, ?_⟩
    obtain ⟨za4, zb4, zc4, zd4⟩ := rrD (K := K) (H := H6) (v := r1) (d := d3 (pBtw p q ⟨n, m⟩)) (At3.dp (At3.mono (st2.trans (st3.trans (st4.trans (st5.trans st6)))) k1)) (d3_sml lt)
    refine ⟨_, _, rfl, za4, zb4, zc4, zd4, ?_⟩
    rw [hz3]
    refine ⟨rfl, _, rfl, iteNS rfl ?_⟩
    have z1 : Bd2 1 1 ⟨0, 1⟩ := ⟨nul_fr, by decide, by decide, by decide⟩
    have z2 : Bd2 1 1 ⟨1, 1⟩ := ⟨one_fr, by decide, by decide, by decide⟩
    obtain ⟨x1, x2, _⟩ := btw_ok (M := 990) (W := 25) (M2 := 990) (W2 := 25) (M3 := 7425) (W3 := 125) b1 b2 z1 (by decide) (by decide) (by decide) (by decide) (by decide) (by decide) (by decide) (by decide) (by decide) (by decide) (by decide) (by decide)
    obtain ⟨x3, x4, _⟩ := btw_ok (M := 990) (W := 25) (M2 := 990) (W2 := 25) (M3 := 7425) (W3 := 125) b1 b2 z2 (by decide) (by decide) (by decide) (by decide) (by decide) (by decide) (by decide) (by decide) (by decide) (by decide) (by decide) (by decide)
    refine ⟨_, rfl, ?_⟩
    refine ⟨_, rfl, ?_⟩
    refine ⟨(by show 2 ≤ sizeLine; decide), fun ad7 ae7 => ?_⟩
    have st7 := sameNew (o := .tup [V.int 0, V.int 1]) ae7
    refine ⟨u, v, (.ref ad7), p, q, ⟨0, 1⟩, rfl, (At3.mono (st1.trans (st2.trans (st3.trans (st4.trans (st5.trans (st6.trans st7)))))) h1), (At3.mono (st1.trans (st2.trans (st3.trans (st4.trans (st5.trans (st6.trans st7)))))) h2), (⟨ad7, rfl, upd_same⟩ : At2 (upd H6 ad7 (.tup [V.int 0, V.int 1])) (.ref ad7) ⟨0, 1⟩), b1.pt, b2.pt, z1.fr, c1, c2, z1.sm (by decide) (by decide), x1, x2, fun r8 H8 st8 k8 => ?_⟩
    rw [btw_zero b1.pt w2] at k8
    refine ⟨_, rfl, ?_⟩
    refine ⟨_, rfl, ?_⟩
    refine ⟨(by show 2 ≤ sizeLine; decide), fun ad9 ae9 => ?_⟩
    have st9 := sameNew (o := .tup [V.int 1, V.int 1]) ae9
    refine ⟨u, v, (.ref ad9), p, q, ⟨1, 1⟩, rfl, (At3.mono (st1.trans (st2.trans (st3.trans (st4.trans (st5.trans (st6.trans (st7.trans (st8.trans st9)))))))) h1), (At3.mono (st1.trans (st2.trans (st3.trans (st4.trans (st5.trans (st6.trans (st7.trans (st8.trans st9)))))))) h2), (⟨ad9, rfl, upd_same⟩ : At2 (upd H8 ad9 (.tup [V.int 1, V.int 1])) (.ref ad9) ⟨1, 1⟩), b1.pt, b2.pt, z2.fr, c1, c2, z2.sm (by decide) (by decide), x3, x4, fun r10 H10 st10 k10 => ?_⟩
    rw [btw_one w1 b2.pt] at k10
    refine ⟨(by show 2 ≤ sizeLine; decide), fun ad11 ae11 => ?_⟩
    have st11 := sameNew (o := .lst [r8, r10]) ae11
    obtain ⟨za5, zb5, zc5, zd5⟩ := rrL (K := K) (H := (upd H10 ad11 (.lst [r8, r10]))) (r := ad11) (ds := [d3 p, d3 q]) upd_same (.cons (At3.dp (At3.mono (st9.trans (st10.trans st11)) k8)) (.cons (At3.dp (At3.mono st11 k10)) .nil)) (mem2 (d3_sml l1) (d3_sml l2)) (by show 2 ≤ 100; decide)
    refine ⟨_, _, rfl, za5, zb5, zc5, zd5, ?_⟩
    generalize hz5 : (PyData.list [d3 p, d3 q]).shown = sz5
    refine ⟨_, rfl, ?_⟩
    refine ⟨_, rfl, ?_⟩
    refine ⟨(by show 2 ≤ sizeLine; decide), fun ad12 ae12 => ?_⟩
    have st12 := sameNew (o := .lst [u, v]) ae12
    obtain ⟨za6, zb6, zc6, zd6⟩ := rrL (K := K) (H := (upd (upd H10 ad11 (.lst [r8, r10])) ad12 (.lst [u, v]))) (r := ad12) (ds := [d3 p, d3 q]) upd_same (.cons (At3.dp (At3.mono (st1.trans (st2.trans (st3.trans (st4.trans (st5.trans (st6.trans (st7.trans (st8.trans (st9.trans (st10.trans (st11.trans st12))))))))))) h1)) (.cons (At3.dp (At3.mono (st1.trans (st2.trans (st3.trans (st4.trans (st5.trans (st6.trans (st7.trans (st8.trans (st9.trans (st10.trans (st11.trans st12))))))))))) h2)) .nil)) (mem2 (d3_sml l1) (d3_sml l2)) (by show 2 ≤ 100; decide)
    refine ⟨_, _, rfl, za6, zb6, zc6, zd6, ?_⟩
    rw [hz5]
    refine ⟨rfl, _, rfl, iteNS rfl ?_⟩
    obtain ⟨v1, v2, v3⟩ := btw_ok (M := 247500) (W := 2500) (M2 := 1485000) (W2 := 10000) (M3 := 8415000) (W3 := 50000) b1 s3 b4 (by decide) (by decide) (by decide) (by decide) (by decide) (by decide) (by decide) (by decide) (by decide) (by decide) (by decide) (by decide)
    have g0 := b4.fr.1
    have fy := fby_v (f := ⟨n, m⟩) (g := g) f0 g0
    have m1 := mul_bd (a := n) (b := g.n) f2 f3 b4.n0 b4.n1
    have m2 := mul_ps (a := m) (b := g.d) f0 f1 g0 b4.d1
    have yb : Bd2 36 16 (fBy ⟨n, m⟩ g) := part_bd (mul_ne f0 g0) (by show -36 ≤ n * g.n; omega) (by show n * g.n ≤ 36; omega) (by show -16 ≤ m * g.d; omega) (by show m * g.d ≤ 16; omega)
    obtain ⟨v4, v5, v6⟩ := btw_ok (M := 990) (W := 25) (M2 := 35640) (W2 := 400) (M3 := 217800) (W3 := 2000) b1 b2 yb (by decide) (by decide) (by decide) (by decide) (by decide) (by decide) (by decide) (by decide) (by decide) (by decide) (by decide) (by decide)
    have le := v6.li2 (by decide) (by decide)
    refine ⟨_, rfl, _, rfl, _, rfl, u, r1, z, p, pBtw p q ⟨n, m⟩, g, rfl, (At3.mono (st1.trans (st2.trans (st3.trans (st4.trans (st5.trans (st6.trans (st7.trans (st8.trans (st9.trans (st10.trans (st11.trans st12))))))))))) h1), (At3.mono (st2.trans (st3.trans (st4.trans (st5.trans (st6.trans (st7.trans (st8.trans (st9.trans (st10.trans (st11.trans st12)))))))))) k1), (At2.mono (st1.trans (st2.trans (st3.trans (st4.trans (st5.trans (st6.trans (st7.trans (st8.trans (st9.trans (st10.trans (st11.trans st12))))))))))) h4), b1.pt, s3.pt, b4.fr, c1, s3.sm (by decide) (by decide), c4, v1, v2, fun r13 H13 st13 k13 => ?_⟩
    rw [btw_btw (f := ⟨n, m⟩) w1 w2 f0 g0] at k13
    obtain ⟨za7, zb7, zc7, zd7⟩ := rrD (K := K) (H := H13) (v := r13) (d := d3 (pBtw p q (fBy ⟨n, m⟩ g))) (At3.dp k13) (d3_sml le)
    refine ⟨_, _, rfl, za7, zb7, zc7, zd7, ?_⟩
    generalize hz7 : (d3 (pBtw p q (fBy ⟨n, m⟩ g))).shown = sz7
    refine ⟨_, rfl, ?_⟩
    refine ⟨_, rfl, ?_⟩
    refine ⟨_, rfl, _, rfl, (.ref a3), z, ⟨n, m⟩, g, rfl, (At2.mono (st1.trans (st2.trans (st3.trans (st4.trans (st5.trans (st6.trans (st7.trans (st8.trans (st9.trans (st10.trans (st11.trans (st12.trans st13)))))))))))) h3), (At2.mono (st1.trans (st2.trans (st3.trans (st4.trans (st5.trans (st6.trans (st7.trans (st8.trans (st9.trans (st10.trans (st11.trans (st12.trans st13)))))))))))) h4), l3, l4, ⟨⟨by show -1000000000 ≤ n * g.n; omega, by show n * g.n ≤ 1000000000; omega⟩, ⟨by show -1000000000 ≤ m * g.d; omega, by show m * g.d ≤ 1000000000; omega⟩, mul_ne f0 g0⟩, fun r14 H14 st14 k14 => ?_⟩
    refine ⟨u, v, r14, p, q, fBy ⟨n, m⟩ g, rfl, (At3.mono (st1.trans (st2.trans (st3.trans (st4.trans (st5.trans (st6.trans (st7.trans (st8.trans (st9.trans (st10.trans (st11.trans (st12.trans (st13.trans st14))))))))))))) h1), (At3.mono (st1.trans (st2.trans (st3.trans (st4.trans (st5.trans (st6.trans (st7.trans (st8.trans (st9.trans (st10.trans (st11.trans (st12.trans (st13.trans st14))))))))))))) h2), k14, b1.pt, b2.pt, yb.fr, c1, c2, yb.sm (by decide) (by decide), v4, v5, fun r15 H15 st15 k15 => ?_⟩
    obtain ⟨za8, zb8, zc8, zd8⟩ := rrD (K := K) (H := H15) (v := r15) (d := d3 (pBtw p q (fBy ⟨n, m⟩ g))) (At3.dp k15) (d3_sml le)
    refine ⟨_, _, rfl, za8, zb8, zc8, zd8, ?_⟩
    rw [hz7]
    refine ⟨rfl, ?_⟩
    rw [decide_eq_true (show V.str sz7 = V.str sz7 from rfl)]
    exact k _ (st1.trans (st2.trans (st3.trans (st4.trans (st5.trans (st6.trans (st7.trans (st8.trans (st9.trans (st10.trans (st11.trans (st12.trans (st13.trans (st14.trans st15))))))))))))))
end
end K2
namespace K2
open PySem PySem.Spec PyProof.Rows L2
theorem sgn_mul {g z : Int} (h : 0 < g) : sgnZ (g * z) = sgnZ z := by
  unfold sgnZ
  rcases Int.lt_trichotomy z 0 with q | q | q
  · have : g * z < 0 := Int.mul_neg_of_pos_of_neg h q
    rw [if_neg (by omega), if_pos this, if_neg (by omega), if_pos q]
  · subst q
    rw [Int.mul_zero]
  · have : 0 < g * z := Int.mul_pos h q
    rw [if_pos this, if_pos q]
theorem sgn_neg (z : Int) : sgnZ (-z) = - sgnZ z := by
  unfold sgnZ
  rcases Int.lt_trichotomy z 0 with q | q | q
  · rw [if_pos (by omega), if_neg (by omega), if_pos q]
    rfl
  · subst q
    rfl
  · rw [if_neg (by omega), if_pos (by omega), if_pos q]
theorem turn_left (p q r : P3) : turnZ p q r = p.w * leftZ p q r := by
  unfold turnZ leftZ zx zy
  grind
theorem left_cyc (p q r : P3) : leftZ q r p = leftZ p q r := by
  unfold leftZ
  grind
theorem left_swap (p q r : P3) : leftZ q p r = - leftZ p q r := by
  unfold leftZ
  grind
theorem turn_aa (p r : P3) : turnZ p p r = 0 := by
  unfold turnZ zx zy
  grind
theorem turn_bb (p q : P3) : turnZ p q q = 0 := by
  unfold turnZ zx zy
  grind
theorem ex3g {x y w : Int} (hg : 1 ≤ g3 x y w) : ∃ a b c : Int, x = g3 x y w * a ∧ y = g3 x y w * b ∧ w = g3 x y w * c ∧ nm3 x y w = ⟨a, b, c⟩ ∧ g3 a b c = 1 := by
  obtain ⟨a, ha⟩ := g3_x x y w
  obtain ⟨b, hb⟩ := g3_y x y w
  obtain ⟨c, hc⟩ := g3_w x y w
  refine ⟨a, b, c, ha, hb, hc, ?_, ?_⟩
  · have q : ∀ {u v : Int}, u = g3 x y w * v → u / g3 x y w = v := fun {u v} e => by
      have e2 : u / g3 x y w = (g3 x y w * v) / g3 x y w := congrArg (· / g3 x y w) e
      rw [e2, Int.mul_ediv_cancel_left _ (show g3 x y w ≠ 0 by omega)]
    unfold nm3
    rw [q ha, q hb, q hc]
  · have e : g3 x y w = g3 x y w * g3 a b c := by
      have z := g3_scale (k := g3 x y w) (x := a) (y := b) (w := c) (by omega)
      rw [← ha, ← hb, ← hc] at z
      exact z
    have e2 : g3 x y w * 1 = g3 x y w * g3 a b c := by rw [Int.mul_one]; exact e
    exact (Int.eq_of_mul_eq_mul_left (show g3 x y w ≠ 0 by omega) e2).symm
/-- the numbers of a side before they are divided -/
def sa (p q : P3) : Int := p.w * q.y - p.y * q.w
def sb (p q : P3) : Int := p.x * q.w - p.w * q.x
def sc (p q : P3) : Int := p.x * q.y - p.y * q.x
theorem rim_eq (p q : P3) : pRim p q = nm3 (sa p q) (sb p q) (sc p q) := rfl
theorem same_of {p q : P3} (hp : Pt p) (hq : Pt q) (h1 : sa p q = 0) (h2 : sb p q = 0) : p = q := by
  have w1 := rat_ne (show p.w ≠ 0 by have := hp.1; omega)
  have w2 := rat_ne (show q.w ≠ 0 by have := hq.1; omega)
  have e1 : p.x * q.w = p.w * q.x := by unfold sb at h2; omega
  have e2 : p.w * q.y = p.y * q.w := by unfold sa at h1; omega
  have r1 : (p.x : Rat) * (q.w : Rat) = (p.w : Rat) * (q.x : Rat) := by rw [← Rat.intCast_mul, ← Rat.intCast_mul, e1]
  have r2 : (p.w : Rat) * (q.y : Rat) = (p.y : Rat) * (q.w : Rat) := by rw [← Rat.intCast_mul, ← Rat.intCast_mul, e2]
  refine pt_ext hp hq ?_ ?_
  · unfold vx
    grind
  · unfold vy
    grind
theorem side_g {p q : P3} (hp : Pt p) (hq : Pt q) (ne : p ≠ q) : 1 ≤ g3 (sa p q) (sb p q) (sc p q) := by
  have pos : 0 < ((sa p q).natAbs.gcd (sb p q).natAbs).gcd (sc p q).natAbs := by
    refine Nat.gcd_pos_of_pos_left _ ?_
    by_cases z : sa p q = 0
    · by_cases z2 : sb p q = 0
      · exact absurd (same_of hp hq z z2) ne
      · exact Nat.gcd_pos_of_pos_right _ (Int.natAbs_pos.mpr z2)
    · exact Nat.gcd_pos_of_pos_left _ (Int.natAbs_pos.mpr z)
  unfold g3
  omega
theorem g3_lt {x y w m : Int} (hx : x ≠ 0 ∨ y ≠ 0) (x0 : -m ≤ x) (x1 : x ≤ m) (y0 : -m ≤ y) (y1 : y ≤ m) : g3 x y w ≤ m := by
  rcases hx with h | h
  · have := Int.le_of_dvd (show 0 < (x.natAbs : Int) by omega) (Int.dvd_natAbs.mpr (g3_x x y w))
    omega
  · have := Int.le_of_dvd (show 0 < (y.natAbs : Int) by omega) (Int.dvd_natAbs.mpr (g3_y x y w))
    omega
theorem bnd_eq {p q : P3} (hp : 0 < p.w) : bndF p q = ⟨sc p q, 1⟩ := by
  have e : zy p q * p.x + -zx p q * p.y = p.w * sc p q := by
    unfold zy zx sc
    grind
  have g : g2 (p.w * sc p q) p.w = p.w := by
    have z := g2_scale (k := p.w) (x := sc p q) (y := 1) (by omega)
    rw [Int.mul_one] at z
    rw [z]
    unfold g2
    rw [show (1 : Int).natAbs = 1 from rfl, Nat.gcd_one_right]
    show p.w * 1 = p.w
    rw [Int.mul_one]
  unfold bndF nm2
  rw [e, g, Int.mul_ediv_cancel_left _ (show p.w ≠ 0 by omega), Int.ediv_self (show p.w ≠ 0 by omega)]
theorem zy_sa (p q : P3) : zy p q = sa p q := by
  unfold zy sa
  grind
theorem zx_sb (p q : P3) : -zx p q = sb p q := by
  unfold zx sb
  grind
theorem gside_eq {p q : P3} (hp : 0 < p.w) : gSide p q = g3 (sa p q) (sb p q) (sc p q) := by
  unfold gSide
  rw [bnd_eq hp, zy_sa, zx_sb]
  show g3 (sa p q * 1) (sb p q * 1) (sc p q) = _
  rw [Int.mul_one, Int.mul_one]
theorem pside_eq {p q : P3} (hp : 0 < p.w) : pSide p q = pRim p q := by
  unfold pSide
  rw [bnd_eq hp, zy_sa, zx_sb, rim_eq]
  show nm3 (sa p q * 1) (sb p q * 1) (sc p q) = _
  rw [Int.mul_one, Int.mul_one]
theorem rim_sd {p q : P3} (hp : Pt p) (hq : Pt q) (ne : p ≠ q) : Sd (pRim p q) := by
  have hg := side_g hp hq ne
  obtain ⟨a, b, c, ha, hb, hc, e, u⟩ := ex3g hg
  rw [rim_eq, e]
  refine ⟨fun z => ?_, u⟩
  obtain ⟨z1, z2⟩ := z
  dsimp only at z1 z2
  rw [z1, Int.mul_zero] at ha
  rw [z2, Int.mul_zero] at hb
  exact ne (same_of hp hq ha hb)
/-- over the side, times what it was divided by -/
theorem over_left {p q r : P3} (hp : Pt p) (hq : Pt q) (ne : p ≠ q) : g3 (sa p q) (sb p q) (sc p q) * overZ (pRim p q) r = - leftZ p q r := by
  have hg := side_g hp hq ne
  obtain ⟨a, b, c, ha, hb, hc, e, u⟩ := ex3g hg
  have e2 : sa p q * r.x + sb p q * r.y - sc p q * r.w = - leftZ p q r := by
    unfold sa sb sc leftZ
    grind
  rw [rim_eq, e]
  unfold overZ
  dsimp only
  generalize g3 (sa p q) (sb p q) (sc p q) = g at ha hb hc
  rw [ha, hb, hc] at e2
  grind
theorem over_sgn {p q r : P3} (hp : Pt p) (hq : Pt q) (ne : p ≠ q) : sgnZ (overZ (pRim p q) r) = - sgnZ (leftZ p q r) := by
  have hg := side_g hp hq ne
  rw [← sgn_mul (g := g3 (sa p q) (sb p q) (sc p q)) (by omega), over_left hp hq ne, sgn_neg]
theorem over_zero {p q r : P3} (hp : Pt p) (hq : Pt q) (ne : p ≠ q) (h : leftZ p q r = 0) : overZ (pRim p q) r = 0 := by
  have hg := side_g hp hq ne
  have z := over_left (r := r) hp hq ne
  rw [h] at z
  rcases Int.mul_eq_zero.mp (show g3 (sa p q) (sb p q) (sc p q) * overZ (pRim p q) r = 0 by omega) with y | y
  · omega
  · exact y
theorem sa_swap (p q : P3) : sa q p = - sa p q := by
  unfold sa
  grind
theorem sb_swap (p q : P3) : sb q p = - sb p q := by
  unfold sb
  grind
theorem sc_swap (p q : P3) : sc q p = - sc p q := by
  unfold sc
  grind
theorem over_swap {p q r : P3} (hp : Pt p) (hq : Pt q) (ne : p ≠ q) : overZ (pRim q p) r = - overZ (pRim p q) r := by
  have h1 := over_left (r := r) hp hq ne
  have h2 := over_left (r := r) hq hp (fun z => ne z.symm)
  have hg := side_g hp hq ne
  have e : g3 (sa q p) (sb q p) (sc q p) = g3 (sa p q) (sb p q) (sc p q) := by
    rw [sa_swap, sb_swap, sc_swap]
    unfold g3
    rw [Int.natAbs_neg, Int.natAbs_neg, Int.natAbs_neg]
  rw [e, left_swap] at h2
  generalize g3 (sa p q) (sb p q) (sc p q) = g at h1 h2 hg
  refine Int.eq_of_mul_eq_mul_left (show g ≠ 0 by omega) ?_
  rw [h2, Int.mul_neg, h1]
theorem nm2_neg (n d : Int) (h : d ≠ 0) : nm2 (-n) d = ⟨0 - (nm2 n d).n, (nm2 n d).d⟩ := by
  have hg := g2_pos (x := n) h
  have eg : g2 (-n) d = g2 n d := by
    unfold g2
    rw [Int.natAbs_neg]
  obtain ⟨a, b, ha, hb, e1, e2, _⟩ := ex2 hg
  unfold nm2
  dsimp only
  rw [eg, e1, e2]
  have e3 : -n = g2 n d * -a := by rw [Int.mul_neg, ← ha]
  rw [e3, Int.mul_ediv_cancel_left _ (show g2 n d ≠ 0 by omega), Int.zero_sub]
theorem nm2_zero {d : Int} (h : 0 < d) : nm2 0 d = ⟨0, 1⟩ := by
  have e : g2 0 d = d := by
    unfold g2
    rw [show (0 : Int).natAbs = 0 from rfl, Nat.gcd_zero_left]
    omega
  unfold nm2
  rw [e, Int.zero_ediv, Int.ediv_self (show d ≠ 0 by omega)]
theorem nm2_sgn {n d : Int} (h : 0 < d) : sgnZ (nm2 n d).n = sgnZ n := by
  have hg := g2_pos (x := n) (show d ≠ 0 by omega)
  obtain ⟨a, b, ha, hb, e1, e2, _⟩ := ex2 hg
  show sgnZ (n / g2 n d) = sgnZ n
  rw [e1]
  have z := sgn_mul (z := a) (show 0 < g2 n d by omega)
  rw [← ha] at z
  exact z.symm
theorem sgn_int (z : Int) : (if 0 < z then 1 else 0) - (if z < 0 then 1 else 0) = sgnZ z := by
  unfold sgnZ
  split <;> split <;> omega
end K2
namespace K2
open PySem PySem.Spec PyProof.Rows L2
theorem sgn_intB (z : Int) : ((if decide (0 < z) = true then 1 else 0) - (if decide (z < 0) = true then 1 else 0) : Int) = sgnZ z := by
  rw [← sgn_int z]
  simp only [decide_eq_true_eq]
theorem sgn_lim (z : Int) : Lim (sgnZ z) := by
  unfold sgnZ Lim
  split
  · omega
  · split <;> omega
theorem eqv3 (p q : P3) : PyData.eqv (d3 p) (d3 q) = (p.x == q.x && (p.y == q.y && p.w == q.w)) := by simp [d3, PyData.eqv, PyData.eqvAll]
/-- sizes about a side -/
structure RimB (p q : P3) : Prop where
  a0 : -990 ≤ sa p q
  a1 : sa p q ≤ 990
  b0 : -990 ≤ sb p q
  b1 : sb p q ≤ 990
  c0 : -19602 ≤ sc p q
  c1 : sc p q ≤ 19602
  zx : Sm (zx p q)
  zy : Sm (zy p q)
theorem rimB {p q : P3} (h : Bd3 99 5 p) (k : Bd3 99 5 q) : RimB p q := by
  obtain ⟨⟨w1, _⟩, x0, x1, y0, y1, z1⟩ := h
  obtain ⟨⟨w2, _⟩, u0, u1, v0, v1, t1⟩ := k
  have m1 := mul_bd (a := q.y) (b := p.w) (n := 5) v0 v1 (by omega) z1
  have m2 := mul_bd (a := p.y) (b := q.w) (n := 5) y0 y1 (by omega) t1
  have m3 := mul_bd (a := p.x) (b := q.w) (n := 5) x0 x1 (by omega) t1
  have m4 := mul_bd (a := q.x) (b := p.w) (n := 5) u0 u1 (by omega) z1
  have m5 := mul_bd (a := p.x) (b := q.y) x0 x1 v0 v1
  have m6 := mul_bd (a := p.y) (b := q.x) y0 y1 u0 u1
  have e1 : sa p q = q.y * p.w - p.y * q.w := by unfold sa; rw [Int.mul_comm p.w q.y]
  have e2 : sb p q = p.x * q.w - q.x * p.w := by unfold sb; rw [Int.mul_comm p.w q.x]
  have e3 : sc p q = p.x * q.y - p.y * q.x := rfl
  have e4 : K2.zx p q = q.x * p.w - p.x * q.w := rfl
  have e5 : K2.zy p q = q.y * p.w - p.y * q.w := rfl
  exact ⟨by omega, by omega, by omega, by omega, by omega, by omega, ⟨by omega, by omega⟩, ⟨by omega, by omega⟩⟩
structure RimC (l : P3) : Prop where
  a0 : -990 ≤ l.x
  a1 : l.x ≤ 990
  b0 : -990 ≤ l.y
  b1 : l.y ≤ 990
  c0 : -19602 ≤ l.w
  c1 : l.w ≤ 19602
theorem rimC {p q : P3} (B : RimB p q) (hp : Pt p) (hq : Pt q) (ne : p ≠ q) : RimC (pRim p q) := by
  have hg := side_g hp hq ne
  have a := div_bd hg B.a0 B.a1
  have b := div_bd hg B.b0 B.b1
  have c := div_bd hg B.c0 B.c1
  exact ⟨a.1, a.2, b.1, b.2, c.1, c.2⟩
theorem RimC.li {l : P3} (h : RimC l) : Li3 l := by
  obtain ⟨h1, h2, h3, h4, h5, h6⟩ := h
  exact ⟨⟨by omega, by omega⟩, ⟨by omega, by omega⟩, ⟨by omega, by omega⟩⟩
theorem over_bd {l r : P3} (h : RimC l) (k : Bd3 31680 400 r) : -71000000 ≤ overZ l r ∧ overZ l r ≤ 71000000 := by
  obtain ⟨h1, h2, h3, h4, h5, h6⟩ := h
  obtain ⟨⟨w2, _⟩, u0, u1, v0, v1, t1⟩ := k
  have m1 := mul_bd h1 h2 u0 u1
  have m2 := mul_bd h3 h4 v0 v1
  have m3 := mul_bd (b := r.w) (n := 400) h5 h6 (by omega) t1
  have e : overZ l r = l.x * r.x + l.y * r.y - l.w * r.w := rfl
  omega
theorem side_lt {p q : P3} (B : RimB p q) (hp : Pt p) (hq : Pt q) (ne : p ≠ q) : 1 ≤ gSide p q ∧ gSide p q < 1073741824 := by
  rw [gside_eq hp.1]
  refine ⟨side_g hp hq ne, ?_⟩
  have h : sa p q ≠ 0 ∨ sb p q ≠ 0 := by
    by_cases z : sa p q = 0
    · exact .inr fun z2 => ne (same_of hp hq z z2)
    · exact .inl z
  have := g3_lt (w := sc p q) h B.a0 B.a1 B.b0 B.b1
  omega
theorem ne3 {p q : P3} (ne : p ≠ q) : ¬ (p.x = q.x ∧ p.y = q.y ∧ p.w = q.w) := fun ⟨h1, h2, h3⟩ => ne (by
  obtain ⟨x, y, w⟩ := p
  obtain ⟨u, v, t⟩ := q
  dsimp only at h1 h2 h3
  rw [h1, h2, h3])
theorem Bd3.le {m n m' n' : Int} {p : P3} (h : Bd3 m n p) (e1 : m ≤ m') (e2 : n ≤ n') : Bd3 m' n' p := by
  obtain ⟨h0, h1, h2, h3, h4, h5⟩ := h
  exact ⟨h0, by omega, by omega, by omega, by omega, by omega⟩
theorem zxB {p q : P3} (h : Bd3 99 5 p) (k : Bd3 31680 400 q) : Sm (zx p q) ∧ Sm (zy p q) := by
  obtain ⟨⟨w1, _⟩, x0, x1, y0, y1, z1⟩ := h
  obtain ⟨⟨w2, _⟩, u0, u1, v0, v1, t1⟩ := k
  have m1 := mul_bd (a := q.y) (b := p.w) (n := 5) v0 v1 (by omega) z1
  have m2 := mul_bd (a := p.y) (b := q.w) (n := 400) y0 y1 (by omega) t1
  have m3 := mul_bd (a := p.x) (b := q.w) (n := 400) x0 x1 (by omega) t1
  have m4 := mul_bd (a := q.x) (b := p.w) (n := 5) u0 u1 (by omega) z1
  have e4 : K2.zx p q = q.x * p.w - p.x * q.w := rfl
  have e5 : K2.zy p q = q.y * p.w - p.y * q.w := rfl
  exact ⟨⟨by omega, by omega⟩, ⟨by omega, by omega⟩⟩
def spSenR : Sp := fun vs H Q _ => ∃ (u v t : V) (p q r : P3), vs = [u, v, t] ∧ At3 H u p ∧ At3 H v q ∧ At3 H t r ∧ Bd3 99 5 p ∧ Bd3 99 5 q ∧ Bd3 31680 400 r ∧ ∀ H', Same H H' → Q (.bl true) H'
section
variable {P : Program} {w : World} {K : PySem.W.Frag} {mg : Str → Option Value} {base : Heap} {f : Addr} {fd : FuncData} {Ad : Nat → Addr} {Dd : Nat → FuncData}
theorem scLSensesRight : FnScope ["_law_one", "_law_two", "_law_three", "_law_whole", "_law_due", "_law_told", "_law_rim", "_law_opposite", "_law_gap"] ["_law_one", "_law_two", "_law_three"] (defScope (top 63)) := ⟨rfl, rfl, rfl, by decide +kernel, rfl, by decide +kernel, by decide +kernel⟩
theorem bindsLSensesRight (F : FnP K "_law_senses_right" (top 63) f fd) : Binds K fd ["_law_one", "_law_two", "_law_three"] [] := F.bindsN fun _ _ _ _ _ _ us hl => match us, hl with | [_, _, _], _ => rfl
theorem Pg.oLSensesRight (T : Pg K mg Ad Dd) (N : Nm mg) : FnG P w K mg base CX0 6 (Ad 63) (Dd 63) ["_law_one", "_law_two", "_law_three"] (spSenR) := by
  refine fnG_of (T.fn 63 "_law_senses_right" rfl).1 scLSensesRight (fun vs H Q E h => ?_) (fun cdv A outer s H vs Q E hgd hr h => ?_)
  · obtain ⟨u, v, t, p, q, r, rfl, _⟩ := h
    rfl
  · obtain ⟨_, _, _, p, q, r, rfl, ⟨a1, rfl, e1⟩, ⟨a2, rfl, e2⟩, ⟨a3, rfl, e3⟩, b1, b2, b3, k⟩ := h
    have hu := hr.units
    have rp := N.repr
    have hr5 : Room 5 _ := hr.mono (by decide)
    have hr4 : Room 4 _ := hr.mono (by decide)
    have hr3 : Room 3 _ := hr.mono (by decide)
    have hr2 : Room 2 _ := hr.mono (by decide)
    have hr1 : Room 1 _ := hr.mono (by decide)
    refine ⟨_, PSs.nox (pss_cons (ps_set (i := 3) scLSensesRight.nd rfl (.inl rfl) (pe_call (T.oLLeft N) hr1 rfl (T.fn 55 "_law_left" rfl).2 (T.fn 55 "_law_left" rfl).1.kp (bindsLLeft (T.fn 55 "_law_left" rfl).1) .nil pass0 (pa_cons (pv 0) (pa_cons (pv 1) (pa_cons (pv 2) pa_nil))))) (pss_cons (ps_set (i := 4) scLSensesRight.nd rfl (.inl rfl) (pe_op op_sub (pe_callTy call_int1 (by rfl) N.int (by decide +kernel) (pa_cons (pe_cmpR op_gt (pv 3) pe_int (nomark _)) pa_nil)) (pe_callTy call_int1 (by rfl) N.int (by decide +kernel) (pa_cons (pe_cmpR op_lt (pv 3) pe_int (nomark _)) pa_nil)))) (pss_cons (ps_set (i := 5) scLSensesRight.nd rfl (.inl rfl) (pe_lst (pa_cons (pe_call (T.oSense N) hr5 rfl (T.fn 38 "sense" rfl).2 (T.fn 38 "sense" rfl).1.kp (bindsSense (T.fn 38 "sense" rfl).1) .nil pass0 (pa_cons (pv 0) (pa_cons (pv 1) (pa_cons (pv 2) pa_nil)))) (pa_cons (pe_call (T.oSense N) hr5 rfl (T.fn 38 "sense" rfl).2 (T.fn 38 "sense" rfl).1.kp (bindsSense (T.fn 38 "sense" rfl).1) .nil pass0 (pa_cons (pv 1) (pa_cons (pv 2) (pa_cons (pv 0) pa_nil)))) (pa_cons (pe_callK0 (T.oSense N) hr5 rfl (T.fn 38 "sense" rfl).2 (T.fn 38 "sense" rfl).1.kp (kb3 (ks := ["point", "other", "third"]) rfl (fun s a b c => kbD (T.fn 38 "sense" rfl).1 (fun _ _ _ _ _ _ => rfl) s)) pass0 (pk_cons (pv 1) (pk_cons (pv 0) (pk_cons (pv 2) pk_nil)))) pa_nil))))) (pss_cons (ps_if (PW.pt (pw_or (pt_cmpR op_ne (pe_callB (call_reprD hgd hu) (by rfl) rp (by decide +kernel) (pa_cons (pv 5) pa_nil)) (pe_callB (call_reprD hgd hu) (by rfl) rp (by decide +kernel) (pa_cons (pe_lst (pa_cons (pv 4) (pa_cons (pv 4) (pa_cons (pe_op op_sub (pe_int) (pv 4)) pa_nil)))) pa_nil)) (nomark _)) (pw_or1 (pt_cmpR op_ne (pe_callB (call_reprD hgd hu) (by rfl) rp (by decide +kernel) (pa_cons (pe_lst (pa_cons (pe_call (T.oSense N) hr5 rfl (T.fn 38 "sense" rfl).2 (T.fn 38 "sense" rfl).1.kp (bindsSense (T.fn 38 "sense" rfl).1) .nil pass0 (pa_cons (pv 0) (pa_cons (pv 0) (pa_cons (pv 2) pa_nil)))) (pa_cons (pe_call (T.oSense N) hr5 rfl (T.fn 38 "sense" rfl).2 (T.fn 38 "sense" rfl).1.kp (bindsSense (T.fn 38 "sense" rfl).1) .nil pass0 (pa_cons (pv 0) (pa_cons (pv 1) (pa_cons (pv 1) pa_nil)))) pa_nil))) pa_nil)) (pe_str) (nomark _))))) (pss_one (ps_ret pe_bl)) pss_nil) (pss_cons (ps_if (pt_cmpR (op_eqD hu) (pv 0) (pv 1) (nomark _)) (pss_one (ps_ret pe_bl)) pss_nil) (pss_cons (ps_set (i := 6) scLSensesRight.nd rfl (.inl rfl) (pe_call (T.oSideT N) hr5 rfl (T.fn 39 "side_through" rfl).2 (T.fn 39 "side_through" rfl).1.kp (bindsSideT (T.fn 39 "side_through" rfl).1) .nil pass0 (pa_cons (pv 0) (pa_cons (pv 1) pa_nil)))) (pss_cons (ps_set (i := 7) scLSensesRight.nd rfl (.inl rfl) (pe_callK0 (T.oSideT N) hr5 rfl (T.fn 39 "side_through" rfl).2 (T.fn 39 "side_through" rfl).1.kp (kb2 (ks := ["point", "other"]) false rfl (fun s a b => kbD (T.fn 39 "side_through" rfl).1 (fun _ _ _ _ _ _ => rfl) s)) pass0 (pk_cons (pv 1) (pk_cons (pv 0) pk_nil)))) (pss_cons (ps_if (pt_cmpR op_ne (pe_callB (call_reprD hgd hu) (by rfl) rp (by decide +kernel) (pa_cons (pe_lst (pa_cons (pv 6) (pa_cons (pv 7) pa_nil))) pa_nil)) (pe_callB (call_reprD hgd hu) (by rfl) rp (by decide +kernel) (pa_cons (pe_lst (pa_cons (pe_call (T.oLSide N) hr2 rfl (T.fn 56 "_law_side" rfl).2 (T.fn 56 "_law_side" rfl).1.kp (bindsLSide (T.fn 56 "_law_side" rfl).1) .nil pass0 (pa_cons (pv 0) (pa_cons (pv 1) pa_nil))) (pa_cons (pe_call (T.oLSide N) hr2 rfl (T.fn 56 "_law_side" rfl).2 (T.fn 56 "_law_side" rfl).1.kp (bindsLSide (T.fn 56 "_law_side" rfl).1) .nil pass0 (pa_cons (pv 1) (pa_cons (pv 0) pa_nil))) pa_nil))) pa_nil)) (nomark _)) (pss_one (ps_ret pe_bl)) pss_nil) (pss_cons (ps_set (i := 8) scLSensesRight.nd rfl (.inl rfl) (pe_op op_sub (pe_op op_add (pe_op op_mul (pe_ix ix_tup (pv 6) pe_int (fun _ _ => rfl)) (pe_ix ix_tup (pv 2) pe_int (fun _ _ => rfl))) (pe_op op_mul (pe_ix ix_tup (pv 6) pe_int (fun _ _ => rfl)) (pe_ix ix_tup (pv 2) pe_int (fun _ _ => rfl)))) (pe_op op_mul (pe_ix ix_tup (pv 6) pe_int (fun _ _ => rfl)) (pe_ix ix_tup (pv 2) pe_int (fun _ _ => rfl))))) (pss_cons (ps_set (i := 5) scLSensesRight.nd rfl (.inl rfl) (pe_call (T.oExc N) hr5 rfl (T.fn 40 "excess" rfl).2 (T.fn 40 "excess" rfl).1.kp (bindsExc (T.fn 40 "excess" rfl).1) .nil pass0 (pa_cons (pv 6) (pa_cons (pv 2) pa_nil)))) (pss_cons (ps_if (PW.pt (pw_or (pt_cmpR op_ne (pe_callB (call_reprD hgd hu) (by rfl) rp (by decide +kernel) (pa_cons (pv 5) pa_nil)) (pe_callB (call_reprD hgd hu) (by rfl) rp (by decide +kernel) (pa_cons (pe_call (T.oLPart N) hr2 rfl (T.fn 48 "_law_part" rfl).2 (T.fn 48 "_law_part" rfl).1.kp (bindsLPart (T.fn 48 "_law_part" rfl).1) .nil pass0 (pa_cons (pv 8) (pa_cons (pe_ix ix_tup (pv 2) pe_int (fun _ _ => rfl)) pa_nil))) pa_nil)) (nomark _)) (pw_or1 (pt_cmpR op_ne (pe_op op_sub (pe_callTy call_int1 (by rfl) N.int (by decide +kernel) (pa_cons (pe_cmpR op_gt (pe_ix ix_tup (pv 5) pe_int (fun _ _ => rfl)) pe_int (nomark _)) pa_nil)) (pe_callTy call_int1 (by rfl) N.int (by decide +kernel) (pa_cons (pe_cmpR op_lt (pe_ix ix_tup (pv 5) pe_int (fun _ _ => rfl)) pe_int (nomark _)) pa_nil))) (pe_op op_sub (pe_int) (pv 4)) (nomark _))))) (pss_one (ps_ret pe_bl)) pss_nil) (pss_cons (ps_if (pt_cmpR op_ne (pe_callB (call_reprD hgd hu) (by rfl) rp (by decide +kernel) (pa_cons (pe_callK0 (T.oExc N) hr5 rfl (T.fn 40 "excess" rfl).2 (T.fn 40 "excess" rfl).1.kp (kb2 (ks := ["side", "point"]) false rfl (fun s a b => kbD (T.fn 40 "excess" rfl).1 (fun _ _ _ _ _ _ => rfl) s)) pass0 (pk_cons (pv 7) (pk_cons (pv 2) pk_nil))) pa_nil)) (pe_callB (call_reprD hgd hu) (by rfl) rp (by decide +kernel) (pa_cons (pe_tup (pa_cons (pe_op op_sub (pe_int) (pe_ix ix_tup (pv 5) pe_int (fun _ _ => rfl))) (pa_cons (pe_ix ix_tup (pv 5) pe_int (fun _ _ => rfl)) pa_nil))) pa_nil)) (nomark _)) (pss_one (ps_ret pe_bl)) pss_nil) (pss_one (ps_ret (pe_cmpR op_eq (pe_callB (call_reprD hgd hu) (by rfl) rp (by decide +kernel) (pa_cons (pe_lst (pa_cons (pe_call (T.oExc N) hr5 rfl (T.fn 40 "excess" rfl).2 (T.fn 40 "excess" rfl).1.kp (bindsExc (T.fn 40 "excess" rfl).1) .nil pass0 (pa_cons (pv 6) (pa_cons (pv 0) pa_nil))) (pa_cons (pe_call (T.oExc N) hr5 rfl (T.fn 40 "excess" rfl).2 (T.fn 40 "excess" rfl).1.kp (bindsExc (T.fn 40 "excess" rfl).1) .nil pass0 (pa_cons (pv 7) (pa_cons (pv 1) pa_nil))) pa_nil))) pa_nil)) pe_str (nomark _)))))))))))))))), ?_⟩
    have h1 : At3 H (.ref a1) p := ⟨a1, rfl, e1⟩
    have h2 : At3 H (.ref a2) q := ⟨a2, rfl, e2⟩
    have h3 : At3 H (.ref a3) r := ⟨a3, rfl, e3⟩
    have c1 := b1.sm (by decide) (by decide)
    have c2 := b2.sm (by decide) (by decide)
    have c3 := b3.sm (by decide) (by decide)
    have l1 := b1.li (by decide) (by decide)
    have l2 := b2.li (by decide) (by decide)
    have l3 := b3.li (by decide) (by decide)
    have w1 := b1.pt.1
    have w2 := b2.pt.1
    have w3 := b3.pt.1
    have B := rimB b1 b2
    have B2 := rimB b2 b1
    have z23 := zxB b2 b3
    have s1 : sgnZ (turnZ p q r) = sgnZ (leftZ p q r) := by rw [turn_left, sgn_mul w1]
    have s2 : sgnZ (turnZ q r p) = sgnZ (leftZ p q r) := by rw [turn_left, sgn_mul w2, left_cyc]
    have s3 : sgnZ (turnZ q p r) = 0 - sgnZ (leftZ p q r) := by rw [turn_left, sgn_mul w2, left_swap, sgn_neg, Int.zero_sub]
    have s4 : sgnZ (turnZ p p r) = 0 := by rw [turn_aa]; rfl
    have s5 : sgnZ (turnZ p q q) = 0 := by rw [turn_bb]; rfl
    have zpp : Sm (zx p p) ∧ Sm (zy p p) := zxB b1 (b1.le (by decide) (by decide))
    refine ⟨_, rfl, _, rfl, _, rfl, (.ref a1), (.ref a2), (.ref a3), p, q, r, rfl, h1, h2, h3, l1, l2, l3, ?_⟩
    refine ⟨_, rfl, leftZ p q r, 0, rfl, rfl, .inr ⟨_, rfl, _, rfl, leftZ p q r, 0, rfl, rfl, .inr ⟨_, rfl, _, _, rfl, rfl, ?_⟩⟩⟩
    dsimp only
    rw [sgn_intB]
    generalize hD : sgnZ (leftZ p q r) = D at s1 s2 s3
    have lD : Lim D := hD ▸ sgn_lim _
    have lD2 : Lim (0 - D) := ⟨by have := lD.2; omega, by have := lD.1; omega⟩
    refine ⟨_, rfl, _, rfl, _, rfl, (.ref a1), (.ref a2), (.ref a3), p, q, r, rfl, h1, h2, h3, b1.pt, b2.pt, b3.pt, c1, c2, c3, B.zx, B.zy, fun H1 st1 => ?_⟩
    rw [s1]
    refine ⟨_, rfl, _, rfl, _, rfl, (.ref a2), (.ref a3), (.ref a1), q, r, p, rfl, (At3.mono st1 h2), (At3.mono st1 h3), (At3.mono st1 h1), b2.pt, b3.pt, b1.pt, c2, c3, c1, z23.1, z23.2, fun H2 st2 => ?_⟩
    rw [s2]
    refine ⟨_, rfl, _, rfl, _, rfl, (.ref a2), (.ref a1), (.ref a3), q, p, r, rfl, (At3.mono (st1.trans st2) h2), (At3.mono (st1.trans st2) h1), (At3.mono (st1.trans st2) h3), b2.pt, b1.pt, b3.pt, c2, c1, c3, B2.zx, B2.zy, fun H3 st3 => ?_⟩
    rw [s3]
    refine ⟨(by show 3 ≤ sizeLine; decide), fun ad4 ae4 => ?_⟩
    have st4 := sameNew (o := .lst [(V.int D), (V.int D), (V.int (0 - D))]) ae4
    have ok3 := lst_ok (ds := [.int D, .int D, .int (0 - D)]) (mem3 (int_sml lD) (int_sml lD) (int_sml lD2)) (by show 3 ≤ 100; decide)
    refine ⟨_, rfl, _, .list [.int D, .int D, .int (0 - D)], rfl, .inl (Dp.lst (SqL.of upd_same) (.cons (.int _) (.cons (.int _) (.cons (.int _) .nil)))), ok3.1, ok3.2.1, ok3.2.2, ?_⟩
    generalize hz1 : (PyData.list [.int D, .int D, .int (0 - D)]).shown = sz1
    refine ⟨_, rfl, ?_⟩
    refine ⟨_, rfl, ?_⟩
    refine ⟨_, rfl, _, _, rfl, rfl, ?_⟩
    refine ⟨(by show 3 ≤ sizeLine; decide), fun ad5 ae5 => ?_⟩
    have st5 := sameNew (o := .lst [(V.int D), (V.int D), (V.int (0 - D))]) ae5
    obtain ⟨za2, zb2, zc2, zd2⟩ := rrL (K := K) (H := (upd (upd H3 ad4 (.lst [(V.int D), (V.int D), (V.int (0 - D))])) ad5 (.lst [(V.int D), (V.int D), (V.int (0 - D))]))) (r := ad5) (ds := [.int D, .int D, .int (0 - D)]) upd_same (.cons (Dp.int _) (.cons (Dp.int _) (.cons (Dp.int _) .nil))) (mem3 (int_sml lD) (int_sml lD) (int_sml lD2)) (by show 3 ≤ 100; decide)
    refine ⟨_, _, rfl, za2, zb2, zc2, zd2, ?_⟩
    rw [hz1]
    refine ⟨rfl, _, rfl, iteNS rfl ?_⟩
    refine ⟨_, rfl, _, rfl, _, rfl, (.ref a1), (.ref a1), (.ref a3), p, p, r, rfl, (At3.mono (st1.trans (st2.trans (st3.trans (st4.trans st5)))) h1), (At3.mono (st1.trans (st2.trans (st3.trans (st4.trans st5)))) h1), (At3.mono (st1.trans (st2.trans (st3.trans (st4.trans st5)))) h3), b1.pt, b1.pt, b3.pt, c1, c1, c3, zpp.1, zpp.2, fun H6 st6 => ?_⟩
    rw [s4]
    refine ⟨_, rfl, _, rfl, _, rfl, (.ref a1), (.ref a2), (.ref a2), p, q, q, rfl, (At3.mono (st1.trans (st2.trans (st3.trans (st4.trans (st5.trans st6))))) h1), (At3.mono (st1.trans (st2.trans (st3.trans (st4.trans (st5.trans st6))))) h2), (At3.mono (st1.trans (st2.trans (st3.trans (st4.trans (st5.trans st6))))) h2), b1.pt, b2.pt, b2.pt, c1, c2, c2, B.zx, B.zy, fun H7 st7 => ?_⟩
    rw [s5]
    have lim0 : Lim 0 := ⟨by decide, by decide⟩
    refine ⟨(by show 2 ≤ sizeLine; decide), fun ad8 ae8 => ?_⟩
    have st8 := sameNew (o := .lst [(V.int 0), (V.int 0)]) ae8
    obtain ⟨za3, zb3, zc3, zd3⟩ := rrL (K := K) (H := (upd H7 ad8 (.lst [(V.int 0), (V.int 0)]))) (r := ad8) (ds := [.int 0, .int 0]) upd_same (.cons (Dp.int _) (.cons (Dp.int _) .nil)) (mem2 (int_sml lim0) (int_sml lim0)) (by show 2 ≤ 100; decide)
    refine ⟨_, _, rfl, za3, zb3, zc3, zd3, ?_⟩
    rw [show (PyData.list [.int 0, .int 0]).shown = ("[0, 0]" : Str) from by decide +kernel]
    refine ⟨rfl, _, rfl, iteNS rfl ?_⟩
    refine ⟨_, rfl, _, rfl, d3 p, d3 q, (At3.dp (At3.mono (st1.trans (st2.trans (st3.trans (st4.trans (st5.trans (st6.trans (st7.trans st8))))))) h1)), (At3.dp (At3.mono (st1.trans (st2.trans (st3.trans (st4.trans (st5.trans (st6.trans (st7.trans st8))))))) h2)), rfl, rfl, _, rfl, ?_⟩
    rw [eqv3]
    by_cases ne : p = q
    · subst ne
      rw [beq_self_eq_true, beq_self_eq_true, beq_self_eq_true]
      exact iteT (k _ (st1.trans (st2.trans (st3.trans (st4.trans (st5.trans (st6.trans (st7.trans st8))))))))
    have en : (p.x == q.x && (p.y == q.y && p.w == q.w)) = false := by
      refine Bool.eq_false_iff.mpr fun z => ne3 ne ?_
      obtain ⟨y1, y2⟩ := Bool.and_eq_true_iff.mp z
      obtain ⟨y2, y3⟩ := Bool.and_eq_true_iff.mp y2
      exact ⟨eq_of_beq y1, eq_of_beq y2, eq_of_beq y3⟩
    rw [en]
    refine iteF ?_
    have ne2 : q ≠ p := fun z => ne z.symm
    have S1 := side_lt B b1.pt b2.pt ne
    have S2 := side_lt B2 b2.pt b1.pt ne2
    have C1 := rimC B b1.pt b2.pt ne
    have C2 := rimC B2 b2.pt b1.pt ne2
    have L1 := C1.li
    have L2 := C2.li
    have D1 := rim_sd b1.pt b2.pt ne
    have D2 := rim_sd b2.pt b1.pt ne2
    refine ⟨_, rfl, _, rfl, (.ref a1), (.ref a2), p, q, rfl, (At3.mono (st1.trans (st2.trans (st3.trans (st4.trans (st5.trans (st6.trans (st7.trans st8))))))) h1), (At3.mono (st1.trans (st2.trans (st3.trans (st4.trans (st5.trans (st6.trans (st7.trans st8))))))) h2), b1.pt, b2.pt, c1, c2, ne3 ne, B.zx, B.zy, S1.1, S1.2, fun r9 H9 st9 k9 => ?_⟩
    rw [pside_eq w1] at k9
    obtain ⟨orim, rfl, oerim⟩ := k9
    refine ⟨_, rfl, _, rfl, (.ref a2), (.ref a1), q, p, rfl, (At3.mono (st1.trans (st2.trans (st3.trans (st4.trans (st5.trans (st6.trans (st7.trans (st8.trans st9)))))))) h2), (At3.mono (st1.trans (st2.trans (st3.trans (st4.trans (st5.trans (st6.trans (st7.trans (st8.trans st9)))))))) h1), b2.pt, b1.pt, c2, c1, ne3 ne2, B2.zx, B2.zy, S2.1, S2.2, fun r10 H10 st10 k10 => ?_⟩
    rw [pside_eq w2] at k10
    refine ⟨_, rfl, ?_⟩
    refine ⟨_, rfl, ?_⟩
    refine ⟨(by show 2 ≤ sizeLine; decide), fun ad11 ae11 => ?_⟩
    have st11 := sameNew (o := .lst [(.ref orim), r10]) ae11
    obtain ⟨za4, zb4, zc4, zd4⟩ := rrL (K := K) (H := (upd H10 ad11 (.lst [(.ref orim), r10]))) (r := ad11) (ds := [d3 (pRim p q), d3 (pRim q p)]) upd_same (.cons (At3.dp (At3.mono (st10.trans st11) (⟨orim, rfl, oerim⟩ : At3 H9 _ _))) (.cons (At3.dp (At3.mono st11 k10)) .nil)) (mem2 (d3_sml L1) (d3_sml L2)) (by show 2 ≤ 100; decide)
    refine ⟨_, _, rfl, za4, zb4, zc4, zd4, ?_⟩
    generalize hz4 : (PyData.list [d3 (pRim p q), d3 (pRim q p)]).shown = sz4
    refine ⟨_, rfl, _, rfl, (.ref a1), (.ref a2), p, q, rfl, (At3.mono (st1.trans (st2.trans (st3.trans (st4.trans (st5.trans (st6.trans (st7.trans (st8.trans (st9.trans (st10.trans st11)))))))))) h1), (At3.mono (st1.trans (st2.trans (st3.trans (st4.trans (st5.trans (st6.trans (st7.trans (st8.trans (st9.trans (st10.trans st11)))))))))) h2), l1, l2, ⟨by have := B.a0; unfold sa at this; omega, by have := B.a1; unfold sa at this; omega⟩, ⟨by have := B.b0; unfold sb at this; omega, by have := B.b1; unfold sb at this; omega⟩, ⟨by have := B.c0; unfold sc at this; omega, by have := B.c1; unfold sc at this; omega⟩, fun r12 H12 st12 k12 => ?_⟩
    refine ⟨_, rfl, _, rfl, (.ref a2), (.ref a1), q, p, rfl, (At3.mono (st1.trans (st2.trans (st3.trans (st4.trans (st5.trans (st6.trans (st7.trans (st8.trans (st9.trans (st10.trans (st11.trans st12))))))))))) h2), (At3.mono (st1.trans (st2.trans (st3.trans (st4.trans (st5.trans (st6.trans (st7.trans (st8.trans (st9.trans (st10.trans (st11.trans st12))))))))))) h1), l2, l1, ⟨by have := B2.a0; unfold sa at this; omega, by have := B2.a1; unfold sa at this; omega⟩, ⟨by have := B2.b0; unfold sb at this; omega, by have := B2.b1; unfold sb at this; omega⟩, ⟨by have := B2.c0; unfold sc at this; omega, by have := B2.c1; unfold sc at this; omega⟩, fun r13 H13 st13 k13 => ?_⟩
    refine ⟨(by show 2 ≤ sizeLine; decide), fun ad14 ae14 => ?_⟩
    have st14 := sameNew (o := .lst [r12, r13]) ae14
    obtain ⟨za5, zb5, zc5, zd5⟩ := rrL (K := K) (H := (upd H13 ad14 (.lst [r12, r13]))) (r := ad14) (ds := [d3 (pRim p q), d3 (pRim q p)]) upd_same (.cons (At3.dp (At3.mono (st13.trans st14) k12)) (.cons (At3.dp (At3.mono st14 k13)) .nil)) (mem2 (d3_sml L1) (d3_sml L2)) (by show 2 ≤ 100; decide)
    refine ⟨_, _, rfl, za5, zb5, zc5, zd5, ?_⟩
    rw [hz4]
    refine ⟨rfl, _, rfl, iteNS rfl ?_⟩
    have sr3 : Sm r.w := ⟨by have := c3.2.2.1; omega, by have := c3.2.2.2; omega⟩
    refine ⟨_, rfl, orim, _, 0, .int (pRim p q).x, rfl, rfl, SqT.of ((st10.trans (st11.trans (st12.trans (st13.trans st14)))) _ _ oerim), rfl, _, rfl, a3, _, 0, .int r.x, rfl, rfl, SqT.of ((st1.trans (st2.trans (st3.trans (st4.trans (st5.trans (st6.trans (st7.trans (st8.trans (st9.trans (st10.trans (st11.trans (st12.trans (st13.trans st14))))))))))))) _ _ e3), rfl, _, _, rfl, rfl, c3.1.mulR, _, rfl, orim, _, 1, .int (pRim p q).y, rfl, rfl, SqT.of ((st10.trans (st11.trans (st12.trans (st13.trans st14)))) _ _ oerim), rfl, _, rfl, a3, _, 1, .int r.y, rfl, rfl, SqT.of ((st1.trans (st2.trans (st3.trans (st4.trans (st5.trans (st6.trans (st7.trans (st8.trans (st9.trans (st10.trans (st11.trans (st12.trans (st13.trans st14))))))))))))) _ _ e3), rfl, _, _, rfl, rfl, c3.2.1.mulR, _, _, rfl, rfl, _, rfl, orim, _, 2, .int (pRim p q).w, rfl, rfl, SqT.of ((st10.trans (st11.trans (st12.trans (st13.trans st14)))) _ _ oerim), rfl, _, rfl, a3, _, 2, .int r.w, rfl, rfl, SqT.of ((st1.trans (st2.trans (st3.trans (st4.trans (st5.trans (st6.trans (st7.trans (st8.trans (st9.trans (st10.trans (st11.trans (st12.trans (st13.trans st14))))))))))))) _ _ e3), rfl, _, _, rfl, rfl, sr3.mulR, _, _, rfl, rfl, ?_⟩
    have ob := over_bd C1 b3
    have nb := nm2_bd (x := overZ (pRim p q) r) (m := 71000000) (n := 400) w3 ob.1 ob.2 b3.w1
    have nl := nb.li (by decide) (by decide)
    refine ⟨_, rfl, _, rfl, (.ref orim), (.ref a3), pRim p q, r, rfl, (At3.mono (st10.trans (st11.trans (st12.trans (st13.trans st14)))) (⟨orim, rfl, oerim⟩ : At3 H9 _ _)), (At3.mono (st1.trans (st2.trans (st3.trans (st4.trans (st5.trans (st6.trans (st7.trans (st8.trans (st9.trans (st10.trans (st11.trans (st12.trans (st13.trans st14))))))))))))) h3), D1, b3.pt, c3, fun r15 H15 st15 k15 => ?_⟩
    obtain ⟨oexc, rfl, oeexc⟩ := k15
    refine ⟨_, rfl, ?_⟩
    obtain ⟨za6, zb6, zc6, zd6⟩ := rrD (K := K) (H := H15) (v := (.ref oexc)) (d := d2 (nm2 (overZ (pRim p q) r) r.w)) (At2.dp (⟨oexc, rfl, oeexc⟩ : At2 H15 _ _)) (d2_sml nl)
    refine ⟨_, _, rfl, za6, zb6, zc6, zd6, ?_⟩
    generalize hz6 : (d2 (nm2 (overZ (pRim p q) r) r.w)).shown = sz6
    refine ⟨_, rfl, _, rfl, a3, _, 2, .int r.w, rfl, rfl, SqT.of ((st1.trans (st2.trans (st3.trans (st4.trans (st5.trans (st6.trans (st7.trans (st8.trans (st9.trans (st10.trans (st11.trans (st12.trans (st13.trans (st14.trans st15)))))))))))))) _ _ e3), rfl, overZ (pRim p q) r, r.w, rfl, ⟨by omega, by omega⟩, l3.2.2, by omega, fun r16 H16 st16 k16 => ?_⟩
    rw [show partZ (overZ (pRim p q) r) r.w = nm2 (overZ (pRim p q) r) r.w from if_pos w3] at k16
    obtain ⟨za7, zb7, zc7, zd7⟩ := rrD (K := K) (H := H16) (v := r16) (d := d2 (nm2 (overZ (pRim p q) r) r.w)) (At2.dp k16) (d2_sml nl)
    refine ⟨_, _, rfl, za7, zb7, zc7, zd7, ?_⟩
    rw [hz6]
    refine ⟨rfl, _, rfl, iteNS rfl ?_⟩
    refine ⟨_, rfl, oexc, _, 0, .int (nm2 (overZ (pRim p q) r) r.w).n, rfl, rfl, SqT.of (st16 _ _ oeexc), rfl, _, 0, rfl, rfl, .inr ⟨_, rfl, _, rfl, oexc, _, 0, .int (nm2 (overZ (pRim p q) r) r.w).n, rfl, rfl, SqT.of (st16 _ _ oeexc), rfl, _, 0, rfl, rfl, .inr ⟨_, rfl, _, _, rfl, rfl, ?_⟩⟩⟩
    dsimp only
    rw [sgn_intB, nm2_sgn w3, over_sgn b1.pt b2.pt ne, hD]
    refine ⟨_, rfl, _, _, rfl, rfl, rfl, _, rfl, iteNS (congrArg V.int (Int.zero_sub D).symm) ?_⟩
    have en2 : nm2 (overZ (pRim q p) r) r.w = ⟨0 - (nm2 (overZ (pRim p q) r) r.w).n, (nm2 (overZ (pRim p q) r) r.w).d⟩ := by rw [over_swap b1.pt b2.pt ne, nm2_neg _ _ (by omega)]
    have nl2 : Li2 ⟨0 - (nm2 (overZ (pRim p q) r) r.w).n, (nm2 (overZ (pRim p q) r) r.w).d⟩ := ⟨⟨by have := nl.1.2; show -1000000000 ≤ 0 - (nm2 (overZ (pRim p q) r) r.w).n; omega, by have := nl.1.1; show 0 - (nm2 (overZ (pRim p q) r) r.w).n ≤ 1000000000; omega⟩, nl.2⟩
    refine ⟨_, rfl, _, rfl, r10, (.ref a3), pRim q p, r, rfl, (At3.mono (st11.trans (st12.trans (st13.trans (st14.trans (st15.trans st16))))) k10), (At3.mono (st1.trans (st2.trans (st3.trans (st4.trans (st5.trans (st6.trans (st7.trans (st8.trans (st9.trans (st10.trans (st11.trans (st12.trans (st13.trans (st14.trans (st15.trans st16))))))))))))))) h3), D2, b3.pt, c3, fun r17 H17 st17 k17 => ?_⟩
    rw [en2] at k17
    obtain ⟨za8, zb8, zc8, zd8⟩ := rrD (K := K) (H := H17) (v := r17) (d := d2 ⟨0 - (nm2 (overZ (pRim p q) r) r.w).n, (nm2 (overZ (pRim p q) r) r.w).d⟩) (At2.dp k17) (d2_sml nl2)
    refine ⟨_, _, rfl, za8, zb8, zc8, zd8, ?_⟩
    generalize hz8 : (d2 ⟨0 - (nm2 (overZ (pRim p q) r) r.w).n, (nm2 (overZ (pRim p q) r) r.w).d⟩).shown = sz8
    refine ⟨_, rfl, oexc, _, 0, .int (nm2 (overZ (pRim p q) r) r.w).n, rfl, rfl, SqT.of ((st16.trans st17) _ _ oeexc), rfl, _, _, rfl, rfl, _, rfl, oexc, _, 1, .int (nm2 (overZ (pRim p q) r) r.w).d, rfl, rfl, SqT.of ((st16.trans st17) _ _ oeexc), rfl, ?_⟩
    refine ⟨(by show 2 ≤ sizeLine; decide), fun ad18 ae18 => ?_⟩
    have st18 := sameNew (o := .tup [V.int (0 - (nm2 (overZ (pRim p q) r) r.w).n), V.int (nm2 (overZ (pRim p q) r) r.w).d]) ae18
    obtain ⟨za9, zb9, zc9, zd9⟩ := rrD (K := K) (H := (upd H17 ad18 (.tup [V.int (0 - (nm2 (overZ (pRim p q) r) r.w).n), V.int (nm2 (overZ (pRim p q) r) r.w).d]))) (v := (.ref ad18)) (d := d2 ⟨0 - (nm2 (overZ (pRim p q) r) r.w).n, (nm2 (overZ (pRim p q) r) r.w).d⟩) (At2.dp (⟨ad18, rfl, upd_same⟩ : At2 (upd H17 ad18 (.tup [V.int (0 - (nm2 (overZ (pRim p q) r) r.w).n), V.int (nm2 (overZ (pRim p q) r) r.w).d])) (.ref ad18) ⟨0 - (nm2 (overZ (pRim p q) r) r.w).n, (nm2 (overZ (pRim p q) r) r.w).d⟩)) (d2_sml nl2)
    refine ⟨_, _, rfl, za9, zb9, zc9, zd9, ?_⟩
    rw [hz8]
    refine ⟨rfl, _, rfl, iteNS rfl ?_⟩
    have zl2 : Li2 ⟨0, 1⟩ := by refine ⟨⟨?_, ?_⟩, ⟨?_, ?_⟩⟩ <;> decide
    have o1 : overZ (pRim p q) p = 0 := over_zero b1.pt b2.pt ne (by unfold leftZ; grind)
    have o2 : overZ (pRim q p) q = 0 := over_zero b2.pt b1.pt ne2 (by unfold leftZ; grind)
    refine ⟨_, rfl, _, rfl, (.ref orim), (.ref a1), pRim p q, p, rfl, (At3.mono (st10.trans (st11.trans (st12.trans (st13.trans (st14.trans (st15.trans (st16.trans (st17.trans st18)))))))) (⟨orim, rfl, oerim⟩ : At3 H9 _ _)), (At3.mono (st1.trans (st2.trans (st3.trans (st4.trans (st5.trans (st6.trans (st7.trans (st8.trans (st9.trans (st10.trans (st11.trans (st12.trans (st13.trans (st14.trans (st15.trans (st16.trans (st17.trans st18))))))))))))))))) h1), D1, b1.pt, c1, fun r19 H19 st19 k19 => ?_⟩
    rw [o1, nm2_zero w1] at k19
    refine ⟨_, rfl, _, rfl, r10, (.ref a2), pRim q p, q, rfl, (At3.mono (st11.trans (st12.trans (st13.trans (st14.trans (st15.trans (st16.trans (st17.trans (st18.trans st19)))))))) k10), (At3.mono (st1.trans (st2.trans (st3.trans (st4.trans (st5.trans (st6.trans (st7.trans (st8.trans (st9.trans (st10.trans (st11.trans (st12.trans (st13.trans (st14.trans (st15.trans (st16.trans (st17.trans (st18.trans st19)))))))))))))))))) h2), D2, b2.pt, c2, fun r20 H20 st20 k20 => ?_⟩
    rw [o2, nm2_zero w2] at k20
    refine ⟨(by show 2 ≤ sizeLine; decide), fun ad21 ae21 => ?_⟩
    have st21 := sameNew (o := .lst [r19, r20]) ae21
    obtain ⟨za10, zb10, zc10, zd10⟩ := rrL (K := K) (H := (upd H20 ad21 (.lst [r19, r20]))) (r := ad21) (ds := [d2 ⟨0, 1⟩, d2 ⟨0, 1⟩]) upd_same (.cons (At2.dp (At2.mono (st20.trans st21) k19)) (.cons (At2.dp (At2.mono st21 k20)) .nil)) (mem2 (d2_sml zl2) (d2_sml zl2)) (by show 2 ≤ 100; decide)
    refine ⟨_, _, rfl, za10, zb10, zc10, zd10, ?_⟩
    rw [show (PyData.list [d2 ⟨0, 1⟩, d2 ⟨0, 1⟩]).shown = ("[(0, 1), (0, 1)]" : Str) from by decide +kernel]
    refine ⟨rfl, ?_⟩
    rw [decide_eq_true rfl]
    exact k _ (st1.trans (st2.trans (st3.trans (st4.trans (st5.trans (st6.trans (st7.trans (st8.trans (st9.trans (st10.trans (st11.trans (st12.trans (st13.trans (st14.trans (st15.trans (st16.trans (st17.trans (st18.trans (st19.trans (st20.trans st21))))))))))))))))))))
end
end K2
namespace K2
open PySem PySem.Spec PyProof.Rows L2
theorem nm2_scale {k x y : Int} (hk : 0 < k) : nm2 (k * x) (k * y) = nm2 x y := by
  have e := g2_scale (x := x) (y := y) (show 0 ≤ k by omega)
  unfold nm2
  rw [e, Int.mul_ediv_mul_of_pos _ _ hk, Int.mul_ediv_mul_of_pos _ _ hk]
theorem g2_zero {x y : Int} : g2 x y = 0 ↔ x = 0 ∧ y = 0 := by
  refine ⟨fun h => ?_, fun ⟨h1, h2⟩ => by rw [h1, h2]; rfl⟩
  by_cases hx : x = 0
  · by_cases hy : y = 0
    · exact ⟨hx, hy⟩
    · have := g2_pos (x := x) hy
      omega
  · have := g2_pos' (y := y) hx
    omega
/-- the direction of a point grown by a fraction -/
theorem grow_dir {p : P3} {f : P2} (hp : 0 < p.w) (hf : 0 < f.d) (hn : 0 < f.n) : nm2 (pTimes p f).x (pTimes p f).y = nm2 p.x p.y ∧ (g2 (pTimes p f).x (pTimes p f).y = 0 ↔ g2 p.x p.y = 0) := by
  obtain ⟨g, a, b, c, hg, hx, hy, hw, e, u⟩ := ex3 (x := p.x * f.n) (y := p.y * f.n) (mul_ne hp hf)
  have e2 : pTimes p f = ⟨a, b, c⟩ := e
  rw [e2]
  dsimp only
  rw [Int.mul_comm] at hx hy
  refine ⟨?_, ?_⟩
  · rw [← nm2_scale (k := g) (x := a) (y := b) (by omega), ← hx, ← hy, nm2_scale hn]
  · have k1 := g2_scale (k := g) (x := a) (y := b) (by omega)
    have k2 := g2_scale (k := f.n) (x := p.x) (y := p.y) (by omega)
    rw [hx, hy] at k2
    rw [k1] at k2
    refine ⟨fun z => ?_, fun z => ?_⟩
    · rw [z, Int.mul_zero] at k2
      rcases Int.mul_eq_zero.mp k2.symm with y | y
      · omega
      · exact y
    · rw [z, Int.mul_zero] at k2
      rcases Int.mul_eq_zero.mp k2 with y | y
      · omega
      · exact y
theorem grow_zero {p : P3} {f : P2} (hp : 0 < p.w) (hf : 0 < f.d) (hn : f.n = 0) : g2 (pTimes p f).x (pTimes p f).y = 0 := by
  obtain ⟨g, a, b, c, hg, hx, hy, hw, e, u⟩ := ex3 (x := p.x * f.n) (y := p.y * f.n) (mul_ne hp hf)
  have e2 : pTimes p f = ⟨a, b, c⟩ := e
  rw [e2]
  dsimp only
  rw [hn, Int.mul_zero] at hx hy
  refine g2_zero.mpr ⟨?_, ?_⟩
  · rcases Int.mul_eq_zero.mp hx.symm with y | y
    · omega
    · exact y
  · rcases Int.mul_eq_zero.mp hy.symm with y | y
    · omega
    · exact y
theorem nm2_both (x y : Int) (h : 1 ≤ g2 x y) : nm2 (-x) (-y) = ⟨0 - (nm2 x y).n, 0 - (nm2 x y).d⟩ := by
  obtain ⟨a, b, ha, hb, e1, e2, _⟩ := ex2 h
  have hn : ∀ {u v : Int}, u = g2 x y * v → -u / g2 x y = -v := fun {u v} e => by
    have e3 : -u = g2 x y * -v := by rw [e, Int.mul_neg]
    rw [e3, Int.mul_ediv_cancel_left _ (show g2 x y ≠ 0 by omega)]
  unfold nm2
  dsimp only
  rw [g2_neg, hn ha, hn hb, e1, e2, Int.zero_sub, Int.zero_sub]
theorem grow_neg {p : P3} {f : P2} (hp : 0 < p.w) (hf : 0 < f.d) (hn : f.n < 0) (h : 1 ≤ g2 p.x p.y) : nm2 (pTimes p f).x (pTimes p f).y = ⟨0 - (nm2 p.x p.y).n, 0 - (nm2 p.x p.y).d⟩ ∧ g2 (pTimes p f).x (pTimes p f).y ≠ 0 := by
  obtain ⟨g, a, b, c, hg, hx, hy, hw, e, u⟩ := ex3 (x := p.x * f.n) (y := p.y * f.n) (mul_ne hp hf)
  have e2 : pTimes p f = ⟨a, b, c⟩ := e
  rw [e2]
  dsimp only
  have hx' : -f.n * -p.x = g * a := by rw [Int.neg_mul_neg, Int.mul_comm]; exact hx
  have hy' : -f.n * -p.y = g * b := by rw [Int.neg_mul_neg, Int.mul_comm]; exact hy
  refine ⟨?_, fun z => ?_⟩
  · rw [← nm2_scale (k := g) (x := a) (y := b) (by omega), ← hx', ← hy', nm2_scale (by omega), nm2_both _ _ h]
  · have k1 := g2_scale (k := g) (x := a) (y := b) (by omega)
    have k2 := g2_scale (k := -f.n) (x := -p.x) (y := -p.y) (by omega)
    rw [hx', hy', k1, z, Int.mul_zero, g2_neg] at k2
    rcases Int.mul_eq_zero.mp k2.symm with y | y
    · omega
    · omega
theorem g2_bd {x y m : Int} (hm : 0 ≤ m) (x0 : -m ≤ x) (x1 : x ≤ m) (y0 : -m ≤ y) (y1 : y ≤ m) : g2 x y ≤ m := by
  by_cases hx : x = 0
  · by_cases hy : y = 0
    · rw [g2_zero.mpr ⟨hx, hy⟩]
      exact hm
    · have := Int.le_of_dvd (show 0 < (y.natAbs : Int) by omega) (Int.dvd_natAbs.mpr (g2_y x y))
      omega
  · have := Int.le_of_dvd (show 0 < (x.natAbs : Int) by omega) (Int.dvd_natAbs.mpr (g2_x x y))
    omega
theorem nm2_lim {x y : Int} (h : 1 ≤ g2 x y) (x0 : -1000 ≤ x) (x1 : x ≤ 1000) (y0 : -1000 ≤ y) (y1 : y ≤ 1000) : Li2 (nm2 x y) ∧ Lim (0 - (nm2 x y).n) ∧ Lim (0 - (nm2 x y).d) := by
  have a := div_bd h x0 x1
  have b := div_bd h y0 y1
  have e1 : (nm2 x y).n = x / g2 x y := rfl
  have e2 : (nm2 x y).d = y / g2 x y := rfl
  exact ⟨⟨⟨by omega, by omega⟩, ⟨by omega, by omega⟩⟩, ⟨by omega, by omega⟩, ⟨by omega, by omega⟩⟩
theorem earl_self (p : P2) : earl p p = false := by
  unfold earl
  rw [if_pos rfl]
  refine decide_eq_false ?_
  rw [Int.mul_comm]
  omega
theorem earl_one {f : P2} (h : Di f) : earl ⟨1, 0⟩ f = !(f.n == 1 && f.d == 0) := by
  obtain ⟨n, d⟩ := f
  have h1 : g2 n d = 1 := h
  have e0 : halfZ ⟨1, 0⟩ = 0 := rfl
  unfold earl
  rw [e0]
  by_cases hd : 0 < d
  · have e1 : halfZ ⟨n, d⟩ = 0 := if_pos hd
    rw [e1, if_pos rfl]
    have e2 : (n == 1 && d == 0) = false := by
      refine Bool.eq_false_iff.mpr fun z => ?_
      have := eq_of_beq (Bool.and_eq_true_iff.mp z).2
      omega
    rw [e2]
    exact decide_eq_true (by show 0 < 1 * d - 0 * n; omega)
  · by_cases hz : d = 0
    · subst hz
      have hn : n.natAbs = 1 := by
        have z : ((n.natAbs.gcd 0 : Nat) : Int) = 1 := h1
        rw [Nat.gcd_zero_right] at z
        omega
      by_cases hp : 0 < n
      · have en : n = 1 := by omega
        subst en
        have e1 : halfZ ⟨1, 0⟩ = 0 := rfl
        rw [e1, if_pos rfl]
        rfl
      · have e1 : halfZ ⟨n, 0⟩ = 1 := (if_neg hd).trans ((if_pos rfl).trans (if_neg hp))
        rw [e1, if_neg (by decide)]
        have e2 : (n == 1 && (0 : Int) == 0) = false := by
          refine Bool.eq_false_iff.mpr fun z => ?_
          have := eq_of_beq (Bool.and_eq_true_iff.mp z).1
          omega
        rw [e2]
        rfl
    · have e1 : halfZ ⟨n, d⟩ = 1 := (if_neg hd).trans (if_neg hz)
      rw [e1, if_neg (by decide)]
      have e2 : (n == 1 && d == 0) = false := by
        refine Bool.eq_false_iff.mpr fun z => ?_
        have := eq_of_beq (Bool.and_eq_true_iff.mp z).2
        omega
      rw [e2]
      rfl
theorem eqv2 (p q : P2) : PyData.eqv (d2 p) (d2 q) = (p.n == q.n && p.d == q.d) := by simp [d2, PyData.eqv, PyData.eqvAll]
end K2
namespace K2
open PySem PySem.Spec PyProof.Rows L2
theorem grow_o {p : P3} {f : P2} (hp : 0 < p.w) (hf : 0 < f.d) (h : g2 p.x p.y = 0) : g2 (pTimes p f).x (pTimes p f).y = 0 := by
  obtain ⟨g, a, b, c, hg, hx, hy, hw, e, u⟩ := ex3 (x := p.x * f.n) (y := p.y * f.n) (mul_ne hp hf)
  have e2 : pTimes p f = ⟨a, b, c⟩ := e
  obtain ⟨z1, z2⟩ := g2_zero.mp h
  rw [e2]
  dsimp only
  rw [z1, Int.zero_mul] at hx
  rw [z2, Int.zero_mul] at hy
  refine g2_zero.mpr ⟨?_, ?_⟩
  · rcases Int.mul_eq_zero.mp hx.symm with y | y
    · omega
    · exact y
  · rcases Int.mul_eq_zero.mp hy.symm with y | y
    · omega
    · exact y
theorem Gu.li {f : P2} (h : Gu f) : Li2 f := by
  obtain ⟨_, h1, h2, h3, h4⟩ := h
  exact ⟨⟨by omega, by omega⟩, ⟨by omega, by omega⟩⟩
def spDirR (K : PySem.W.Frag) : Sp := fun vs H Q _ => ∃ (ag : Addr) (us : List V) (u0 u t : V) (p : P3) (f : P2), vs = [.ref ag, u, t] ∧ SqL K H ag us ∧ us[0]? = some u0 ∧ (∀ (i : Nat) (x : V), us[i]? = some x → ∃ f, At2 H x f ∧ Gu f) ∧ At3 H u p ∧ At2 H t f ∧ Bd3 99 5 p ∧ Bd2 6 4 f ∧ ∀ H', Same H H' → Q (.bl true) H'
section
variable {P : Program} {w : World} {K : PySem.W.Frag} {mg : Str → Option Value} {base : Heap} {f : Addr} {fd : FuncData} {Ad : Nat → Addr} {Dd : Nat → FuncData}
theorem scLDirectionsRight : FnScope ["_law_gusts", "_law_one", "_law_share_here", "_law_due", "_law_other_due", "_law_gust_here", "_law_rival"] ["_law_gusts", "_law_one", "_law_share_here"] (defScope (top 64)) := ⟨rfl, rfl, rfl, by decide +kernel, rfl, by decide +kernel, by decide +kernel⟩
theorem bindsLDirectionsRight (F : FnP K "_law_directions_right" (top 64) f fd) : Binds K fd ["_law_gusts", "_law_one", "_law_share_here"] [] := F.bindsN fun _ _ _ _ _ _ us hl => match us, hl with | [_, _, _], _ => rfl
theorem Pg.oLDirectionsRight (T : Pg K mg Ad Dd) (N : Nm mg) : FnG P w K mg base CX0 6 (Ad 64) (Dd 64) ["_law_gusts", "_law_one", "_law_share_here"] (spDirR K) := by
  refine fnG_of (T.fn 64 "_law_directions_right" rfl).1 scLDirectionsRight (fun vs H Q E h => ?_) (fun cdv A outer s H vs Q E hgd hr h => ?_)
  · obtain ⟨ag, us, u0, u, t, p, f, rfl, _⟩ := h
    rfl
  · obtain ⟨ag, us, u0, _, _, p, ⟨n, m⟩, rfl, SG, at0, HG, ⟨a1, rfl, e1⟩, ⟨a3, rfl, e3⟩, b1, b3, k⟩ := h
    have hu := hr.units
    have rp := N.repr
    have hr5 : Room 5 _ := hr.mono (by decide)
    have hr4 : Room 4 _ := hr.mono (by decide)
    have hr3 : Room 3 _ := hr.mono (by decide)
    have hr2 : Room 2 _ := hr.mono (by decide)
    have hr1 : Room 1 _ := hr.mono (by decide)
    refine ⟨_, PSs.nox (pss_cons (ps_set (i := 3) scLDirectionsRight.nd rfl (.inl rfl) (pe_ifExp (pt_cmpR (op_neD hu) (pe_slice sl_tup (pv 1) po_none (po_some pe_int)) (pe_tup (pa_cons (pe_int) (pa_cons (pe_int) pa_nil))) (nomark _)) (pe_call (T.oLLeast N) hr1 rfl (T.fn 46 "_law_least" rfl).2 (T.fn 46 "_law_least" rfl).1.kp (bindsLLeast (T.fn 46 "_law_least" rfl).1) .nil pass0 (pa_cons (pe_slice sl_tup (pv 1) po_none (po_some pe_int)) pa_nil)) pe_non)) (pss_cons (ps_if (pt_cmpR op_ne (pe_callB (call_reprD hgd hu) (by rfl) rp (by decide +kernel) (pa_cons (pe_lst (pa_cons (pe_call (T.oDirOf N) hr5 rfl (T.fn 30 "direction_of" rfl).2 (T.fn 30 "direction_of" rfl).1.kp (bindsDirOf (T.fn 30 "direction_of" rfl).1) .nil pass0 (pa_cons (pv 1) pa_nil)) (pa_cons (pe_callK0 (T.oDirOf N) hr5 rfl (T.fn 30 "direction_of" rfl).2 (T.fn 30 "direction_of" rfl).1.kp (kb1 (ks := ["way"]) rfl (fun s a => kbD (T.fn 30 "direction_of" rfl).1 (fun _ _ _ _ _ _ => rfl) s)) pass0 (pk_cons (pe_call (T.oLGrow N) hr2 rfl (T.fn 52 "_law_grow" rfl).2 (T.fn 52 "_law_grow" rfl).1.kp (bindsLGrow (T.fn 52 "_law_grow" rfl).1) .nil pass0 (pa_cons (pv 1) (pa_cons (pe_tup (pa_cons (pe_int) (pa_cons (pe_int) pa_nil))) pa_nil))) pk_nil)) pa_nil))) pa_nil)) (pe_callB (call_reprD hgd hu) (by rfl) rp (by decide +kernel) (pa_cons (pe_lst (pa_cons (pv 3) (pa_cons (pv 3) pa_nil))) pa_nil)) (nomark _)) (pss_one (ps_ret pe_bl)) pss_nil) (pss_cons (ps_set (i := 4) scLDirectionsRight.nd rfl (.inl rfl) (pe_ifExp (PW.pt (pw_or (pt_cmpR op_isN (pv 3) pe_non (nomark _)) (pw_or1 (pt_cmpR op_eq (pe_ix ix_tup (pv 2) pe_int (fun _ _ => rfl)) pe_int (nomark _))))) pe_non (pe_ifExp (pt_cmpR op_gt (pe_ix ix_tup (pv 2) pe_int (fun _ _ => rfl)) pe_int (nomark _)) (pv 3) (pe_tup (pa_cons (pe_op op_sub (pe_int) (pe_ix ix_tup (pv 3) pe_int (fun _ _ => rfl))) (pa_cons (pe_op op_sub (pe_int) (pe_ix ix_tup (pv 3) pe_int (fun _ _ => rfl))) pa_nil)))))) (pss_cons (ps_if (pt_cmpR op_ne (pe_callB (call_reprD hgd hu) (by rfl) rp (by decide +kernel) (pa_cons (pe_call (T.oDirOf N) hr5 rfl (T.fn 30 "direction_of" rfl).2 (T.fn 30 "direction_of" rfl).1.kp (bindsDirOf (T.fn 30 "direction_of" rfl).1) .nil pass0 (pa_cons (pe_call (T.oLGrow N) hr2 rfl (T.fn 52 "_law_grow" rfl).2 (T.fn 52 "_law_grow" rfl).1.kp (bindsLGrow (T.fn 52 "_law_grow" rfl).1) .nil pass0 (pa_cons (pv 1) (pa_cons (pv 2) pa_nil))) pa_nil)) pa_nil)) (pe_callB (call_reprD hgd hu) (by rfl) rp (by decide +kernel) (pa_cons (pv 4) pa_nil)) (nomark _)) (pss_one (ps_ret pe_bl)) pss_nil) (pss_cons (ps_for PassesOwn.never rfl (pi_list (pv 0)) (pg_name (i := 5) scLDirectionsRight.nd rfl (Or.inl rfl)) (pss_one (ps_for PassesOwn.never rfl (pi_list (pv 0)) (pg_name (i := 6) scLDirectionsRight.nd rfl (Or.inl rfl)) (pss_one (ps_if (pt_cmpR op_ne (pe_callB (call_reprD hgd hu) (by rfl) rp (by decide +kernel) (pa_cons (pe_call (T.oEarl N) hr5 rfl (T.fn 31 "is_earlier" rfl).2 (T.fn 31 "is_earlier" rfl).1.kp (bindsEarl (T.fn 31 "is_earlier" rfl).1) .nil pass0 (pa_cons (pv 5) (pa_cons (pv 6) pa_nil))) pa_nil)) (pe_callB (call_reprD hgd hu) (by rfl) rp (by decide +kernel) (pa_cons (pe_and (pe_cmpR (op_neD hu) (pv 5) (pv 6) (nomark _)) (pe_one (pe_call (T.oLBefore N) hr2 rfl (T.fn 58 "_law_before" rfl).2 (T.fn 58 "_law_before" rfl).1.kp (bindsLBefore (T.fn 58 "_law_before" rfl).1) .nil pass0 (pa_cons (pv 5) (pa_cons (pv 6) pa_nil))))) pa_nil)) (nomark _)) (pss_one (ps_ret pe_bl)) pss_nil))))) (pss_one (ps_ret (pe_cmpR op_eq (pe_callB (call_reprD hgd hu) (by rfl) rp (by decide +kernel) (pa_cons (pe_callK0 (T.oEarl N) hr5 rfl (T.fn 31 "is_earlier" rfl).2 (T.fn 31 "is_earlier" rfl).1.kp (kb2 (ks := ["other", "direction"]) true rfl (fun s a b => kbD (T.fn 31 "is_earlier" rfl).1 (fun _ _ _ _ _ _ => rfl) s)) pass0 (pk_cons (pe_ix ix_list (pv 0) pe_int (fun _ _ => rfl)) (pk_cons (pe_tup (pa_cons (pe_int) (pa_cons (pe_int) pa_nil))) pk_nil))) pa_nil)) (pe_callB (call_reprD hgd hu) (by rfl) rp (by decide +kernel) (pa_cons (pe_cmpR (op_neD hu) (pe_ix ix_list (pv 0) pe_int (fun _ _ => rfl)) (pe_tup (pa_cons (pe_int) (pa_cons (pe_int) pa_nil))) (nomark _)) pa_nil)) (nomark _))))))))), ?_⟩
    have h1 : At3 H (.ref a1) p := ⟨a1, rfl, e1⟩
    have h3 : At2 H (.ref a3) ⟨n, m⟩ := ⟨a3, rfl, e3⟩
    have c1 := b1.sm (by decide) (by decide)
    have l1 := b1.li (by decide) (by decide)
    have w1 := b1.pt.1
    have f0 : 0 < m := b3.fr.1
    have gl := g2_bd (m := 99) (by decide) b1.x0 b1.x1 b1.y0 b1.y1
    obtain ⟨t7, t8⟩ := Bd3.times (k := 7) (l := 3) (M := 693) (W := 15) (f := ⟨7, 3⟩) b1 (by decide) (by decide) (by decide) (by decide) (by decide) (by decide) (by decide) (by decide)
    obtain ⟨v1, v2⟩ := Bd3.times (k := 6) (l := 4) (M := 594) (W := 20) (f := ⟨n, m⟩) b1 b3.n0 b3.n1 f0 b3.d1 (by decide) (by decide) (by decide) (by decide)
    have gl7 := g2_bd (m := 693) (by decide) t7.x0 t7.x1 t7.y0 t7.y1
    have glv := g2_bd (m := 594) (by decide) v1.x0 v1.x1 v1.y0 v1.y1
    refine ⟨_, rfl, 2, rfl, a1, _, rfl, SqT.of e1, (by show ¬ (HT.sIx 3 0 none = 0 ∧ HT.sIx 3 3 (some 2) = 3); decide), fun ad1 ae1 => ?_⟩
    have st1 := sameNew (o := .tup [V.int p.x, V.int p.y]) ae1
    refine ⟨(by show 2 ≤ sizeLine; decide), fun ad2 ae2 => ?_⟩
    have st2 := sameNew (o := .tup [V.int 0, V.int 0]) ae2
    have hA : (upd (upd H ad1 (.tup [V.int p.x, V.int p.y])) ad2 (.tup [V.int 0, V.int 0])) ad1 = some (.tup [V.int p.x, V.int p.y]) := st2 _ _ upd_same
    refine ⟨d2 ⟨p.x, p.y⟩, d2 ⟨0, 0⟩, Dp.tup (SqT.of hA) (.cons (.int _) (.cons (.int _) .nil)), Dp.tup (SqT.of upd_same) (.cons (.int _) (.cons (.int _) .nil)), rfl, rfl, _, rfl, ?_⟩
    rw [eqv2]
    dsimp only
    by_cases hz : g2 p.x p.y = 0
    · have ez : (p.x == 0 && p.y == 0) = true := by
        obtain ⟨z1, z2⟩ := g2_zero.mp hz
        rw [z1, z2]
        rfl
      rw [ez]
      refine iteF ?_
      refine ⟨_, rfl, (.ref a1), p, rfl, (At3.mono (st1.trans st2) h1), b1.pt, by omega, fun _ H3 st3 => ?_, fun z => absurd hz z⟩
      refine ⟨_, rfl, ?_⟩
      refine ⟨(by show 2 ≤ sizeLine; decide), fun ad4 ae4 => ?_⟩
      have st4 := sameNew (o := .tup [V.int 7, V.int 3]) ae4
      refine ⟨(.ref a1), _, p, ⟨7, 3⟩, rfl, (At3.mono (st1.trans (st2.trans (st3.trans st4))) h1), ⟨ad4, rfl, upd_same⟩, l1, t8, fun r5 H5 st5 k5 => ?_⟩
      refine ⟨r5, pTimes p ⟨7, 3⟩, rfl, k5, t7.pt, by omega, fun _ H6 st6 => ?_, fun z => absurd (grow_o w1 (by decide) hz) z⟩
      refine ⟨(by show 2 ≤ sizeLine; decide), fun ad7 ae7 => ?_⟩
      have st7 := sameNew (o := .lst [V.non, V.non]) ae7
      obtain ⟨za1, zb1, zc1, zd1⟩ := rrL (K := K) (H := (upd H6 ad7 (.lst [V.non, V.non]))) (r := ad7) (ds := [PyData.none, PyData.none]) upd_same (.cons Dp.non (.cons Dp.non .nil)) (mem2 (non_sml) (non_sml)) (by show 2 ≤ 100; decide)
      refine ⟨_, _, rfl, za1, zb1, zc1, zd1, ?_⟩
      generalize hz1 : (PyData.list [PyData.none, PyData.none]).shown = sz1
      refine ⟨_, rfl, ?_⟩
      refine ⟨_, rfl, ?_⟩
      refine ⟨(by show 2 ≤ sizeLine; decide), fun ad8 ae8 => ?_⟩
      have st8 := sameNew (o := .lst [V.non, V.non]) ae8
      obtain ⟨za2, zb2, zc2, zd2⟩ := rrL (K := K) (H := (upd (upd H6 ad7 (.lst [V.non, V.non])) ad8 (.lst [V.non, V.non]))) (r := ad8) (ds := [PyData.none, PyData.none]) upd_same (.cons Dp.non (.cons Dp.non .nil)) (mem2 (non_sml) (non_sml)) (by show 2 ≤ 100; decide)
      refine ⟨_, _, rfl, za2, zb2, zc2, zd2, ?_⟩
      rw [hz1]
      refine ⟨rfl, _, rfl, iteNS rfl ?_⟩
      refine ⟨_, rfl, rfl, _, rfl, ?_⟩
      rw [decide_eq_true rfl]
      refine iteT (iteT ?_)
      refine ⟨_, rfl, _, rfl, (.ref a1), (.ref a3), p, ⟨n, m⟩, rfl, (At3.mono (st1.trans (st2.trans (st3.trans (st4.trans (st5.trans (st6.trans (st7.trans st8))))))) h1), (At2.mono (st1.trans (st2.trans (st3.trans (st4.trans (st5.trans (st6.trans (st7.trans st8))))))) h3), l1, v2, fun r9 H9 st9 k9 => ?_⟩
      refine ⟨r9, pTimes p ⟨n, m⟩, rfl, k9, v1.pt, by omega, fun _ H10 st10 => ?_, fun z => absurd (grow_o w1 f0 hz) z⟩
      obtain ⟨za3, zb3, zc3, zd3⟩ := rrD (K := K) (H := H10) (v := V.non) (d := PyData.none) Dp.non (non_sml)
      refine ⟨_, _, rfl, za3, zb3, zc3, zd3, ?_⟩
      generalize hz3 : (PyData.none).shown = sz3
      refine ⟨_, rfl, ?_⟩
      obtain ⟨za4, zb4, zc4, zd4⟩ := rrD (K := K) (H := H10) (v := V.non) (d := PyData.none) Dp.non (non_sml)
      refine ⟨_, _, rfl, za4, zb4, zc4, zd4, ?_⟩
      rw [hz3]
      refine ⟨rfl, _, rfl, iteNS rfl ?_⟩
      have SC := ((st1.trans (st2.trans (st3.trans (st4.trans (st5.trans (st6.trans (st7.trans (st8.trans (st9.trans st10)))))))))).seq SG
      refine ⟨_, rfl, ag, rfl, ⟨_, SC⟩, for_list (K := K) (a := ag) (xs := us) (fun i σ H' => ∃ v5 v6 : Option V, σ = [some (.ref ag), some (.ref a1), some (.ref a3), some V.non, some V.non, v5, v6] ∧ Same (H10) H') ⟨none, none, rfl, Same.refl _⟩ (fun i σ H' _ ⟨_, _, _, e⟩ => e.seq SC) ?_ ?_⟩
      · rintro i gv σ HX hi ⟨v5, v6, rfl, ss⟩
        obtain ⟨gf, hg, hgu⟩ := HG i gv hi
        refine ⟨_, rfl, ag, rfl, ⟨_, ss.seq SC⟩, for_list (K := K) (a := ag) (xs := us) (fun j σ H' => ∃ v6 : Option V, σ = [some (.ref ag), some (.ref a1), some (.ref a3), some V.non, some V.non, some gv, v6] ∧ Same (H10) H') ⟨v6, rfl, ss⟩ (fun i σ H' _ ⟨_, _, e⟩ => e.seq SC) ?_ ?_⟩
        · rintro j rv σ2 HY hj ⟨v6, rfl, s2⟩
          obtain ⟨rf, hrr, hru⟩ := HG j rv hj
          have SY := ((st1.trans (st2.trans (st3.trans (st4.trans (st5.trans (st6.trans (st7.trans (st8.trans (st9.trans st10)))))))))).trans s2
          refine ⟨_, rfl, _, rfl, gv, rv, gf, rf, rfl, hg.mono SY, hrr.mono SY, hgu.di, hru.di, hgu.li.1.sm, hgu.li.2.sm, fun HZ s3 => ?_⟩
          have SZ := SY.trans s3
          generalize hE : earl gf rf = E
          have bs := bl_sml E
          refine ⟨_, .bool E, rfl, .inl (Dp.bl _), bs.1, Nat.le_trans bs.2.1 (by decide), Nat.le_trans bs.2.2 (by decide), ?_⟩
          refine ⟨_, rfl, _, rfl, d2 gf, d2 rf, (hg.mono SZ).dp, (hrr.mono SZ).dp, rfl, rfl, _, rfl, ?_⟩
          rw [eqv2]
          by_cases pe : gf = rf
          · subst pe
            rw [earl_self] at hE
            subst hE
            rw [beq_self_eq_true, beq_self_eq_true]
            refine iteF ⟨_, .bool false, rfl, .inl (Dp.bl _), bs.1, Nat.le_trans bs.2.1 (by decide), Nat.le_trans bs.2.2 (by decide), ?_⟩
            generalize (PyData.bool false).shown = sE
            exact ⟨rfl, _, rfl, iteNS rfl ⟨_, rfl, s2.trans s3⟩⟩
          · have ef : (gf.n == rf.n && gf.d == rf.d) = false := by
              refine Bool.eq_false_iff.mpr fun z => pe ?_
              obtain ⟨y1, y2⟩ := Bool.and_eq_true_iff.mp z
              have y3 := eq_of_beq y1
              have y4 := eq_of_beq y2
              obtain ⟨c, d⟩ := gf
              obtain ⟨c2, d2⟩ := rf
              dsimp only at y3 y4
              rw [y3, y4]
            rw [ef]
            refine iteT ⟨_, rfl, _, rfl, gv, rv, gf, rf, rfl, hg.mono SZ, hrr.mono SZ, hgu.li, ?_⟩
            rw [hE]
            refine ⟨_, .bool E, rfl, .inl (Dp.bl _), bs.1, Nat.le_trans bs.2.1 (by decide), Nat.le_trans bs.2.2 (by decide), ?_⟩
            generalize (PyData.bool E).shown = sE
            exact ⟨rfl, _, rfl, iteNS rfl ⟨_, rfl, s2.trans s3⟩⟩
        · rintro σ2 HY ⟨v6, rfl, s2⟩
          exact ⟨_, _, rfl, s2⟩
      · rintro σ HX ⟨v5, v6, rfl, ss⟩
        have SX := ((st1.trans (st2.trans (st3.trans (st4.trans (st5.trans (st6.trans (st7.trans (st8.trans (st9.trans st10)))))))))).trans ss
        obtain ⟨gf, hg, hgu⟩ := HG 0 u0 at0
        refine ⟨_, rfl, ag, us, 0, u0, rfl, rfl, ss.seq SC, atI_nat at0, (by show 2 ≤ sizeLine; decide), fun b hb => ?_⟩
        have s4 := sameNew (o := .tup [V.int 1, V.int 0]) hb
        refine ⟨.ref b, u0, ⟨1, 0⟩, gf, rfl, ⟨b, rfl, upd_same⟩, (hg.mono SX).mono s4, rfl, hgu.di, ⟨by decide, by decide⟩, ⟨by decide, by decide⟩, fun HZ s5 => ?_⟩
        rw [earl_one hgu.di]
        have S6 := SX.trans (s4.trans s5)
        have q := eqv2 gf ⟨1, 0⟩
        dsimp only at q
        generalize hE : (!(gf.n == 1 && gf.d == 0)) = E
        have bs := bl_sml E
        refine ⟨_, .bool E, rfl, .inl (Dp.bl _), bs.1, Nat.le_trans bs.2.1 (by decide), Nat.le_trans bs.2.2 (by decide), ?_⟩
        refine ⟨_, rfl, ag, us, 0, u0, rfl, rfl, (ss.trans (s4.trans s5)).seq SC, atI_nat at0, (by show 2 ≤ sizeLine; decide), fun b2 hb2 => ?_⟩
        have s7 := sameNew (o := .tup [V.int 1, V.int 0]) hb2
        refine ⟨d2 gf, d2 ⟨1, 0⟩, ((hg.mono S6).mono s7).dp, Dp.tup (SqT.of upd_same) (.cons (.int _) (.cons (.int _) .nil)), rfl, rfl, ?_⟩
        rw [q, hE]
        refine ⟨_, .bool E, rfl, .inl (Dp.bl _), bs.1, Nat.le_trans bs.2.1 (by decide), Nat.le_trans bs.2.2 (by decide), ?_⟩
        generalize (PyData.bool E).shown = sE
        refine ⟨rfl, ?_⟩
        rw [decide_eq_true (show V.str sE = V.str sE from rfl)]
        exact k _ (S6.trans s7)
    · have hg1 : 1 ≤ g2 p.x p.y := by have := g2_nonneg p.x p.y; omega
      have ez : (p.x == 0 && p.y == 0) = false := by
        refine Bool.eq_false_iff.mpr fun z => hz ?_
        obtain ⟨y1, y2⟩ := Bool.and_eq_true_iff.mp z
        exact g2_zero.mpr ⟨eq_of_beq y1, eq_of_beq y2⟩
      rw [ez]
      refine iteT ?_
      obtain ⟨dl, dl1, dl2⟩ := nm2_lim hg1 (by have := b1.x0; omega) (by have := b1.x1; omega) (by have := b1.y0; omega) (by have := b1.y1; omega)
      refine ⟨_, rfl, 2, rfl, a1, _, rfl, SqT.of ((st1.trans st2) _ _ e1), (by show ¬ (HT.sIx 3 0 none = 0 ∧ HT.sIx 3 3 (some 2) = 3); decide), fun ad3 ae3 => ?_⟩
      have st3 := sameNew (o := .tup [V.int p.x, V.int p.y]) ae3
      refine ⟨ad3, [p.x, p.y], rfl, upd_same, (by show 2 ≤ 3; decide), lim2 l1.1 l1.2.1, fun od H4 st4 ke => ?_⟩
      obtain ⟨od2, eo, oe⟩ := at2_of ke
      cases eo
      refine ⟨_, rfl, (.ref a1), p, rfl, (At3.mono (st1.trans (st2.trans (st3.trans st4))) h1), b1.pt, by omega, fun z => absurd z hz, fun _ r5 H5 st5 k5 => ?_⟩
      replace k5 : At2 H5 r5 (nm2 (p).x (p).y) := k5
      refine ⟨_, rfl, ?_⟩
      refine ⟨(by show 2 ≤ sizeLine; decide), fun ad6 ae6 => ?_⟩
      have st6 := sameNew (o := .tup [V.int 7, V.int 3]) ae6
      refine ⟨(.ref a1), _, p, ⟨7, 3⟩, rfl, (At3.mono (st1.trans (st2.trans (st3.trans (st4.trans (st5.trans st6))))) h1), ⟨ad6, rfl, upd_same⟩, l1, t8, fun r7 H7 st7 k7 => ?_⟩
      refine ⟨r7, pTimes p ⟨7, 3⟩, rfl, k7, t7.pt, by omega, fun z => absurd z (fun y => hz ((grow_dir (f := ⟨7, 3⟩) w1 (by decide) (by decide)).2.mp y)), fun _ r8 H8 st8 k8 => ?_⟩
      replace k8 : At2 H8 r8 (nm2 (pTimes p ⟨7, 3⟩).x (pTimes p ⟨7, 3⟩).y) := k8
      rw [(grow_dir (f := ⟨7, 3⟩) w1 (by decide) (by decide)).1] at k8
      refine ⟨(by show 2 ≤ sizeLine; decide), fun ad9 ae9 => ?_⟩
      have st9 := sameNew (o := .lst [r5, r8]) ae9
      obtain ⟨za1, zb1, zc1, zd1⟩ := rrL (K := K) (H := (upd H8 ad9 (.lst [r5, r8]))) (r := ad9) (ds := [d2 (nm2 p.x p.y), d2 (nm2 p.x p.y)]) upd_same (.cons (At2.dp (At2.mono (st6.trans (st7.trans (st8.trans st9))) k5)) (.cons (At2.dp (At2.mono st9 k8)) .nil)) (mem2 (d2_sml dl) (d2_sml dl)) (by show 2 ≤ 100; decide)
      refine ⟨_, _, rfl, za1, zb1, zc1, zd1, ?_⟩
      generalize hz1 : (PyData.list [d2 (nm2 p.x p.y), d2 (nm2 p.x p.y)]).shown = sz1
      refine ⟨_, rfl, ?_⟩
      refine ⟨_, rfl, ?_⟩
      refine ⟨(by show 2 ≤ sizeLine; decide), fun ad10 ae10 => ?_⟩
      have st10 := sameNew (o := .lst [(.ref od), (.ref od)]) ae10
      obtain ⟨za2, zb2, zc2, zd2⟩ := rrL (K := K) (H := (upd (upd H8 ad9 (.lst [r5, r8])) ad10 (.lst [(.ref od), (.ref od)]))) (r := ad10) (ds := [d2 (nm2 p.x p.y), d2 (nm2 p.x p.y)]) upd_same (.cons (At2.dp (At2.mono (st5.trans (st6.trans (st7.trans (st8.trans (st9.trans st10))))) (⟨od, rfl, oe⟩ : At2 H4 (.ref od) (nm2 p.x p.y)))) (.cons (At2.dp (At2.mono (st5.trans (st6.trans (st7.trans (st8.trans (st9.trans st10))))) (⟨od, rfl, oe⟩ : At2 H4 (.ref od) (nm2 p.x p.y)))) .nil)) (mem2 (d2_sml dl) (d2_sml dl)) (by show 2 ≤ 100; decide)
      refine ⟨_, _, rfl, za2, zb2, zc2, zd2, ?_⟩
      rw [hz1]
      refine ⟨rfl, _, rfl, iteNS rfl ?_⟩
      refine ⟨_, rfl, rfl, _, rfl, ?_⟩
      rw [decide_eq_false (show ¬ V.ref od = V.non from fun z => nomatch z)]
      refine iteF ⟨_, rfl, a3, _, 0, .int n, rfl, rfl, SqT.of ((st1.trans (st2.trans (st3.trans (st4.trans (st5.trans (st6.trans (st7.trans (st8.trans (st9.trans st10))))))))) _ _ e3), rfl, rfl, _, rfl, ?_⟩
      by_cases hn : n = 0
      · rw [decide_eq_true (congrArg V.int hn)]
        refine iteT ?_
        refine ⟨_, rfl, _, rfl, (.ref a1), (.ref a3), p, ⟨n, m⟩, rfl, (At3.mono (st1.trans (st2.trans (st3.trans (st4.trans (st5.trans (st6.trans (st7.trans (st8.trans (st9.trans st10))))))))) h1), (At2.mono (st1.trans (st2.trans (st3.trans (st4.trans (st5.trans (st6.trans (st7.trans (st8.trans (st9.trans st10))))))))) h3), l1, v2, fun r11 H11 st11 k11 => ?_⟩
        refine ⟨r11, pTimes p ⟨n, m⟩, rfl, k11, v1.pt, by omega, fun _ H12 st12 => ?_, fun z => absurd (grow_zero (f := ⟨n, m⟩) w1 f0 hn) z⟩
        obtain ⟨za3, zb3, zc3, zd3⟩ := rrD (K := K) (H := H12) (v := V.non) (d := PyData.none) Dp.non (non_sml)
        refine ⟨_, _, rfl, za3, zb3, zc3, zd3, ?_⟩
        generalize hz3 : (PyData.none).shown = sz3
        refine ⟨_, rfl, ?_⟩
        obtain ⟨za4, zb4, zc4, zd4⟩ := rrD (K := K) (H := H12) (v := V.non) (d := PyData.none) Dp.non (non_sml)
        refine ⟨_, _, rfl, za4, zb4, zc4, zd4, ?_⟩
        rw [hz3]
        refine ⟨rfl, _, rfl, iteNS rfl ?_⟩
        have SC := ((st1.trans (st2.trans (st3.trans (st4.trans (st5.trans (st6.trans (st7.trans (st8.trans (st9.trans (st10.trans (st11.trans st12)))))))))))).seq SG
        refine ⟨_, rfl, ag, rfl, ⟨_, SC⟩, for_list (K := K) (a := ag) (xs := us) (fun i σ H' => ∃ v5 v6 : Option V, σ = [some (.ref ag), some (.ref a1), some (.ref a3), some (V.ref od), some V.non, v5, v6] ∧ Same (H12) H') ⟨none, none, rfl, Same.refl _⟩ (fun i σ H' _ ⟨_, _, _, e⟩ => e.seq SC) ?_ ?_⟩
        · rintro i gv σ HX hi ⟨v5, v6, rfl, ss⟩
          obtain ⟨gf, hg, hgu⟩ := HG i gv hi
          refine ⟨_, rfl, ag, rfl, ⟨_, ss.seq SC⟩, for_list (K := K) (a := ag) (xs := us) (fun j σ H' => ∃ v6 : Option V, σ = [some (.ref ag), some (.ref a1), some (.ref a3), some (V.ref od), some V.non, some gv, v6] ∧ Same (H12) H') ⟨v6, rfl, ss⟩ (fun i σ H' _ ⟨_, _, e⟩ => e.seq SC) ?_ ?_⟩
          · rintro j rv σ2 HY hj ⟨v6, rfl, s2⟩
            obtain ⟨rf, hrr, hru⟩ := HG j rv hj
            have SY := ((st1.trans (st2.trans (st3.trans (st4.trans (st5.trans (st6.trans (st7.trans (st8.trans (st9.trans (st10.trans (st11.trans st12)))))))))))).trans s2
            refine ⟨_, rfl, _, rfl, gv, rv, gf, rf, rfl, hg.mono SY, hrr.mono SY, hgu.di, hru.di, hgu.li.1.sm, hgu.li.2.sm, fun HZ s3 => ?_⟩
            have SZ := SY.trans s3
            generalize hE : earl gf rf = E
            have bs := bl_sml E
            refine ⟨_, .bool E, rfl, .inl (Dp.bl _), bs.1, Nat.le_trans bs.2.1 (by decide), Nat.le_trans bs.2.2 (by decide), ?_⟩
            refine ⟨_, rfl, _, rfl, d2 gf, d2 rf, (hg.mono SZ).dp, (hrr.mono SZ).dp, rfl, rfl, _, rfl, ?_⟩
            rw [eqv2]
            by_cases pe : gf = rf
            · subst pe
              rw [earl_self] at hE
              subst hE
              rw [beq_self_eq_true, beq_self_eq_true]
              refine iteF ⟨_, .bool false, rfl, .inl (Dp.bl _), bs.1, Nat.le_trans bs.2.1 (by decide), Nat.le_trans bs.2.2 (by decide), ?_⟩
              generalize (PyData.bool false).shown = sE
              exact ⟨rfl, _, rfl, iteNS rfl ⟨_, rfl, s2.trans s3⟩⟩
            · have ef : (gf.n == rf.n && gf.d == rf.d) = false := by
                refine Bool.eq_false_iff.mpr fun z => pe ?_
                obtain ⟨y1, y2⟩ := Bool.and_eq_true_iff.mp z
                have y3 := eq_of_beq y1
                have y4 := eq_of_beq y2
                obtain ⟨c, d⟩ := gf
                obtain ⟨c2, d2⟩ := rf
                dsimp only at y3 y4
                rw [y3, y4]
              rw [ef]
              refine iteT ⟨_, rfl, _, rfl, gv, rv, gf, rf, rfl, hg.mono SZ, hrr.mono SZ, hgu.li, ?_⟩
              rw [hE]
              refine ⟨_, .bool E, rfl, .inl (Dp.bl _), bs.1, Nat.le_trans bs.2.1 (by decide), Nat.le_trans bs.2.2 (by decide), ?_⟩
              generalize (PyData.bool E).shown = sE
              exact ⟨rfl, _, rfl, iteNS rfl ⟨_, rfl, s2.trans s3⟩⟩
          · rintro σ2 HY ⟨v6, rfl, s2⟩
            exact ⟨_, _, rfl, s2⟩
        · rintro σ HX ⟨v5, v6, rfl, ss⟩
          have SX := ((st1.trans (st2.trans (st3.trans (st4.trans (st5.trans (st6.trans (st7.trans (st8.trans (st9.trans (st10.trans (st11.trans st12)))))))))))).trans ss
          obtain ⟨gf, hg, hgu⟩ := HG 0 u0 at0
          refine ⟨_, rfl, ag, us, 0, u0, rfl, rfl, ss.seq SC, atI_nat at0, (by show 2 ≤ sizeLine; decide), fun b hb => ?_⟩
          have s4 := sameNew (o := .tup [V.int 1, V.int 0]) hb
          refine ⟨.ref b, u0, ⟨1, 0⟩, gf, rfl, ⟨b, rfl, upd_same⟩, (hg.mono SX).mono s4, rfl, hgu.di, ⟨by decide, by decide⟩, ⟨by decide, by decide⟩, fun HZ s5 => ?_⟩
          rw [earl_one hgu.di]
          have S6 := SX.trans (s4.trans s5)
          have q := eqv2 gf ⟨1, 0⟩
          dsimp only at q
          generalize hE : (!(gf.n == 1 && gf.d == 0)) = E
          have bs := bl_sml E
          refine ⟨_, .bool E, rfl, .inl (Dp.bl _), bs.1, Nat.le_trans bs.2.1 (by decide), Nat.le_trans bs.2.2 (by decide), ?_⟩
          refine ⟨_, rfl, ag, us, 0, u0, rfl, rfl, (ss.trans (s4.trans s5)).seq SC, atI_nat at0, (by show 2 ≤ sizeLine; decide), fun b2 hb2 => ?_⟩
          have s7 := sameNew (o := .tup [V.int 1, V.int 0]) hb2
          refine ⟨d2 gf, d2 ⟨1, 0⟩, ((hg.mono S6).mono s7).dp, Dp.tup (SqT.of upd_same) (.cons (.int _) (.cons (.int _) .nil)), rfl, rfl, ?_⟩
          rw [q, hE]
          refine ⟨_, .bool E, rfl, .inl (Dp.bl _), bs.1, Nat.le_trans bs.2.1 (by decide), Nat.le_trans bs.2.2 (by decide), ?_⟩
          generalize (PyData.bool E).shown = sE
          refine ⟨rfl, ?_⟩
          rw [decide_eq_true (show V.str sE = V.str sE from rfl)]
          exact k _ (S6.trans s7)
      · rw [decide_eq_false (fun z => hn (V.int.inj z))]
        refine iteF ⟨_, rfl, a3, _, 0, .int n, rfl, rfl, SqT.of ((st1.trans (st2.trans (st3.trans (st4.trans (st5.trans (st6.trans (st7.trans (st8.trans (st9.trans st10))))))))) _ _ e3), rfl, _, _, rfl, rfl, _, rfl, ?_⟩
        by_cases hp : 0 < n
        · rw [decide_eq_true hp]
          refine iteT ⟨_, rfl, ?_⟩
          refine ⟨_, rfl, _, rfl, (.ref a1), (.ref a3), p, ⟨n, m⟩, rfl, (At3.mono (st1.trans (st2.trans (st3.trans (st4.trans (st5.trans (st6.trans (st7.trans (st8.trans (st9.trans st10))))))))) h1), (At2.mono (st1.trans (st2.trans (st3.trans (st4.trans (st5.trans (st6.trans (st7.trans (st8.trans (st9.trans st10))))))))) h3), l1, v2, fun r11 H11 st11 k11 => ?_⟩
          refine ⟨r11, pTimes p ⟨n, m⟩, rfl, k11, v1.pt, by omega, fun z => absurd z (fun y => hz ((grow_dir (f := ⟨n, m⟩) w1 f0 hp).2.mp y)), fun _ r12 H12 st12 k12 => ?_⟩
          replace k12 : At2 H12 r12 (nm2 (pTimes p ⟨n, m⟩).x (pTimes p ⟨n, m⟩).y) := k12
          rw [(grow_dir (f := ⟨n, m⟩) w1 f0 hp).1] at k12
          obtain ⟨za3, zb3, zc3, zd3⟩ := rrD (K := K) (H := H12) (v := r12) (d := d2 (nm2 p.x p.y)) (At2.dp k12) (d2_sml dl)
          refine ⟨_, _, rfl, za3, zb3, zc3, zd3, ?_⟩
          generalize hz3 : (d2 (nm2 p.x p.y)).shown = sz3
          refine ⟨_, rfl, ?_⟩
          obtain ⟨za4, zb4, zc4, zd4⟩ := rrD (K := K) (H := H12) (v := (.ref od)) (d := d2 (nm2 p.x p.y)) (At2.dp (At2.mono (st5.trans (st6.trans (st7.trans (st8.trans (st9.trans (st10.trans (st11.trans st12))))))) (⟨od, rfl, oe⟩ : At2 H4 (.ref od) (nm2 p.x p.y)))) (d2_sml dl)
          refine ⟨_, _, rfl, za4, zb4, zc4, zd4, ?_⟩
          rw [hz3]
          refine ⟨rfl, _, rfl, iteNS rfl ?_⟩
          have SC := ((st1.trans (st2.trans (st3.trans (st4.trans (st5.trans (st6.trans (st7.trans (st8.trans (st9.trans (st10.trans (st11.trans st12)))))))))))).seq SG
          refine ⟨_, rfl, ag, rfl, ⟨_, SC⟩, for_list (K := K) (a := ag) (xs := us) (fun i σ H' => ∃ v5 v6 : Option V, σ = [some (.ref ag), some (.ref a1), some (.ref a3), some (V.ref od), some (V.ref od), v5, v6] ∧ Same (H12) H') ⟨none, none, rfl, Same.refl _⟩ (fun i σ H' _ ⟨_, _, _, e⟩ => e.seq SC) ?_ ?_⟩
          · rintro i gv σ HX hi ⟨v5, v6, rfl, ss⟩
            obtain ⟨gf, hg, hgu⟩ := HG i gv hi
            refine ⟨_, rfl, ag, rfl, ⟨_, ss.seq SC⟩, for_list (K := K) (a := ag) (xs := us) (fun j σ H' => ∃ v6 : Option V, σ = [some (.ref ag), some (.ref a1), some (.ref a3), some (V.ref od), some (V.ref od), some gv, v6] ∧ Same (H12) H') ⟨v6, rfl, ss⟩ (fun i σ H' _ ⟨_, _, e⟩ => e.seq SC) ?_ ?_⟩
            · rintro j rv σ2 HY hj ⟨v6, rfl, s2⟩
              obtain ⟨rf, hrr, hru⟩ := HG j rv hj
              have SY := ((st1.trans (st2.trans (st3.trans (st4.trans (st5.trans (st6.trans (st7.trans (st8.trans (st9.trans (st10.trans (st11.trans st12)))))))))))).trans s2
              refine ⟨_, rfl, _, rfl, gv, rv, gf, rf, rfl, hg.mono SY, hrr.mono SY, hgu.di, hru.di, hgu.li.1.sm, hgu.li.2.sm, fun HZ s3 => ?_⟩
              have SZ := SY.trans s3
              generalize hE : earl gf rf = E
              have bs := bl_sml E
              refine ⟨_, .bool E, rfl, .inl (Dp.bl _), bs.1, Nat.le_trans bs.2.1 (by decide), Nat.le_trans bs.2.2 (by decide), ?_⟩
              refine ⟨_, rfl, _, rfl, d2 gf, d2 rf, (hg.mono SZ).dp, (hrr.mono SZ).dp, rfl, rfl, _, rfl, ?_⟩
              rw [eqv2]
              by_cases pe : gf = rf
              · subst pe
                rw [earl_self] at hE
                subst hE
                rw [beq_self_eq_true, beq_self_eq_true]
                refine iteF ⟨_, .bool false, rfl, .inl (Dp.bl _), bs.1, Nat.le_trans bs.2.1 (by decide), Nat.le_trans bs.2.2 (by decide), ?_⟩
                generalize (PyData.bool false).shown = sE
                exact ⟨rfl, _, rfl, iteNS rfl ⟨_, rfl, s2.trans s3⟩⟩
              · have ef : (gf.n == rf.n && gf.d == rf.d) = false := by
                  refine Bool.eq_false_iff.mpr fun z => pe ?_
                  obtain ⟨y1, y2⟩ := Bool.and_eq_true_iff.mp z
                  have y3 := eq_of_beq y1
                  have y4 := eq_of_beq y2
                  obtain ⟨c, d⟩ := gf
                  obtain ⟨c2, d2⟩ := rf
                  dsimp only at y3 y4
                  rw [y3, y4]
                rw [ef]
                refine iteT ⟨_, rfl, _, rfl, gv, rv, gf, rf, rfl, hg.mono SZ, hrr.mono SZ, hgu.li, ?_⟩
                rw [hE]
                refine ⟨_, .bool E, rfl, .inl (Dp.bl _), bs.1, Nat.le_trans bs.2.1 (by decide), Nat.le_trans bs.2.2 (by decide), ?_⟩
                generalize (PyData.bool E).shown = sE
                exact ⟨rfl, _, rfl, iteNS rfl ⟨_, rfl, s2.trans s3⟩⟩
            · rintro σ2 HY ⟨v6, rfl, s2⟩
              exact ⟨_, _, rfl, s2⟩
          · rintro σ HX ⟨v5, v6, rfl, ss⟩
            have SX := ((st1.trans (st2.trans (st3.trans (st4.trans (st5.trans (st6.trans (st7.trans (st8.trans (st9.trans (st10.trans (st11.trans st12)))))))))))).trans ss
            obtain ⟨gf, hg, hgu⟩ := HG 0 u0 at0
            refine ⟨_, rfl, ag, us, 0, u0, rfl, rfl, ss.seq SC, atI_nat at0, (by show 2 ≤ sizeLine; decide), fun b hb => ?_⟩
            have s4 := sameNew (o := .tup [V.int 1, V.int 0]) hb
            refine ⟨.ref b, u0, ⟨1, 0⟩, gf, rfl, ⟨b, rfl, upd_same⟩, (hg.mono SX).mono s4, rfl, hgu.di, ⟨by decide, by decide⟩, ⟨by decide, by decide⟩, fun HZ s5 => ?_⟩
            rw [earl_one hgu.di]
            have S6 := SX.trans (s4.trans s5)
            have q := eqv2 gf ⟨1, 0⟩
            dsimp only at q
            generalize hE : (!(gf.n == 1 && gf.d == 0)) = E
            have bs := bl_sml E
            refine ⟨_, .bool E, rfl, .inl (Dp.bl _), bs.1, Nat.le_trans bs.2.1 (by decide), Nat.le_trans bs.2.2 (by decide), ?_⟩
            refine ⟨_, rfl, ag, us, 0, u0, rfl, rfl, (ss.trans (s4.trans s5)).seq SC, atI_nat at0, (by show 2 ≤ sizeLine; decide), fun b2 hb2 => ?_⟩
            have s7 := sameNew (o := .tup [V.int 1, V.int 0]) hb2
            refine ⟨d2 gf, d2 ⟨1, 0⟩, ((hg.mono S6).mono s7).dp, Dp.tup (SqT.of upd_same) (.cons (.int _) (.cons (.int _) .nil)), rfl, rfl, ?_⟩
            rw [q, hE]
            refine ⟨_, .bool E, rfl, .inl (Dp.bl _), bs.1, Nat.le_trans bs.2.1 (by decide), Nat.le_trans bs.2.2 (by decide), ?_⟩
            generalize (PyData.bool E).shown = sE
            refine ⟨rfl, ?_⟩
            rw [decide_eq_true (show V.str sE = V.str sE from rfl)]
            exact k _ (S6.trans s7)
        · have hm : n < 0 := by omega
          rw [decide_eq_false hp]
          refine iteF ⟨_, rfl, od, _, 0, .int (nm2 p.x p.y).n, rfl, rfl, SqT.of ((st5.trans (st6.trans (st7.trans (st8.trans (st9.trans st10))))) _ _ oe), rfl, _, _, rfl, rfl, _, rfl, od, _, 1, .int (nm2 p.x p.y).d, rfl, rfl, SqT.of ((st5.trans (st6.trans (st7.trans (st8.trans (st9.trans st10))))) _ _ oe), rfl, _, _, rfl, rfl, ?_⟩
          refine ⟨(by show 2 ≤ sizeLine; decide), fun ad11 ae11 => ?_⟩
          have st11 := sameNew (o := .tup [V.int (0 - (nm2 p.x p.y).n), V.int (0 - (nm2 p.x p.y).d)]) ae11
          refine ⟨_, rfl, _, rfl, (.ref a1), (.ref a3), p, ⟨n, m⟩, rfl, (At3.mono (st1.trans (st2.trans (st3.trans (st4.trans (st5.trans (st6.trans (st7.trans (st8.trans (st9.trans (st10.trans st11)))))))))) h1), (At2.mono (st1.trans (st2.trans (st3.trans (st4.trans (st5.trans (st6.trans (st7.trans (st8.trans (st9.trans (st10.trans st11)))))))))) h3), l1, v2, fun r12 H12 st12 k12 => ?_⟩
          refine ⟨r12, pTimes p ⟨n, m⟩, rfl, k12, v1.pt, by omega, fun z => absurd z (grow_neg (f := ⟨n, m⟩) w1 f0 hm hg1).2, fun _ r13 H13 st13 k13 => ?_⟩
          replace k13 : At2 H13 r13 (nm2 (pTimes p ⟨n, m⟩).x (pTimes p ⟨n, m⟩).y) := k13
          rw [(grow_neg (f := ⟨n, m⟩) w1 f0 hm hg1).1] at k13
          obtain ⟨za3, zb3, zc3, zd3⟩ := rrD (K := K) (H := H13) (v := r13) (d := d2 ⟨0 - (nm2 p.x p.y).n, 0 - (nm2 p.x p.y).d⟩) (At2.dp k13) (d2_sml ⟨dl1, dl2⟩)
          refine ⟨_, _, rfl, za3, zb3, zc3, zd3, ?_⟩
          generalize hz3 : (d2 ⟨0 - (nm2 p.x p.y).n, 0 - (nm2 p.x p.y).d⟩).shown = sz3
          refine ⟨_, rfl, ?_⟩
          obtain ⟨za4, zb4, zc4, zd4⟩ := rrD (K := K) (H := H13) (v := (.ref ad11)) (d := d2 ⟨0 - (nm2 p.x p.y).n, 0 - (nm2 p.x p.y).d⟩) (At2.dp (At2.mono (st12.trans st13) (⟨ad11, rfl, upd_same⟩ : At2 (upd (upd (upd H8 ad9 (.lst [r5, r8])) ad10 (.lst [(.ref od), (.ref od)])) ad11 (.tup [V.int (0 - (nm2 p.x p.y).n), V.int (0 - (nm2 p.x p.y).d)])) (.ref ad11) ⟨0 - (nm2 p.x p.y).n, 0 - (nm2 p.x p.y).d⟩))) (d2_sml ⟨dl1, dl2⟩)
          refine ⟨_, _, rfl, za4, zb4, zc4, zd4, ?_⟩
          rw [hz3]
          refine ⟨rfl, _, rfl, iteNS rfl ?_⟩
          have SC := ((st1.trans (st2.trans (st3.trans (st4.trans (st5.trans (st6.trans (st7.trans (st8.trans (st9.trans (st10.trans (st11.trans (st12.trans st13))))))))))))).seq SG
          refine ⟨_, rfl, ag, rfl, ⟨_, SC⟩, for_list (K := K) (a := ag) (xs := us) (fun i σ H' => ∃ v5 v6 : Option V, σ = [some (.ref ag), some (.ref a1), some (.ref a3), some (V.ref od), some (V.ref ad11), v5, v6] ∧ Same (H13) H') ⟨none, none, rfl, Same.refl _⟩ (fun i σ H' _ ⟨_, _, _, e⟩ => e.seq SC) ?_ ?_⟩
          · rintro i gv σ HX hi ⟨v5, v6, rfl, ss⟩
            obtain ⟨gf, hg, hgu⟩ := HG i gv hi
            refine ⟨_, rfl, ag, rfl, ⟨_, ss.seq SC⟩, for_list (K := K) (a := ag) (xs := us) (fun j σ H' => ∃ v6 : Option V, σ = [some (.ref ag), some (.ref a1), some (.ref a3), some (V.ref od), some (V.ref ad11), some gv, v6] ∧ Same (H13) H') ⟨v6, rfl, ss⟩ (fun i σ H' _ ⟨_, _, e⟩ => e.seq SC) ?_ ?_⟩
            · rintro j rv σ2 HY hj ⟨v6, rfl, s2⟩
              obtain ⟨rf, hrr, hru⟩ := HG j rv hj
              have SY := ((st1.trans (st2.trans (st3.trans (st4.trans (st5.trans (st6.trans (st7.trans (st8.trans (st9.trans (st10.trans (st11.trans (st12.trans st13))))))))))))).trans s2
              refine ⟨_, rfl, _, rfl, gv, rv, gf, rf, rfl, hg.mono SY, hrr.mono SY, hgu.di, hru.di, hgu.li.1.sm, hgu.li.2.sm, fun HZ s3 => ?_⟩
              have SZ := SY.trans s3
              generalize hE : earl gf rf = E
              have bs := bl_sml E
              refine ⟨_, .bool E, rfl, .inl (Dp.bl _), bs.1, Nat.le_trans bs.2.1 (by decide), Nat.le_trans bs.2.2 (by decide), ?_⟩
              refine ⟨_, rfl, _, rfl, d2 gf, d2 rf, (hg.mono SZ).dp, (hrr.mono SZ).dp, rfl, rfl, _, rfl, ?_⟩
              rw [eqv2]
              by_cases pe : gf = rf
              · subst pe
                rw [earl_self] at hE
                subst hE
                rw [beq_self_eq_true, beq_self_eq_true]
                refine iteF ⟨_, .bool false, rfl, .inl (Dp.bl _), bs.1, Nat.le_trans bs.2.1 (by decide), Nat.le_trans bs.2.2 (by decide), ?_⟩
                generalize (PyData.bool false).shown = sE
                exact ⟨rfl, _, rfl, iteNS rfl ⟨_, rfl, s2.trans s3⟩⟩
              · have ef : (gf.n == rf.n && gf.d == rf.d) = false := by
                  refine Bool.eq_false_iff.mpr fun z => pe ?_
                  obtain ⟨y1, y2⟩ := Bool.and_eq_true_iff.mp z
                  have y3 := eq_of_beq y1
                  have y4 := eq_of_beq y2
                  obtain ⟨c, d⟩ := gf
                  obtain ⟨c2, d2⟩ := rf
                  dsimp only at y3 y4
                  rw [y3, y4]
                rw [ef]
                refine iteT ⟨_, rfl, _, rfl, gv, rv, gf, rf, rfl, hg.mono SZ, hrr.mono SZ, hgu.li, ?_⟩
                rw [hE]
                refine ⟨_, .bool E, rfl, .inl (Dp.bl _), bs.1, Nat.le_trans bs.2.1 (by decide), Nat.le_trans bs.2.2 (by decide), ?_⟩
                generalize (PyData.bool E).shown = sE
                exact ⟨rfl, _, rfl, iteNS rfl ⟨_, rfl, s2.trans s3⟩⟩
            · rintro σ2 HY ⟨v6, rfl, s2⟩
              exact ⟨_, _, rfl, s2⟩
          · rintro σ HX ⟨v5, v6, rfl, ss⟩
            have SX := ((st1.trans (st2.trans (st3.trans (st4.trans (st5.trans (st6.trans (st7.trans (st8.trans (st9.trans (st10.trans (st11.trans (st12.trans st13))))))))))))).trans ss
            obtain ⟨gf, hg, hgu⟩ := HG 0 u0 at0
            refine ⟨_, rfl, ag, us, 0, u0, rfl, rfl, ss.seq SC, atI_nat at0, (by show 2 ≤ sizeLine; decide), fun b hb => ?_⟩
            have s4 := sameNew (o := .tup [V.int 1, V.int 0]) hb
            refine ⟨.ref b, u0, ⟨1, 0⟩, gf, rfl, ⟨b, rfl, upd_same⟩, (hg.mono SX).mono s4, rfl, hgu.di, ⟨by decide, by decide⟩, ⟨by decide, by decide⟩, fun HZ s5 => ?_⟩
            rw [earl_one hgu.di]
            have S6 := SX.trans (s4.trans s5)
            have q := eqv2 gf ⟨1, 0⟩
            dsimp only at q
            generalize hE : (!(gf.n == 1 && gf.d == 0)) = E
            have bs := bl_sml E
            refine ⟨_, .bool E, rfl, .inl (Dp.bl _), bs.1, Nat.le_trans bs.2.1 (by decide), Nat.le_trans bs.2.2 (by decide), ?_⟩
            refine ⟨_, rfl, ag, us, 0, u0, rfl, rfl, (ss.trans (s4.trans s5)).seq SC, atI_nat at0, (by show 2 ≤ sizeLine; decide), fun b2 hb2 => ?_⟩
            have s7 := sameNew (o := .tup [V.int 1, V.int 0]) hb2
            refine ⟨d2 gf, d2 ⟨1, 0⟩, ((hg.mono S6).mono s7).dp, Dp.tup (SqT.of upd_same) (.cons (.int _) (.cons (.int _) .nil)), rfl, rfl, ?_⟩
            rw [q, hE]
            refine ⟨_, .bool E, rfl, .inl (Dp.bl _), bs.1, Nat.le_trans bs.2.1 (by decide), Nat.le_trans bs.2.2 (by decide), ?_⟩
            generalize (PyData.bool E).shown = sE
            refine ⟨rfl, ?_⟩
            rw [decide_eq_true (show V.str sE = V.str sE from rfl)]
            exact k _ (S6.trans s7)
end
end K2
namespace K2
open PySem PySem.Spec PyProof.Rows L2
theorem At2.updL {H : Hp} {D : Addr} {xs : List V} {o : HO} {v : V} {f : P2} (h : At2 H v f) (hD : H D = some (.lst xs)) : At2 (upd H D o) v f := by
  obtain ⟨a, e, h⟩ := h
  refine ⟨a, e, ?_⟩
  rw [upd_ne (fun z => ?_)]
  · exact h
  · rw [z, hD] at h
    cases h
def spRight : Sp := fun vs H Q _ => ∃ p : Addr, vs = [.ref p] ∧ SrcAt H p ∧ ∀ H', But p H H' → Q (.bl true) H'
def spLaw (K : PySem.W.Frag) : Sp := fun vs H Q _ => ∃ (a : Addr) (ns : List Int), vs = [.ref a] ∧ SqL K H a (ns.map V.int) ∧ ns.length ≤ 63 ∧ ∀ H', Same H H' → Q (.bl true) H'
theorem But.fresh {p b : Addr} {H H' : Hp} (h : But p H H') (n : b ≠ p) (e : H' b = none) : H b = none := by
  cases q : H b with
  | none => rfl
  | some o =>
    rw [h b o n q] at e
    cases e
section
variable {P : Program} {w : World} {K : PySem.W.Frag} {mg : Str → Option Value} {base : Heap} {f : Addr} {fd : FuncData} {Ad : Nat → Addr} {Dd : Nat → FuncData}
theorem scLRight : FnScope ["_law_source_here", "_law_one", "_law_two", "_law_share_here", "_law_more", "_law_three", "_law_gusts", "_law_each"] ["_law_source_here"] (defScope (top 65)) := ⟨rfl, rfl, rfl, by decide +kernel, rfl, by decide +kernel, by decide +kernel⟩
theorem bindsLRight (F : FnP K "_law_right" (top 65) f fd) : Binds K fd ["_law_source_here"] [] := F.bindsN fun _ _ _ _ _ _ us hl => match us, hl with | [_], _ => rfl
theorem scLaw : FnScope ["_law_script", "_law_turn"] ["_law_script"] (defScope (top 66)) := ⟨rfl, rfl, rfl, by decide +kernel, rfl, by decide +kernel, by decide +kernel⟩
theorem bindsLaw (F : FnP K "law" (top 66) f fd) : Binds K fd ["_law_script"] [] := F.bindsN fun _ _ _ _ _ _ us hl => match us, hl with | [_], _ => rfl
theorem Pg.oLRight (T : Pg K mg Ad Dd) (N : Nm mg) : FnG P w K mg base CX0 7 (Ad 65) (Dd 65) ["_law_source_here"] (spRight) := by
  refine fnG_of (T.fn 65 "_law_right" rfl).1 scLRight (fun vs H Q E h => ?_) (fun cdv A outer s H vs Q E hgd hr h => ?_)
  · obtain ⟨p, rfl, _⟩ := h
    rfl
  · obtain ⟨p, rfl, hs, k⟩ := h
    have hu := hr.units
    have rp := N.repr
    have hr6 : Room 6 _ := hr.mono (by decide)
    have hr5 : Room 5 _ := hr.mono (by decide)
    have hr4 : Room 4 _ := hr.mono (by decide)
    have hr3 : Room 3 _ := hr.mono (by decide)
    have hr2 : Room 2 _ := hr.mono (by decide)
    have hr1 : Room 1 _ := hr.mono (by decide)
    refine ⟨_, PSs.nox (pss_cons (ps_asg (pe_tup (pa_cons (pe_call (T.oLSpot N) hr3 rfl (T.fn 47 "_law_spot" rfl).2 (T.fn 47 "_law_spot" rfl).1.kp (bindsLSpot (T.fn 47 "_law_spot" rfl).1) .nil pass0 (pa_cons (pv 0) pa_nil)) (pa_cons (pe_call (T.oLSpot N) hr3 rfl (T.fn 47 "_law_spot" rfl).2 (T.fn 47 "_law_spot" rfl).1.kp (bindsLSpot (T.fn 47 "_law_spot" rfl).1) .nil pass0 (pa_cons (pv 0) pa_nil)) (pa_cons (pe_call (T.oLShare N) hr3 rfl (T.fn 60 "_law_share" rfl).2 (T.fn 60 "_law_share" rfl).1.kp (bindsLShare (T.fn 60 "_law_share" rfl).1) .nil pass0 (pa_cons (pv 0) pa_nil)) (pa_cons (pe_call (T.oLShare N) hr3 rfl (T.fn 60 "_law_share" rfl).2 (T.fn 60 "_law_share" rfl).1.kp (bindsLShare (T.fn 60 "_law_share" rfl).1) .nil pass0 (pa_cons (pv 0) pa_nil)) pa_nil))))) (pg_tup (n := 4) rfl (pgs_cons (pg_name (i := 1) scLRight.nd rfl (.inl rfl)) (pgs_cons (pg_name (i := 2) scLRight.nd rfl (.inl rfl)) (pgs_cons (pg_name (i := 3) scLRight.nd rfl (.inl rfl)) (pgs_cons (pg_name (i := 4) scLRight.nd rfl (.inl rfl)) (pgs_nil))))))) (pss_cons (ps_set (i := 5) scLRight.nd rfl (.inl rfl) (pe_call (T.oLPick N) hr2 rfl (T.fn 45 "_law_pick" rfl).2 (T.fn 45 "_law_pick" rfl).1.kp (bindsLPick (T.fn 45 "_law_pick" rfl).1) .nil pass0 (pa_cons (pv 0) (pa_cons (pe_tup (pa_cons (pe_call (T.oLSpot N) hr3 rfl (T.fn 47 "_law_spot" rfl).2 (T.fn 47 "_law_spot" rfl).1.kp (bindsLSpot (T.fn 47 "_law_spot" rfl).1) .nil pass0 (pa_cons (pv 0) pa_nil)) (pa_cons (pe_call (T.oLMidway N) hr3 rfl (T.fn 53 "_law_midway" rfl).2 (T.fn 53 "_law_midway" rfl).1.kp (bindsLMidway (T.fn 53 "_law_midway" rfl).1) .nil pass0 (pa_cons (pv 1) (pa_cons (pv 2) (pa_cons (pv 4) pa_nil)))) (pa_cons (pv 1) pa_nil)))) pa_nil)))) (pss_cons (ps_if (PW.pt (pw_or (pt_not (pt_val (pe_callG (T.oLSumsRight N) hgd hr6 rfl (T.fn 61 "_law_sums_right" rfl).2 (T.fn 61 "_law_sums_right" rfl).1.kp (bindsLSumsRight (T.fn 61 "_law_sums_right" rfl).1) (pa_cons (pv 1) (pa_cons (pv 2) (pa_cons (pv 3) pa_nil)))))) (pw_or1 (pt_not (pt_val (pe_callG (T.oLBetweenRight N) hgd hr6 rfl (T.fn 62 "_law_between_right" rfl).2 (T.fn 62 "_law_between_right" rfl).1.kp (bindsLBetweenRight (T.fn 62 "_law_between_right" rfl).1) (pa_cons (pv 1) (pa_cons (pv 2) (pa_cons (pv 3) (pa_cons (pv 4) pa_nil)))))))))) (pss_one (ps_ret pe_bl)) pss_nil) (pss_cons (ps_setLc (i := 6) (own := [("_law_each", 7)]) (g := gName 7) (tt := tYes) (by rfl) scLRight.nd rfl rfl (sw_true rfl rfl rfl (by decide +kernel)) (pi_range1 rfl N.range (pa_cons pe_int pa_nil)) (blkOk_by (own := [("_law_each", 7)]) (N := ["_law_source_here", "_law_one", "_law_two", "_law_share_here", "_law_more", "_law_three", "_law_gusts", "_law_each"]) (sc := defScope (top 65)) (by decide +kernel)) (fun _ _ _ _ _ => pg_name (i := 7) scLRight.nd rfl (Or.inl rfl)) (fun _ _ _ _ _ => pts_nil) (fun _ _ _ _ _ => pe_call (T.oLGust N) hr3 rfl (T.fn 59 "_law_gust" rfl).2 (T.fn 59 "_law_gust" rfl).1.kp (bindsLGust (T.fn 59 "_law_gust" rfl).1) .nil pass0 (pa_cons (pv 0) pa_nil))) (pss_cons (ps_set (i := 6) scLRight.nd rfl (.inl rfl) (pe_op op_cat (pv 6) (pe_lst (pa_cons (pe_tup (pa_cons (pe_op op_sub (pe_int) (pe_ix ix_tup (pe_ix ix_list (pv 6) pe_int (fun _ _ => rfl)) pe_int (fun _ _ => rfl))) (pa_cons (pe_op op_sub (pe_int) (pe_ix ix_tup (pe_ix ix_list (pv 6) pe_int (fun _ _ => rfl)) pe_int (fun _ _ => rfl))) pa_nil))) (pa_cons (pe_call (T.oLPick N) hr2 rfl (T.fn 45 "_law_pick" rfl).2 (T.fn 45 "_law_pick" rfl).1.kp (bindsLPick (T.fn 45 "_law_pick" rfl).1) .nil pass0 (pa_cons (pv 0) (pa_cons (pe_tup (pa_cons (pe_tup (pa_cons (pe_int) (pa_cons (pe_int) pa_nil))) (pa_cons (pe_tup (pa_cons (pe_int) (pa_cons (pe_int) pa_nil))) (pa_cons (pe_tup (pa_cons (pe_un un_neg pe_int) (pa_cons (pe_int) pa_nil))) (pa_cons (pe_tup (pa_cons (pe_int) (pa_cons (pe_un un_neg pe_int) pa_nil))) pa_nil))))) pa_nil))) pa_nil))))) (pss_one (ps_ret (pe_and (pe_callG (T.oLSensesRight N) hgd hr6 rfl (T.fn 63 "_law_senses_right" rfl).2 (T.fn 63 "_law_senses_right" rfl).1.kp (bindsLSensesRight (T.fn 63 "_law_senses_right" rfl).1) (pa_cons (pv 1) (pa_cons (pv 2) (pa_cons (pv 5) pa_nil)))) (pe_one (pe_callG (T.oLDirectionsRight N) hgd hr6 rfl (T.fn 64 "_law_directions_right" rfl).2 (T.fn 64 "_law_directions_right" rfl).1.kp (bindsLDirectionsRight (T.fn 64 "_law_directions_right" rfl).1) (pa_cons (pv 6) (pa_cons (pv 1) (pa_cons (pv 3) pa_nil))))))))))))), ?_⟩
    refine ⟨_, rfl, p, rfl, hs, fun r1 q1 H1 t1 s1 k1 b1 => ?_⟩
    refine ⟨_, rfl, p, rfl, s1, fun r2 q2 H2 t2 s2 k2 b2 => ?_⟩
    refine ⟨_, rfl, p, rfl, s2, fun r3 f3 H3 t3 s3 k3 b3 => ?_⟩
    refine ⟨_, rfl, p, rfl, s3, fun r4 f4 H4 t4 s4 k4 b4 => ?_⟩
    have m1 := ((k1.but t2 s1).but t3 s2).but t4 s3
    have m2 := (k2.but t3 s2).but t4 s3
    have m3 := k3.but t4 s3
    have B4 := t1.trans (t2.trans (t3.trans t4))
    refine ⟨(by show 4 ≤ sizeLine; decide), fun a5 e5 => ⟨a5, _, rfl, SqT.of upd_same, rfl, _, _, rfl, _, _, rfl, _, _, rfl, _, _, rfl, rfl, ?_⟩⟩
    have u5 := sameNew (o := .tup [r1, r2, r3, r4]) e5
    have s5 := Same.src u5 s4
    refine ⟨_, rfl, _, rfl, p, rfl, s5, fun r6 q6 H6 t6 s6 k6 b6 => ?_⟩
    have n1 := (m1.mono u5).but t6 s5
    have n2 := (m2.mono u5).but t6 s5
    have n3 := (m3.mono u5).but t6 s5
    have n4 := (k4.mono u5).but t6 s5
    obtain ⟨y1, y2⟩ := Bd3.times (k := 10) (l := 4) (M := 990) (W := 20) (f := ⟨f4.d - f4.n, f4.d⟩) b1 (by have := b4.n1; have := b4.fr.1; show -10 ≤ f4.d - f4.n; omega) (by have := b4.n0; have := b4.d1; show f4.d - f4.n ≤ 10; omega) b4.fr.1 b4.d1 (by decide) (by decide) (by decide) (by decide)
    obtain ⟨y3, y4⟩ := Bd3.times (k := 6) (l := 4) (M := 594) (W := 20) b2 b4.n0 b4.n1 b4.fr.1 b4.d1 (by decide) (by decide) (by decide) (by decide)
    obtain ⟨y5, y6⟩ := Bd3.sum (M := 31680) (W := 400) y1 y3 (by decide) (by decide) (by decide) (by decide)
    refine ⟨_, rfl, _, rfl, _, rfl, r1, r2, r4, q1, q2, f4, rfl, n1, n2, n4, b1.li (by decide) (by decide), b2.li (by decide) (by decide), b4.li (by decide) (by decide), y2, y4, y1.li2 (by decide) (by decide), y3.li2 (by decide) (by decide), y6, fun r7 H7 u7 k7 => ?_⟩
    have s7 := Same.src u7 s6
    refine ⟨_, rfl, (by show 3 ≤ sizeLine; decide), fun a8 e8 => ?_⟩
    have u8 := sameNew (o := .tup [r6, r7, r1]) e8
    have s8 := Same.src u8 s7
    have u68 := u7.trans u8
    refine ⟨p, a8, _, rfl, s7.ne e8, s8, SqT.of upd_same, (by show 0 < 3; decide), (by show 3 ≤ 1000; decide), fun r9 H9 hx t9 s9 => ?_⟩
    have P1 := (n1.mono u68).but t9 s8
    have P2 := (n2.mono u68).but t9 s8
    have P3' := (n3.mono u68).but t9 s8
    have P4 := (n4.mono u68).but t9 s8
    obtain ⟨q9, k9, b9⟩ : ∃ q9, At3 H9 r9 q9 ∧ Bd3 31680 400 q9 := by
      simp only [List.mem_cons, List.not_mem_nil, or_false] at hx
      rcases hx with rfl | rfl | rfl
      · exact ⟨q6, (k6.mono u68).but t9 s8, b6.le (by decide) (by decide)⟩
      · exact ⟨_, (k7.mono u8).but t9 s8, y5⟩
      · exact ⟨q1, P1, b1.le (by decide) (by decide)⟩
    have B9 : But p H H9 := B4.trans ((Same.but u5).trans (t6.trans ((Same.but u68).trans t9)))
    refine ⟨_, rfl, _, rfl, _, rfl, r1, r2, r3, q1, q2, f3, rfl, P1, P2, P3', b1, b2, b3, fun H10 u10 => ⟨true, rfl, iteF ?_⟩⟩
    refine ⟨_, rfl, _, rfl, _, rfl, _, rfl, r1, r2, r3, r4, q1, q2, f3, f4, rfl, P1.mono u10, P2.mono u10, P3'.mono u10, P4.mono u10, b1, b2, b3, b4, fun H11 u11 => ⟨true, rfl, iteF ?_⟩⟩
    have u91 := u10.trans u11
    have s11 := Same.src u91 s9
    refine ⟨4, rfl, by decide, by decide, fun D hD => lc_range (lo := 0) (n := 4) (fun i HX => ∃ acc : List V, HX D = some (.lst acc) ∧ acc.length = i ∧ (∀ (j : Nat) (x : V), acc[j]? = some x → ∃ f, At2 HX x f ∧ Gu f) ∧ But p H11 HX ∧ SrcAt HX p)
      ⟨[], upd_same, rfl, (fun j x hx => by simp at hx), Same.but (sameNew hD), Same.src (sameNew hD) s11⟩ ?_ ?_⟩
    · rintro i HX hi ⟨acc, hacc, hl, hall, hbt, hsx⟩
      have dnp : D ≠ p := s11.ne hD
      refine ⟨rfl, ?_⟩
      unfold tYes
      dsimp only
      rw [if_pos rfl]
      refine ⟨_, rfl, p, rfl, hsx, fun gv gf HY ty sy kg bg => ?_⟩
      have hY := ty _ _ dnp hacc
      have h4 : (4 : Nat) < sizeLine := by decide
      refine ⟨acc, hY, by omega, acc ++ [gv], upd_same, by simp [hl], fun j x hx => ?_, fun b o nb eb => ?_, SrcAt.upd sy dnp⟩
      · rcases Nat.lt_or_ge j acc.length with hj | hj
        · rw [List.getElem?_append_left hj] at hx
          obtain ⟨f, hf, gf2⟩ := hall j x hx
          exact ⟨f, At2.updL (hf.but ty hsx) hY, gf2⟩
        · rw [List.getElem?_append_right hj] at hx
          have := List.mem_of_getElem? hx
          have e := List.mem_singleton.mp this
          subst e
          exact ⟨gf, At2.updL kg hY, bg⟩
      · rw [upd_ne (ne_of_none eb hD)]
        exact ty _ _ nb (hbt _ _ nb eb)
    · rintro HX ⟨acc, hacc, hl, hall, hbt, hsx⟩
      have dnp : D ≠ p := s11.ne hD
      have hl0 : 0 < acc.length := by omega
      obtain ⟨⟨fn, fm⟩, ⟨ag0, eg, eg0⟩, gu0⟩ := hall 0 _ (List.getElem?_eq_getElem hl0)
      have hg0 := (List.getElem?_eq_getElem hl0).trans (congrArg some eg)
      refine ⟨_, rfl, ?_⟩
      refine ⟨_, rfl, D, acc, 0, _, rfl, rfl, SqL.of hacc, atI_nat hg0, ag0, _, 0, .int fn, rfl, rfl, SqT.of eg0, rfl, 0, fn, rfl, rfl, ?_⟩
      refine ⟨_, rfl, D, acc, 0, _, rfl, rfl, SqL.of hacc, atI_nat hg0, ag0, _, 1, .int fm, rfl, rfl, SqT.of eg0, rfl, 0, fm, rfl, rfl, ?_⟩
      refine ⟨(by show 2 ≤ sizeLine; decide), fun b0 eb0 => ?_⟩
      have v0 := sameNew (o := .tup [V.int (0 - fn), V.int (0 - fm)]) eb0
      refine ⟨_, rfl, (by show 2 ≤ sizeLine; decide), fun c1 ec1 => ?_⟩
      have v1 := sameNew (o := .tup [V.int 1, V.int 0]) ec1
      refine ⟨(by show 2 ≤ sizeLine; decide), fun c2 ec2 => ?_⟩
      have v2 := sameNew (o := .tup [V.int 0, V.int 1]) ec2
      refine ⟨1, rfl, (by show 2 ≤ sizeLine; decide), fun c3 ec3 => ?_⟩
      have v3 := sameNew (o := .tup [V.int (-1), V.int 0]) ec3
      refine ⟨1, rfl, (by show 2 ≤ sizeLine; decide), fun c4 ec4 => ?_⟩
      have v4 := sameNew (o := .tup [V.int 0, V.int (-1)]) ec4
      refine ⟨(by show 4 ≤ sizeLine; decide), fun c5 ec5 => ?_⟩
      have v5 := sameNew (o := .tup [V.ref c1, V.ref c2, V.ref c3, V.ref c4]) ec5
      have v14 := v1.trans (v2.trans (v3.trans (v4.trans v5)))
      have v05 := v0.trans v14
      have sv := Same.src v05 hsx
      refine ⟨p, c5, _, rfl, (Same.src (v0.trans (v1.trans (v2.trans (v3.trans v4)))) hsx).ne ec5, sv, SqT.of upd_same, (by show 0 < 4; decide), (by show 4 ≤ 1000; decide), fun xg HN hx tN sN => ?_⟩
      have kx : ∃ f, At2 HN xg f ∧ Gu f := by
        simp only [List.mem_cons, List.not_mem_nil, or_false] at hx
        rcases hx with rfl | rfl | rfl | rfl
        · exact ⟨⟨1, 0⟩, At2.but tN sv ⟨c1, rfl, (v2.trans (v3.trans (v4.trans v5))) _ _ upd_same⟩, ⟨rfl, by decide, by decide, by decide, by decide⟩⟩
        · exact ⟨⟨0, 1⟩, At2.but tN sv ⟨c2, rfl, (v3.trans (v4.trans v5)) _ _ upd_same⟩, ⟨rfl, by decide, by decide, by decide, by decide⟩⟩
        · exact ⟨⟨-1, 0⟩, At2.but tN sv ⟨c3, rfl, (v4.trans v5) _ _ upd_same⟩, ⟨rfl, by decide, by decide, by decide, by decide⟩⟩
        · exact ⟨⟨0, -1⟩, At2.but tN sv ⟨c4, rfl, v5 _ _ upd_same⟩, ⟨rfl, by decide, by decide, by decide, by decide⟩⟩
      obtain ⟨fx, kx, gx⟩ := kx
      have kb : At2 HN (.ref b0) ⟨0 - fn, 0 - fm⟩ := At2.but tN sv ⟨b0, rfl, v14 _ _ upd_same⟩
      have gb : Gu ⟨0 - fn, 0 - fm⟩ := by
        obtain ⟨d0, d1, d2, d3, d4⟩ := gu0
        dsimp only at d1 d2 d3 d4
        refine ⟨?_, by show -99 ≤ 0 - fn; omega, by show 0 - fn ≤ 99; omega, by show -99 ≤ 0 - fm; omega, by show 0 - fm ≤ 99; omega⟩
        show g2 (0 - fn) (0 - fm) = 1
        rw [Int.zero_sub, Int.zero_sub, g2_neg]
        exact d0
      refine ⟨(by show 2 ≤ sizeLine; decide), fun L eL => ?_⟩
      have vL := sameNew (o := .lst [V.ref b0, xg]) eL
      have hDN := tN _ _ dnp (v05 _ _ hacc)
      refine ⟨D, L, acc, _, rfl, rfl, vL _ _ hDN, upd_same, (by rw [hl]; show 4 + 2 ≤ sizeLine; decide), fun M eM => ?_⟩
      have vM := sameNew (o := .lst (acc ++ [V.ref b0, xg])) eM
      have vLM := vL.trans vM
      have toN : But p H11 HN := hbt.trans ((Same.but v05).trans tN)
      have hU : ∀ (j : Nat) (x : V), (acc ++ [V.ref b0, xg])[j]? = some x → ∃ f, At2 (upd (upd HN L (.lst [V.ref b0, xg])) M (.lst (acc ++ [V.ref b0, xg]))) x f ∧ Gu f := by
        intro j x hx
        rcases List.mem_append.mp (List.mem_of_getElem? hx) with hm | hm
        · obtain ⟨j2, hj2⟩ := List.getElem?_of_mem hm
          obtain ⟨f, hf, gf2⟩ := hall j2 x hj2
          exact ⟨f, ((hf.mono v05).but tN sv).mono vLM, gf2⟩
        · simp only [List.mem_cons, List.not_mem_nil, or_false] at hm
          rcases hm with rfl | rfl
          · exact ⟨_, kb.mono vLM, gb⟩
          · exact ⟨_, kx.mono vLM, gx⟩
      have Z1 := ((P1.mono u91).but toN s11).mono vLM
      have Z2 := ((P2.mono u91).but toN s11).mono vLM
      have Z3 := ((P3'.mono u91).but toN s11).mono vLM
      have Z9 := ((k9.mono u91).but toN s11).mono vLM
      refine ⟨_, rfl, _, rfl, _, rfl, r1, r2, r9, q1, q2, q9, rfl, Z1, Z2, Z9, b1, b2, b9, fun HS uS => ⟨true, rfl, iteT ?_⟩⟩
      have hg1 : (acc ++ [V.ref b0, xg])[0]? = some (.ref ag0) := (List.getElem?_append_left hl0).trans hg0
      refine ⟨_, rfl, _, rfl, _, rfl, M, acc ++ [V.ref b0, xg], .ref ag0, r1, r3, q1, f3, rfl, uS.seq (SqL.of upd_same), hg1, fun j x hx => ?_, Z1.mono uS, Z3.mono uS, b1, b3, fun HE uE => ?_⟩
      · obtain ⟨f, hf, gf2⟩ := hU j x hx
        exact ⟨f, hf.mono uS, gf2⟩
      · exact k _ (B9.trans ((Same.but u91).trans (toN.trans (Same.but (vLM.trans (uS.trans uE))))))
theorem bindsLRounds (F : FnP K "_law_rounds" (top 43) f fd) : Binds K fd ["_law_script"] [] := F.bindsN fun _ _ _ _ _ _ us hl => match us, hl with | [_], _ => rfl
theorem bindsLSource (F : FnP K "_law_source" (top 42) f fd) : Binds K fd ["_law_script", "_law_turn"] [] := F.bindsN fun _ _ _ _ _ _ us hl => match us, hl with | [_, _], _ => rfl
theorem Pg.oLRounds (T : Pg K mg Ad Dd) (N : Nm mg) : FnOk P w K mg base CX0 1 (Ad 43) (Dd 43) ["_law_script"] (spRounds K) := okRounds (T.fn 43 "_law_rounds" rfl).1 N
theorem Pg.oLSource (T : Pg K mg Ad Dd) (N : Nm mg) : FnOk P w K mg base CX0 1 (Ad 42) (Dd 42) ["_law_script", "_law_turn"] (spSource K) := okSource (T.fn 42 "_law_source" rfl).1 N
theorem Pg.oLaw (T : Pg K mg Ad Dd) (N : Nm mg) : FnG P w K mg base CX0 8 (Ad 66) (Dd 66) ["_law_script"] (spLaw K) := by
  refine fnG_of (T.fn 66 "law" rfl).1 scLaw (fun vs H Q E h => ?_) (fun cdv A outer s H vs Q E hgd hr h => ?_)
  · obtain ⟨a, ns, rfl, _⟩ := h
    rfl
  · obtain ⟨a, ns, rfl, hS, hn, k⟩ := h
    have hu := hr.units
    have rp := N.repr
    have hr5 : Room 5 _ := hr.mono (by decide)
    have hr4 : Room 4 _ := hr.mono (by decide)
    have hr3 : Room 3 _ := hr.mono (by decide)
    have hr2 : Room 2 _ := hr.mono (by decide)
    have hr1 : Room 1 _ := hr.mono (by decide)
    have hr7 : Room 7 _ := hr
    refine ⟨_, PSs.nox (pss_cons (ps_for PassesOwn.never rfl (pi_range1 rfl N.range (pa_cons (pe_call (T.oLRounds N) hr1 rfl (T.fn 43 "_law_rounds" rfl).2 (T.fn 43 "_law_rounds" rfl).1.kp (bindsLRounds (T.fn 43 "_law_rounds" rfl).1) .nil pass0 (pa_cons (pv 0) pa_nil)) pa_nil)) (pg_name (i := 1) scLaw.nd rfl (Or.inl rfl))
        (pss_one (ps_if (pt_not (pt_val (pe_callG (T.oLRight N) hgd hr7 rfl (T.fn 65 "_law_right" rfl).2 (T.fn 65 "_law_right" rfl).1.kp (bindsLRight (T.fn 65 "_law_right" rfl).1) (pa_cons (pe_call (T.oLSource N) hr1 rfl (T.fn 42 "_law_source" rfl).2 (T.fn 42 "_law_source" rfl).1.kp (bindsLSource (T.fn 42 "_law_source" rfl).1) .nil pass0 (pa_cons (pv 0) (pa_cons (pv 1) pa_nil))) pa_nil)))) (pss_one (ps_ret pe_bl)) pss_nil))) (pss_one (ps_ret pe_bl))), ?_⟩
    refine ⟨_, rfl, a, ns, rfl, hS, hn, fun t t0 t1 => ?_⟩
    obtain ⟨n, rfl⟩ := Int.eq_ofNat_of_zero_le (show 0 ≤ t by omega)
    refine ⟨_, rfl, by omega, by omega, for_range (lo := 0) (n := n) (fun i σ H' => ∃ v1 : Option V, σ = [some (.ref a), v1] ∧ Same H H')
      ⟨none, rfl, Same.refl _⟩ ?_ ?_⟩
    · rintro i σ H' hi ⟨v1, rfl, ss⟩
      rw [Int.zero_add]
      refine ⟨_, rfl, _, rfl, a, ns, _, rfl, ss.seq hS, hn, by omega, by omega, fun p H1 s1 hp sp => ?_⟩
      refine ⟨p, rfl, sp, fun H2 b2 => ⟨true, rfl, iteF ?_⟩⟩
      refine ⟨_, rfl, fun b o e => ?_⟩
      have e1 := ss _ _ e
      exact b2 _ _ (ne_of_none e1 hp) (s1 _ _ e1)
    · rintro σ H' ⟨v1, rfl, ss⟩
      exact k H' ss
end
end K2
namespace K2
open PySem PySem.Spec PyProof.Rows L2
section
variable {P : Program} {w : World} {K : PySem.W.Frag} {h : Heap} {mg : Str → Option Value}
theorem rowD (X : K.In h) (G : h.Ns mainGlobals mg) (c : He.SaysD fa fn K) : ∀ (i : Nat) (x : Str), nmOf i = some x → ∃ fd, FnP K x (top i) (He.ga K x) fd ∧ mg x = some (.ref (He.ga K x)) := by
  intro i x hi
  unfold nmOf at hi
  split at hi
  · cases hi
    obtain ⟨fd, F⟩ := c.def_ 0 (d := dDef 9 "is_whole") rfl
    exact ⟨fd, F, He.glo_ok X G (c.fact 0 (f := .glo "is_whole") rfl)⟩
  · cases hi
    obtain ⟨fd, F⟩ := c.def_ 1 (d := dDef 10 "are_whole") rfl
    exact ⟨fd, F, He.glo_ok X G (c.fact 1 (f := .glo "are_whole") rfl)⟩
  · cases hi
    obtain ⟨fd, F⟩ := c.def_ 2 (d := dDef 11 "ratio") rfl
    exact ⟨fd, F, He.glo_ok X G (c.fact 2 (f := .glo "ratio") rfl)⟩
  · cases hi
    obtain ⟨fd, F⟩ := c.def_ 3 (d := dDef 12 "point_of") rfl
    exact ⟨fd, F, He.glo_ok X G (c.fact 3 (f := .glo "point_of") rfl)⟩
  · cases hi
    obtain ⟨fd, F⟩ := c.def_ 4 (d := dDef 13 "point_sum") rfl
    exact ⟨fd, F, He.glo_ok X G (c.fact 4 (f := .glo "point_sum") rfl)⟩
  · cases hi
    obtain ⟨fd, F⟩ := c.def_ 5 (d := dDef 14 "point_gap") rfl
    exact ⟨fd, F, He.glo_ok X G (c.fact 5 (f := .glo "point_gap") rfl)⟩
  · cases hi
    obtain ⟨fd, F⟩ := c.def_ 6 (d := dDef 15 "point_times") rfl
    exact ⟨fd, F, He.glo_ok X G (c.fact 6 (f := .glo "point_times") rfl)⟩
  · cases hi
    obtain ⟨fd, F⟩ := c.def_ 7 (d := dDef 16 "course_to") rfl
    exact ⟨fd, F, He.glo_ok X G (c.fact 7 (f := .glo "course_to") rfl)⟩
  · cases hi
    obtain ⟨fd, F⟩ := c.def_ 8 (d := dDef 17 "side_of") rfl
    exact ⟨fd, F, He.glo_ok X G (c.fact 8 (f := .glo "side_of") rfl)⟩
  · cases hi
    obtain ⟨fd, F⟩ := c.def_ 9 (d := dDef 18 "along") rfl
    exact ⟨fd, F, He.glo_ok X G (c.fact 9 (f := .glo "along") rfl)⟩
  · cases hi
    obtain ⟨fd, F⟩ := c.def_ 10 (d := dDef 19 "overshoot") rfl
    exact ⟨fd, F, He.glo_ok X G (c.fact 10 (f := .glo "overshoot") rfl)⟩
  · cases hi
    obtain ⟨fd, F⟩ := c.def_ 11 (d := dDef 20 "turn") rfl
    exact ⟨fd, F, He.glo_ok X G (c.fact 11 (f := .glo "turn") rfl)⟩
  · cases hi
    obtain ⟨fd, F⟩ := c.def_ 12 (d := dDef 22 "is_fraction") rfl
    exact ⟨fd, F, He.glo_ok X G (c.fact 12 (f := .glo "is_fraction") rfl)⟩
  · cases hi
    obtain ⟨fd, F⟩ := c.def_ 13 (d := dDef 23 "is_point") rfl
    exact ⟨fd, F, He.glo_ok X G (c.fact 13 (f := .glo "is_point") rfl)⟩
  · cases hi
    obtain ⟨fd, F⟩ := c.def_ 14 (d := dDef 24 "is_side") rfl
    exact ⟨fd, F, He.glo_ok X G (c.fact 14 (f := .glo "is_side") rfl)⟩
  · cases hi
    obtain ⟨fd, F⟩ := c.def_ 15 (d := dDef 25 "is_direction") rfl
    exact ⟨fd, F, He.glo_ok X G (c.fact 15 (f := .glo "is_direction") rfl)⟩
  · cases hi
    obtain ⟨fd, F⟩ := c.def_ 16 (d := dDef 26 "need_fraction") rfl
    exact ⟨fd, F, He.glo_ok X G (c.fact 16 (f := .glo "need_fraction") rfl)⟩
  · cases hi
    obtain ⟨fd, F⟩ := c.def_ 17 (d := dDef 27 "need_point") rfl
    exact ⟨fd, F, He.glo_ok X G (c.fact 17 (f := .glo "need_point") rfl)⟩
  · cases hi
    obtain ⟨fd, F⟩ := c.def_ 18 (d := dDef 28 "need_side") rfl
    exact ⟨fd, F, He.glo_ok X G (c.fact 18 (f := .glo "need_side") rfl)⟩
  · cases hi
    obtain ⟨fd, F⟩ := c.def_ 19 (d := dDef 29 "need_direction") rfl
    exact ⟨fd, F, He.glo_ok X G (c.fact 19 (f := .glo "need_direction") rfl)⟩
  · cases hi
    obtain ⟨fd, F⟩ := c.def_ 20 (d := dDef 30 "direction_of") rfl
    exact ⟨fd, F, He.glo_ok X G (c.fact 20 (f := .glo "direction_of") rfl)⟩
  · cases hi
    obtain ⟨fd, F⟩ := c.def_ 21 (d := dDef 31 "is_earlier") rfl
    exact ⟨fd, F, He.glo_ok X G (c.fact 21 (f := .glo "is_earlier") rfl)⟩
  · cases hi
    obtain ⟨fd, F⟩ := c.def_ 22 (d := dDef 32 "half_turn") rfl
    exact ⟨fd, F, He.glo_ok X G (c.fact 22 (f := .glo "half_turn") rfl)⟩
  · cases hi
    obtain ⟨fd, F⟩ := c.def_ 23 (d := dDef 33 "point_at") rfl
    exact ⟨fd, F, He.glo_ok X G (c.fact 23 (f := .glo "point_at") rfl)⟩
  · cases hi
    obtain ⟨fd, F⟩ := c.def_ 24 (d := dDef 34 "plus") rfl
    exact ⟨fd, F, He.glo_ok X G (c.fact 24 (f := .glo "plus") rfl)⟩
  · cases hi
    obtain ⟨fd, F⟩ := c.def_ 25 (d := dDef 35 "minus") rfl
    exact ⟨fd, F, He.glo_ok X G (c.fact 25 (f := .glo "minus") rfl)⟩
  · cases hi
    obtain ⟨fd, F⟩ := c.def_ 26 (d := dDef 36 "times") rfl
    exact ⟨fd, F, He.glo_ok X G (c.fact 26 (f := .glo "times") rfl)⟩
  · cases hi
    obtain ⟨fd, F⟩ := c.def_ 27 (d := dDef 37 "between") rfl
    exact ⟨fd, F, He.glo_ok X G (c.fact 27 (f := .glo "between") rfl)⟩
  · cases hi
    obtain ⟨fd, F⟩ := c.def_ 28 (d := dDef 38 "sense") rfl
    exact ⟨fd, F, He.glo_ok X G (c.fact 28 (f := .glo "sense") rfl)⟩
  · cases hi
    obtain ⟨fd, F⟩ := c.def_ 29 (d := dDef 39 "side_through") rfl
    exact ⟨fd, F, He.glo_ok X G (c.fact 29 (f := .glo "side_through") rfl)⟩
  · cases hi
    obtain ⟨fd, F⟩ := c.def_ 30 (d := dDef 40 "excess") rfl
    exact ⟨fd, F, He.glo_ok X G (c.fact 30 (f := .glo "excess") rfl)⟩
  · cases hi
    obtain ⟨fd, F⟩ := c.def_ 31 (d := dDef 42 "_law_source") rfl
    exact ⟨fd, F, He.glo_ok X G (c.fact 31 (f := .glo "_law_source") rfl)⟩
  · cases hi
    obtain ⟨fd, F⟩ := c.def_ 32 (d := dDef 43 "_law_rounds") rfl
    exact ⟨fd, F, He.glo_ok X G (c.fact 32 (f := .glo "_law_rounds") rfl)⟩
  · cases hi
    obtain ⟨fd, F⟩ := c.def_ 33 (d := dDef 44 "_law_draw") rfl
    exact ⟨fd, F, He.glo_ok X G (c.fact 33 (f := .glo "_law_draw") rfl)⟩
  · cases hi
    obtain ⟨fd, F⟩ := c.def_ 34 (d := dDef 45 "_law_pick") rfl
    exact ⟨fd, F, He.glo_ok X G (c.fact 34 (f := .glo "_law_pick") rfl)⟩
  · cases hi
    obtain ⟨fd, F⟩ := c.def_ 35 (d := dDef 46 "_law_least") rfl
    exact ⟨fd, F, He.glo_ok X G (c.fact 35 (f := .glo "_law_least") rfl)⟩
  · cases hi
    obtain ⟨fd, F⟩ := c.def_ 36 (d := dDef 47 "_law_spot") rfl
    exact ⟨fd, F, He.glo_ok X G (c.fact 36 (f := .glo "_law_spot") rfl)⟩
  · cases hi
    obtain ⟨fd, F⟩ := c.def_ 37 (d := dDef 48 "_law_part") rfl
    exact ⟨fd, F, He.glo_ok X G (c.fact 37 (f := .glo "_law_part") rfl)⟩
  · cases hi
    obtain ⟨fd, F⟩ := c.def_ 38 (d := dDef 49 "_law_sum") rfl
    exact ⟨fd, F, He.glo_ok X G (c.fact 38 (f := .glo "_law_sum") rfl)⟩
  · cases hi
    obtain ⟨fd, F⟩ := c.def_ 39 (d := dDef 50 "_law_by") rfl
    exact ⟨fd, F, He.glo_ok X G (c.fact 39 (f := .glo "_law_by") rfl)⟩
  · cases hi
    obtain ⟨fd, F⟩ := c.def_ 40 (d := dDef 51 "_law_add") rfl
    exact ⟨fd, F, He.glo_ok X G (c.fact 40 (f := .glo "_law_add") rfl)⟩
  · cases hi
    obtain ⟨fd, F⟩ := c.def_ 41 (d := dDef 52 "_law_grow") rfl
    exact ⟨fd, F, He.glo_ok X G (c.fact 41 (f := .glo "_law_grow") rfl)⟩
  · cases hi
    obtain ⟨fd, F⟩ := c.def_ 42 (d := dDef 53 "_law_midway") rfl
    exact ⟨fd, F, He.glo_ok X G (c.fact 42 (f := .glo "_law_midway") rfl)⟩
  · cases hi
    obtain ⟨fd, F⟩ := c.def_ 43 (d := dDef 54 "_law_back") rfl
    exact ⟨fd, F, He.glo_ok X G (c.fact 43 (f := .glo "_law_back") rfl)⟩
  · cases hi
    obtain ⟨fd, F⟩ := c.def_ 44 (d := dDef 55 "_law_left") rfl
    exact ⟨fd, F, He.glo_ok X G (c.fact 44 (f := .glo "_law_left") rfl)⟩
  · cases hi
    obtain ⟨fd, F⟩ := c.def_ 45 (d := dDef 56 "_law_side") rfl
    exact ⟨fd, F, He.glo_ok X G (c.fact 45 (f := .glo "_law_side") rfl)⟩
  · cases hi
    obtain ⟨fd, F⟩ := c.def_ 46 (d := dDef 57 "_law_half") rfl
    exact ⟨fd, F, He.glo_ok X G (c.fact 46 (f := .glo "_law_half") rfl)⟩
  · cases hi
    obtain ⟨fd, F⟩ := c.def_ 47 (d := dDef 58 "_law_before") rfl
    exact ⟨fd, F, He.glo_ok X G (c.fact 47 (f := .glo "_law_before") rfl)⟩
  · cases hi
    obtain ⟨fd, F⟩ := c.def_ 48 (d := dDef 59 "_law_gust") rfl
    exact ⟨fd, F, He.glo_ok X G (c.fact 48 (f := .glo "_law_gust") rfl)⟩
  · cases hi
    obtain ⟨fd, F⟩ := c.def_ 49 (d := dDef 60 "_law_share") rfl
    exact ⟨fd, F, He.glo_ok X G (c.fact 49 (f := .glo "_law_share") rfl)⟩
  · cases hi
    obtain ⟨fd, F⟩ := c.def_ 50 (d := dDef 61 "_law_sums_right") rfl
    exact ⟨fd, F, He.glo_ok X G (c.fact 50 (f := .glo "_law_sums_right") rfl)⟩
  · cases hi
    obtain ⟨fd, F⟩ := c.def_ 51 (d := dDef 62 "_law_between_right") rfl
    exact ⟨fd, F, He.glo_ok X G (c.fact 51 (f := .glo "_law_between_right") rfl)⟩
  · cases hi
    obtain ⟨fd, F⟩ := c.def_ 52 (d := dDef 63 "_law_senses_right") rfl
    exact ⟨fd, F, He.glo_ok X G (c.fact 52 (f := .glo "_law_senses_right") rfl)⟩
  · cases hi
    obtain ⟨fd, F⟩ := c.def_ 53 (d := dDef 64 "_law_directions_right") rfl
    exact ⟨fd, F, He.glo_ok X G (c.fact 53 (f := .glo "_law_directions_right") rfl)⟩
  · cases hi
    obtain ⟨fd, F⟩ := c.def_ 54 (d := dDef 65 "_law_right") rfl
    exact ⟨fd, F, He.glo_ok X G (c.fact 54 (f := .glo "_law_right") rfl)⟩
  · cases hi
    obtain ⟨fd, F⟩ := c.def_ 55 (d := dDef 66 "law") rfl
    exact ⟨fd, F, He.glo_ok X G (c.fact 55 (f := .glo "law") rfl)⟩
  · cases hi
def adA (K : PySem.W.Frag) (i : Nat) : Addr := He.ga K ((nmOf i).getD Str.empty)
theorem pgFacts (X : K.In h) (G : h.Ns mainGlobals mg) (c : He.SaysD fa fn K) : ∃ Dd : Nat → FuncData, Pg K mg (adA K) Dd := by
  obtain ⟨fd0, _⟩ := c.def_ 0 (d := dDef 9 "is_whole") rfl
  have p : ∀ i : Nat, ∃ fd, ∀ x, nmOf i = some x → FnP K x (top i) (He.ga K x) fd ∧ mg x = some (.ref (He.ga K x)) := fun i => by
    cases q : nmOf i with
    | none => exact ⟨fd0, fun x z => nomatch z⟩
    | some y =>
      obtain ⟨fd, k⟩ := rowD X G c i y q
      exact ⟨fd, fun x z => by cases z; exact k⟩
  obtain ⟨Dd, hD⟩ := Classical.axiomOfChoice p
  refine ⟨Dd, ⟨fun i x e => ?_⟩⟩
  have z := hD i x e
  unfold adA
  rw [e]
  exact z
theorem nmFacts (X : K.In h) (G : h.Ns mainGlobals mg) (hx : ex K = true) (c : He.SaysD fa fn K) : Nm mg :=
  ⟨He.free_ok X G (c.fact 56 (f := .free "isinstance") rfl), He.free_ok X G (c.fact 57 (f := .free "int") rfl), He.free_ok X G (c.fact 58 (f := .free "bool") rfl), He.free_ok X G (c.fact 59 (f := .free "tuple") rfl), He.free_ok X G (c.fact 60 (f := .free "len") rfl), He.free_ok X G (c.fact 61 (f := .free "all") rfl), He.free_ok X G (c.fact 62 (f := .free "abs") rfl), He.free_ok X G (c.fact 63 (f := .free "max") rfl), He.free_ok X G (c.fact 64 (f := .free "min") rfl), He.free_ok X G (c.fact 65 (f := .free "divmod") rfl), He.free_ok X G (c.fact 66 (f := .free "range") rfl), He.free_ok X G (c.fact 67 (f := .free "repr") rfl), PySem.W.mg_of X G (He.eqO_ok hx)⟩
theorem lawFacts (X : K.In h) (G : h.Ns mainGlobals mg) {f : Addr} (hfa : mg "law" = some (.ref f)) (hx : ex K = true) (c : He.SaysD fa fn K) :
    ∃ fd : FuncData, (∀ (s : Shared) (v : Value), BindsTo s fd ⟨[v], []⟩ [("_law_script", v)]) ∧ ∀ base : Heap, K.In base → base.Ns mainGlobals mg → FnG P w K mg base CX0 8 f fd ["_law_script"] (spLaw K) := by
  obtain ⟨Dd, T⟩ := pgFacts X G c
  have N := nmFacts X G hx c
  have e := hfa.symm.trans (T.fn 66 "law" rfl).2
  cases e
  have b := FunD.bindsA (ps := ["_law_script"]) (T.fn 66 "law" rfl).1 fun _ _ _ _ _ _ us hl => match us, hl with | [_], _ => rfl
  exact ⟨Dd 66, fun s v => b s [v] rfl, fun base _ _ => T.oLaw N⟩
end
end K2
open PySem PySem.W PySem.Calls PyProof.Rows
theorem PySem.Challenge.cw_windfigure_k02_whole_points_and_directio_holds : PySem.Challenge.rw_windfigure_k02_whole_points_and_directio.Holds := by
  w_on; o_law
  refine HandSHeadRun.head_imp (r := OpenLaw.row PySem.Challenge.rw_windfigure_k02_whole_points_and_directio) (q := view (OpenLaw.row PySem.Challenge.rw_windfigure_k02_whole_points_and_directio).prog [0, 66]) (H := K1.hookQ K2.fa K2.fn K2.ex) (ob := K2.ob) (M := 8000) (loose := K2.loose) (d := HandSHeadRun.topDef (OpenLaw.row PySem.Challenge.rw_windfigure_k02_whole_points_and_directio).prog 66) (kwd := []) K2.ob_eq K2.run
    (by kernel_rfl) (by kernel_rfl) (by kernel_rfl) (by rfl) (by first | assumption | decide +kernel) (by decide +kernel) ⟨rfl, rfl, rfl, rfl, rfl, by decide +kernel⟩ ?hw ?hc
  case hw => w_witness2
  case hc =>
    refine K2.walkG (l := PySem.Challenge.rw_windfigure_k02_whole_points_and_directio) (n := 63) (k := 8) (x := "_law_script") rfl (by decide) (by kernel_rfl) ⟨rfl, by decide, by decide⟩ ?F
    intro w mg fa h Y G hmg0
    obtain ⟨K, KX, hx, c⟩ := Y
    have hmg : mg ("law" : PySem.Str) = some (.ref fa) := by
      have e : (HandSHeadRun.topDef (OpenLaw.row PySem.Challenge.rw_windfigure_k02_whole_points_and_directio).prog 66).name = ("law" : PySem.Str) := by kernel_rfl
      rw [← e]
      exact hmg0
    obtain ⟨fd, hb, hF⟩ := K2.lawFacts (P := (PySem.Challenge.rw_windfigure_k02_whole_points_and_directio).prog) (w := w) KX G hmg hx c
    exact ⟨K, fd, K2.spLaw K, KX, hb, fun H a ns hl _ _ hS => ⟨a, ns, rfl, hS, hl, fun _ _ => rfl⟩, hF⟩
