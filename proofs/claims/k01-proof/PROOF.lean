import PyProof.Rows.All
import Wide.All
import OpenK.AllK
import Wide.FinOn
import HandS.Exc
import HandS.ExcInit
import HandS.List
import HandS.Ends
import HandS.Words
import HandS.Defaults
import HandS.TryOnly
import HandS.ExcOwn
import HandS.ExcField
import HandS.ExcIs
import HandS.WordsExc
import HandS.ExcValue
import HandS.EndBits
import HandS.SetFor
import HandS.Style
import HandS.WideBits
import HandS.Comp
import HandS.HeadHook2
import HandS.RaiseMore
import HandS.DeepEq
import HandS.Head0
import HandS.Head1
import HandS.Head2
import HandS.HeadHook1
import HandS.HeadHook4
import PySem.Challenge.RW_windfigure_k01_classes_of_errors
set_option Elab.async false
set_option linter.all false
set_option maxRecDepth 100000
set_option maxHeartbeats 0
namespace K1
open PySem PySem.Spec PyProof.Rows L2
def top (i : Nat) : Stmt := PySem.Challenge.pw_windfigure_k01_classes_of_errors.main.body.getD i (.Pass ⟨0, 0, 0, 0⟩)
abbrev veT : List Value := PySem.HandSPX.veTail
def nmG1 : List Str := ["InvalidFraction", "InvalidTime", "InvalidPoint", "InvalidDirection", "InvalidSide", "InvalidNormal", "InvalidPolygon", "InvalidFigure", "InvalidWater", "InvalidWind", "InvalidArc", "InvalidNote", "InvalidWeather", "InvalidNumber", "InvalidIndex", "InvalidOrder", "InvalidChannel"]
def nmG2 : List Str := ["InvalidForm", "InvalidWeights", "InvalidMover", "InvalidStarter", "InvalidName", "InvalidWish", "InvalidPhrase", "InIsle", "OutOfChannel", "NotAlong", "OffWater", "NoBearing", "OutOfPolygon", "NotAWorkshop", "TooMany", "UnknownName", "Same"]
def nmG : List Str := nmG1 ++ nmG2
def nmI : List Str := ["InvalidPoints", "InvalidPaces", "InvalidTacks", "InvalidHours", "InvalidPlaces", "InvalidCourse", "InvalidSails", "InvalidIsles", "InvalidRoute", "InvalidHeights", "InvalidMarks", "InvalidGates", "InvalidCrossing", "InvalidShores", "InvalidStarters", "InvalidMovers", "InvalidFlight", "InvalidFigures", "InvalidNotes", "InvalidTrips", "InUse", "Broken"]
def nmB : List Str := ["NoArea", "NoFigureFits", "NotSure", "NothingToUndo"]
/-- all of it as one look -/
def errB (K : PySem.W.Frag) (bm : List Value) (C : Addr) : Bool :=
  (match K.lookup C with
    | some ⟨.type t, _, .cls cd, sl⟩ => decide (t = "type") && (decide (cd.mro = .ref C :: bm) && (cd.hasDict && (!cd.hasDel && (match sl.toList with
      | [_, _, _, _, some (.builtin n), _] => decide (n = "ValueError.__new__")
      | _ => false))))
    | _ => false) &&
  (He.eqO (PySem.W.findIn K (.ref C) "__getattribute__") (some (some (.builtin "BaseException.__getattribute__"))) &&
  (He.eqO (PySem.W.findIn K (.ref C) "__getattr__") (some none) &&
  (He.eqO (PySem.W.findIn K (.ref C) "__class__") (some (some (.builtin "object.__class__"))) &&
  (He.eqO (PySem.W.findIn K (.ref C) "__setattr__") (some (some (.builtin "object.__setattr__"))) && PySem.W.keepIn K (.ref C)))))
end K1
namespace K1
open PySem PySem.Spec PyProof.Rows L2
/-! ### a Hook that looks at what the globals reach, and no further -/
def refsQ (o : Obj) : List Addr := match o.data with
  | .dict es _ => es.toList.flatMap fun e => He.refV e.val
  | .cls cd => [cd.ns]
  | .func fd => He.refV fd.code
  | _ => []
def stepQ (g : Addr → Option Obj) : List Addr → List Addr
  | [] => []
  | a :: r => (match g a with
    | some o => refsQ o
    | none => []) ++ stepQ g r
def asQ (g : Addr → Option Obj) : List Addr :=
  mainGlobals :: (stepQ g [mainGlobals] ++ (stepQ g (stepQ g [mainGlobals]) ++ (stepQ g (stepQ g (stepQ g [mainGlobals])) ++ stepQ g (stepQ g (stepQ g (stepQ g [mainGlobals]))))))
/-- a list of addresses, each one reckoned, then k -/
def evL {α : Type} : List Addr → (List Addr → α) → α
  | [], k => k []
  | a :: r, k => HandSHeadRun.frNat a fun a => evL r fun r => k (a :: r)
theorem evL_eq {α : Type} : ∀ (l : List Addr) (k : List Addr → α), evL l k = k l
  | [], _ => rfl
  | a :: r, k => by
    show HandSHeadRun.frNat a (fun a => evL r fun r => k (a :: r)) = k (a :: r)
    rw [HandSHeadRun.frNat_eq, evL_eq r]
/-- the fragment, entry by entry, then k -/
def evK {α : Type} (g : Addr → Option Obj) : List Addr → (PySem.W.Frag → α) → α
  | [], k => k []
  | a :: r, k => match g a with
    | some o => evK g r fun K => k ((a, o) :: K)
    | none => evK g r k
theorem evK_eq {α : Type} (g : Addr → Option Obj) : ∀ (l : List Addr) (k : PySem.W.Frag → α), evK g l k = k (He.frG g l)
  | [], _ => rfl
  | a :: r, k => by
    unfold evK He.frG
    rw [List.filterMap_cons]
    cases h : g a with
    | none =>
      show evK g r k = _
      rw [evK_eq g r]
      rfl
    | some o =>
      show evK g r (fun K => k ((a, o) :: K)) = _
      rw [evK_eq g r]
      rfl
abbrev AlQ : Type := Bool × He.AlD
def obsQ (fa : List He.Fa) (fn : List He.DefD) (ex : PySem.W.Frag → Bool) (g : Addr → Option Obj) : AlQ :=
  evL (asQ g) fun l => evK g l fun K => (ex K, He.obsD fa fn K)
theorem obsQ_is {fa : List He.Fa} {fn : List He.DefD} {ex : PySem.W.Frag → Bool} {g : Addr → Option Obj} : obsQ fa fn ex g = (ex (He.frG g (asQ g)), He.obsD fa fn (He.frG g (asQ g))) := by
  unfold obsQ
  rw [evL_eq, evK_eq]
def hookQ (fa : List He.Fa) (fn : List He.DefD) (ex : PySem.W.Frag → Bool) : PySem.W.Hook where
  α := AlQ
  obs := fun s => obsQ fa fn ex s.heap.get?
  val := fun _ => (true, He.valD fn)
  says := fun _ h => ∃ K : PySem.W.Frag, K.In h ∧ ex K = true ∧ He.SaysD fa fn K
  of := fun _ _ e => by
    rw [obsQ_is] at e
    exact ⟨_, He.frG_in, congrArg Prod.fst e, congrArg Prod.snd e⟩
  keeps := fun _ _ _ ⟨K, hK, c⟩ k => ⟨K, PySem.W.Frag.In.keeps hK k, c⟩
theorem obsQ_eq {fa : List He.Fa} {fn : List He.DefD} {ex : PySem.W.Frag → Bool} {g : Addr → Option Obj} {s : Shared} (h : ∀ a, g a = s.heap.get? a) : obsQ fa fn ex g = (hookQ fa fn ex).obs s := by
  have e : g = s.heap.get? := funext h
  rw [e] <;> rfl
end K1
namespace K1
open PySem PySem.Spec PyProof.Rows L2
abbrev R : PySem.W.OpenRow := PySem.W.OpenLaw.row PySem.Challenge.rw_windfigure_k01_classes_of_errors
def lo0 : List PySem.Str := ["WindError", "InvalidFraction", "InvalidTime", "InvalidPoint", "InvalidDirection", "InvalidSide", "InvalidNormal", "InvalidPolygon", "InvalidFigure", "InvalidWater", "InvalidWind", "InvalidArc", "InvalidNote", "InvalidWeather", "InvalidNumber", "InvalidIndex"]
def lo1 : List PySem.Str := ["InvalidOrder", "InvalidChannel", "InvalidForm", "InvalidWeights", "InvalidMover", "InvalidStarter", "InvalidName", "InvalidWish", "InvalidPhrase", "InIsle", "OutOfChannel", "NotAlong", "OffWater", "NoBearing", "OutOfPolygon", "NotAWorkshop"]
def lo2 : List PySem.Str := ["TooMany", "UnknownName", "Same", "InvalidPoints", "InvalidPaces", "InvalidTacks", "InvalidHours", "InvalidPlaces", "InvalidCourse", "InvalidSails", "InvalidIsles", "InvalidRoute", "InvalidHeights", "InvalidMarks", "InvalidGates", "InvalidCrossing"]
def lo3 : List PySem.Str := ["InvalidShores", "InvalidStarters", "InvalidMovers", "InvalidFlight", "InvalidFigures", "InvalidNotes", "InvalidTrips", "InUse", "Broken", "NoArea", "NoFigureFits", "NotSure", "NothingToUndo", "_law_source", "_law_rounds", "_law_draw"]
def lo4 : List PySem.Str := ["_law_pick", "_law_least", "_law_spot", "_law_first_kind", "_law_second_kind", "_law_third_kind", "_law_bare_kind", "_law_given_classes", "_law_other_classes", "_law_alone", "_law_worth", "_law_given_right", "_law_index_right", "_law_bare_right", "_law_caught", "_law_right"]
def loose : List PySem.Str := lo0 ++ (lo1 ++ (lo2 ++ (lo3 ++ (lo4))))
def dDef (i : Nat) (x : Str) : He.DefD := ⟨(x, none), x, x, defArgs (top i), defBody (top i), defScope (top i), [], []⟩
def dIni (i : Nat) (x qu : Str) : He.DefD := ⟨(x, some "__init__"), "__init__", qu, defArgs (inClass (top i) 0), defBody (inClass (top i) 0), defScope (inClass (top i) 0), [], []⟩
def fn0 : List He.DefD := [dDef 63 "_law_source", dDef 64 "_law_rounds", dDef 65 "_law_draw", dDef 66 "_law_pick", dDef 67 "_law_least", dDef 68 "_law_spot", dDef 69 "_law_first_kind", dDef 70 "_law_second_kind", dDef 71 "_law_third_kind", dDef 72 "_law_bare_kind", dDef 73 "_law_given_classes", dDef 74 "_law_other_classes"]
def fn1 : List He.DefD := [dDef 75 "_law_alone", dDef 76 "_law_worth", dDef 77 "_law_given_right", dDef 78 "_law_index_right", dDef 79 "_law_bare_right", dDef 80 "_law_caught", dDef 81 "_law_right", dDef 82 "law", dIni 2 "InvalidFraction" "InvalidFraction.__init__", dIni 3 "InvalidTime" "InvalidTime.__init__", dIni 4 "InvalidPoint" "InvalidPoint.__init__", dIni 5 "InvalidDirection" "InvalidDirection.__init__"]
def fn2 : List He.DefD := [dIni 6 "InvalidSide" "InvalidSide.__init__", dIni 7 "InvalidNormal" "InvalidNormal.__init__", dIni 8 "InvalidPolygon" "InvalidPolygon.__init__", dIni 9 "InvalidFigure" "InvalidFigure.__init__", dIni 10 "InvalidWater" "InvalidWater.__init__", dIni 11 "InvalidWind" "InvalidWind.__init__", dIni 12 "InvalidArc" "InvalidArc.__init__", dIni 13 "InvalidNote" "InvalidNote.__init__", dIni 14 "InvalidWeather" "InvalidWeather.__init__", dIni 15 "InvalidNumber" "InvalidNumber.__init__", dIni 16 "InvalidIndex" "InvalidIndex.__init__", dIni 17 "InvalidOrder" "InvalidOrder.__init__"]
def fn3 : List He.DefD := [dIni 18 "InvalidChannel" "InvalidChannel.__init__", dIni 19 "InvalidForm" "InvalidForm.__init__", dIni 20 "InvalidWeights" "InvalidWeights.__init__", dIni 21 "InvalidMover" "InvalidMover.__init__", dIni 22 "InvalidStarter" "InvalidStarter.__init__", dIni 23 "InvalidName" "InvalidName.__init__", dIni 24 "InvalidWish" "InvalidWish.__init__", dIni 25 "InvalidPhrase" "InvalidPhrase.__init__", dIni 26 "InIsle" "InIsle.__init__", dIni 27 "OutOfChannel" "OutOfChannel.__init__", dIni 28 "NotAlong" "NotAlong.__init__", dIni 29 "OffWater" "OffWater.__init__"]
def fn4 : List He.DefD := [dIni 30 "NoBearing" "NoBearing.__init__", dIni 31 "OutOfPolygon" "OutOfPolygon.__init__", dIni 32 "NotAWorkshop" "NotAWorkshop.__init__", dIni 33 "TooMany" "TooMany.__init__", dIni 34 "UnknownName" "UnknownName.__init__", dIni 35 "Same" "Same.__init__", dIni 36 "InvalidPoints" "InvalidPoints.__init__", dIni 37 "InvalidPaces" "InvalidPaces.__init__", dIni 38 "InvalidTacks" "InvalidTacks.__init__", dIni 39 "InvalidHours" "InvalidHours.__init__", dIni 40 "InvalidPlaces" "InvalidPlaces.__init__", dIni 41 "InvalidCourse" "InvalidCourse.__init__"]
def fn5 : List He.DefD := [dIni 42 "InvalidSails" "InvalidSails.__init__", dIni 43 "InvalidIsles" "InvalidIsles.__init__", dIni 44 "InvalidRoute" "InvalidRoute.__init__", dIni 45 "InvalidHeights" "InvalidHeights.__init__", dIni 46 "InvalidMarks" "InvalidMarks.__init__", dIni 47 "InvalidGates" "InvalidGates.__init__", dIni 48 "InvalidCrossing" "InvalidCrossing.__init__", dIni 49 "InvalidShores" "InvalidShores.__init__", dIni 50 "InvalidStarters" "InvalidStarters.__init__", dIni 51 "InvalidMovers" "InvalidMovers.__init__", dIni 52 "InvalidFlight" "InvalidFlight.__init__", dIni 53 "InvalidFigures" "InvalidFigures.__init__"]
def fn6 : List He.DefD := [dIni 54 "InvalidNotes" "InvalidNotes.__init__", dIni 55 "InvalidTrips" "InvalidTrips.__init__", dIni 56 "InUse" "InUse.__init__", dIni 57 "Broken" "Broken.__init__"]
def fnP : List He.DefD := fn0 ++ (fn1 ++ (fn2))
def fnQ : List He.DefD := fn3 ++ (fn4 ++ (fn5 ++ (fn6)))
def fa0 : List He.Fa := [.glo "WindError", .glo "InvalidFraction", .glo "InvalidTime", .glo "InvalidPoint", .glo "InvalidDirection", .glo "InvalidSide", .glo "InvalidNormal", .glo "InvalidPolygon", .glo "InvalidFigure", .glo "InvalidWater", .glo "InvalidWind", .glo "InvalidArc"]
def fa1 : List He.Fa := [.glo "InvalidNote", .glo "InvalidWeather", .glo "InvalidNumber", .glo "InvalidIndex", .glo "InvalidOrder", .glo "InvalidChannel", .glo "InvalidForm", .glo "InvalidWeights", .glo "InvalidMover", .glo "InvalidStarter", .glo "InvalidName", .glo "InvalidWish"]
def fa2 : List He.Fa := [.glo "InvalidPhrase", .glo "InIsle", .glo "OutOfChannel", .glo "NotAlong", .glo "OffWater", .glo "NoBearing", .glo "OutOfPolygon", .glo "NotAWorkshop", .glo "TooMany", .glo "UnknownName", .glo "Same", .glo "InvalidPoints"]
def fa3 : List He.Fa := [.glo "InvalidPaces", .glo "InvalidTacks", .glo "InvalidHours", .glo "InvalidPlaces", .glo "InvalidCourse", .glo "InvalidSails", .glo "InvalidIsles", .glo "InvalidRoute", .glo "InvalidHeights", .glo "InvalidMarks", .glo "InvalidGates", .glo "InvalidCrossing"]
def fa4 : List He.Fa := [.glo "InvalidShores", .glo "InvalidStarters", .glo "InvalidMovers", .glo "InvalidFlight", .glo "InvalidFigures", .glo "InvalidNotes", .glo "InvalidTrips", .glo "InUse", .glo "Broken", .glo "NoArea", .glo "NoFigureFits", .glo "NotSure"]
def fa5 : List He.Fa := [.glo "NothingToUndo", .glo "_law_source", .glo "_law_rounds", .glo "_law_draw", .glo "_law_pick", .glo "_law_least", .glo "_law_spot", .glo "_law_first_kind", .glo "_law_second_kind", .glo "_law_third_kind", .glo "_law_bare_kind", .glo "_law_given_classes"]
def fa6 : List He.Fa := [.glo "_law_other_classes", .glo "_law_alone", .glo "_law_worth", .glo "_law_given_right", .glo "_law_index_right", .glo "_law_bare_right", .glo "_law_caught", .glo "_law_right", .glo "law", .free "int", .free "abs", .free "len"]
def fa7 : List He.Fa := [.free "max", .free "min", .free "divmod", .free "tuple", .free "list", .free "repr", .free "range", .free "isinstance", .free "ValueError", .free "Exception", .free "LookupError", .free "ArithmeticError"]
def fa8 : List He.Fa := [.free "RuntimeError", .free "AttributeError", .exc "NoArea", .exc "NoFigureFits", .exc "NotSure", .exc "NothingToUndo", .exc "WindError"]
def fa : List He.Fa := fa0 ++ (fa1 ++ (fa2 ++ (fa3 ++ (fa4 ++ (fa5 ++ (fa6 ++ (fa7 ++ (fa8))))))))
def iniB (K : PySem.W.Frag) (f x : Str) : Bool :=
  He.eqO (PySem.W.findIn K (.ref (He.ga K x)) "__init__") (some (some (.ref (He.ma K (He.ga K x) "__init__")))) && (decide (PySem.W.typeIn K (.ref (He.ma K (He.ga K x) "__init__")) = some (.type "function")) && He.eqO (PySem.W.findIn K (.ref (He.ga K x)) f) (some none))
def apartB : List Addr → Bool
  | [] => true
  | a :: r => r.all (fun b => !(Nat.beq a b)) && apartB r
def nmA : List Str := nmG ++ (nmI ++ nmB)
def ex (K : PySem.W.Frag) : Bool :=
  errB K veT (He.ga K "WindError") && ((nmA.all fun x => errB K (.ref (He.ga K "WindError") :: veT) (He.ga K x)) && ((nmG.all fun x => iniB K "given" x) && ((nmI.all fun x => iniB K "index" x) && evL ((He.ga K "WindError") :: nmA.map (He.ga K)) apartB)))
noncomputable abbrev endR (w : World) (os : OsState) : Option PySem.W.SharedT := HandSHeadRun.endF (HandSHeadRun.stepQ (HandSHeadRun.denQ HandSHeadRun.tabQ) R.prog w) 16000 R.prog w os
def onK {α : Type} (f : PySem.W.Frag → α) (s : PySem.W.SharedT) : α := evL (asQ (HandSHeadRun.getT s)) fun l => evK (HandSHeadRun.getT s) l f
def faB (K : PySem.W.Frag) : Bool := fa.all fun f => f.ok K
def fnB (l : List He.DefD) (K : PySem.W.Frag) : He.AlD := (l.all fun d => d.ok K, l.map fun d => He.fnW K d.at_)
end K1
namespace K1
open PySem PySem.Spec PyProof.Rows L2
theorem run1 (w : World) : HandSHeadRun.RunEq R (PySem.W.view R.prog [82]) PySem.W.Hook.none (fun _ => ()) 16000 loose w := by
  intro os
  kernel_rfl
theorem run2 (w : World) (os : OsState) : (endR w os).map (onK ex) = some true := by
  kernel_rfl
theorem run3 (w : World) (os : OsState) : (endR w os).map (onK faB) = some true := by
  kernel_rfl
theorem run4 (w : World) (os : OsState) : (endR w os).map (onK (fnB fnP)) = some (true, fnP.map He.DefD.val) := by
  kernel_rfl
theorem run5 (w : World) (os : OsState) : (endR w os).map (onK (fnB fnQ)) = some (true, fnQ.map He.DefD.val) := by
  kernel_rfl
end K1
namespace PySem
namespace KwX
open PySem.W PySem.Calls PyProof.Rows PySem.HandSPX
section
variable {prog : Program} {w : World} {A : Around} {E : Value → Shared → Prop} {R : Result → Shared → Prop} {hp : Heap} {ge : Array GenState} {dr : Drawn} {tk : Nat} {osx : OsState}
variable {nmC quC : Str} {C N : Addr} {bss bmm bmE : List Value} {hdc : Bool} {snn : List Str} {sbb : List Value} {abb : Bool} {coo : Option Bool} {ddd : Option Addr} {s0 s1 s2 s3 s5 : Option Value} {BN idN idI : String} {kws : List (Str × Value)}
theorem newCheckKw (F : ExcBaseFacts BN idN idI bmE) (hT : ∀ Y : String, bmm.contains (.type Y) = bmE.contains (.type Y)) {Q : Unit → Shared → Prop}
    (hC : hp.get? C = some (excClassObj nmC quC C N bss bmm hdc snn sbb abb coo ddd s0 s1 s2 s3 s5 idN))
    (hq : Q () ⟨hp, ge, dr, tk, osx⟩) : wpAny (model prog w) A (checkBuiltinCall idN ⟨[.ref C], kws⟩) Q E ⟨hp, ge, dr, tk, osx⟩ := by
  have c1 : (Value.ref C :: bmm).contains (.type BN) = true := by
    rw [List.contains_cons, hT, F.hasB, Bool.or_true]
  have c2 := F.noStar
  simp only [checkBuiltinCall, F.newKind, F.newSplit, F.newRow]
  repeat (first
    | refine wpAny_loadPart_at hC ?_
    | (refine wpAny_isSubtype_exc hC ?_; rw [c1])
    | refine wpAny_staticBase_exc hC ?_
    | refine wpAny_madeBy_exc hC ?_
    | simp only [bne_self_eq_false, Bool.false_eq_true, if_false]
    | wp_step)
  all_goals first | exact hq | trace_state
theorem newKw (F : ExcBaseFacts BN idN idI bmE) (hT : ∀ Y : String, bmm.contains (.type Y) = bmE.contains (.type Y))
    (hC : hp.get? C = some (excClassObj nmC quC C N bss bmm hdc snn sbb abb coo ddd s0 s1 s2 s3 s5 idN))
    (hq : R (.ok (.ret (.ref (hp.objs.size + 1)))) ⟨(hp.push (W.kdv_tup [])).push (excO C hp.objs.size), ge, dr, tk, osx⟩) :
    codeAny (model prog w) A (.builtin idN ⟨[.ref C], kws⟩) R ⟨hp, ge, dr, tk, osx⟩ := by
  have he := F.ends
  have c1 : (Value.ref C :: bmm).contains (.type BN) = true := by
    rw [List.contains_cons, hT, F.hasB, Bool.or_true]
  have c2 : (Value.ref C :: bmm).contains (.type "AttributeError") = false := by
    rw [List.contains_cons, hT, F.noAttr]; rfl
  have c3 : (Value.ref C :: bmm).contains (.type "NameError") = false := by
    rw [List.contains_cons, hT, F.noName]; rfl
  have hz : ([] : List Value).length ≤ sizeLine := Nat.zero_le _
  refine codeAny_builtinAt F.entry ?_
  unfold Builtin.«BaseException.__new__»
  refine wpAt_bind ?_
  show wpAt _ _ _ (stack >>= _) _ _ _
  refine wpAt_bind (wpAt_stack fun pz bz => wpAt_of_wpAny ?_)
  wp_walk
  refine wpAt_of_wpAny ?_
  rw [F.owner]
  repeat (first
    | with_reducible refine wpAny_madeHere_exc F.canon hC ?_
    | with_reducible refine wpAny_loadPart_at hC ?_
    | (with_reducible refine wpAny_isSubtype_exc hC ?_; first | rw [c1] | rw [c2] | rw [c3])
    | wp_step)
  show R _ _
  rw [Heap.size_push]
  exact hq
theorem typeCallKw (F : ExcBaseFacts BN idN idI bmE) (hT : ∀ Y : String, bmm.contains (.type Y) = bmE.contains (.type Y)) {fI : Addr} {Q : Fin → Shared → Prop}
    (hC : hp.get? C = some (excClassObj nmC quC C N bss bmm hdc snn sbb abb coo ddd s0 s1 s2 s3 s5 idN))
    (hi : W.Looks (model prog w) hp (typeLookup (.ref C) "__init__") (some (.ref fI))) (hb : ∀ self, W.Looks (model prog w) hp (bindSpecial (.ref fI) self) (.ref fI, [self]))
    (hq : codeAny (model prog w) A (.call (.ref fI) ⟨[.ref (hp.objs.size + 1)], kws⟩)
      (fun r s' => match r with | .ok (.ret v) => v = .none ∧ Q (.done (.ret (.ref (hp.objs.size + 1)))) s' | .ok _ => False | .error e => E e s')
      ⟨(hp.push (W.kdv_tup [])).push (excO C hp.objs.size), ge, dr, tk, osx⟩) :
    wpAny (model prog w) A (Builtin.«type.__call__» ⟨[.ref C], kws⟩) Q E ⟨hp, ge, dr, tk, osx⟩ := by
  repeat (first | with_reducible refine wpAny_loadPart_at hC ?_ | with_reducible refine wpAny_madeBy_exc hC ?_ | wp_step)
  refine codeAny_call_builtin_code (Code.quiet_builtin _ F.quiet) (newCheckKw F hT hC ?_)
  refine newKw F hT hC ?_
  show wpAny _ _ _ _ _ _
  have old : ∀ b o, hp.get? b = some o → ((hp.push (W.kdv_tup [])).push (excO C hp.objs.size)).get? b = some o := fun b o e => Heap.get?_push_of_some _ (Heap.get?_push_of_some _ e)
  have hC1 := old _ _ hC
  have hnew : ((hp.push (W.kdv_tup [])).push (excO C hp.objs.size)).get? (hp.objs.size + 1) = some (excO C hp.objs.size) := by heap_get
  have hself : (Value.ref C :: bmm).contains (.ref C) = true := by simp
  have i1 := hi.keeps old
  have b1 := (hb (.ref (hp.objs.size + 1))).keeps old
  unfold isInstance
  repeat (first | with_reducible refine wpAny_loadPart_at hnew ?_ | (with_reducible refine wpAny_isSubtype_exc hC1 ?_; rw [hself]) | wp_step)
  show wpAny _ _ (typeLookup (.ref C) _) _ _ _
  refine i1.at ?_
  refine wpAny_holding (wpAny_bind (b1.at ?_))
  refine wpAny_bind (wpAny_call (codeAny_mono hq fun r s' z => ?_))
  rcases r with e | (v | _ | _ | _)
  all_goals first | exact z | exact z.elim | skip
  obtain ⟨rfl, z⟩ := z
  first
    | exact wpAny_pure (wpAny_pure z)
    | (wp_walk; exact z)
theorem callKw (F : ExcBaseFacts BN idN idI bmE) (hT : ∀ Y : String, bmm.contains (.type Y) = bmE.contains (.type Y)) {fI : Addr}
    (hC : hp.get? C = some (excClassObj nmC quC C N bss bmm hdc snn sbb abb coo ddd s0 s1 s2 s3 s5 idN))
    (hi : W.Looks (model prog w) hp (typeLookup (.ref C) "__init__") (some (.ref fI))) (hb : ∀ self, W.Looks (model prog w) hp (bindSpecial (.ref fI) self) (.ref fI, [self]))
    (hq : codeAny (model prog w) (A.under (.builtin "type.__call__" ⟨[.ref C], kws⟩)) (.call (.ref fI) ⟨[.ref (hp.objs.size + 1)], kws⟩) (W.InitBack (hp.objs.size + 1) R)
      ⟨(hp.push (W.kdv_tup [])).push (excO C hp.objs.size), ge, dr, tk, osx⟩) :
    codeAny (model prog w) A (.call (.ref C) ⟨[], kws⟩) R ⟨hp, ge, dr, tk, osx⟩ := by
  have f1 := tc_lookup
  have f2 := tc_bind (.ref C)
  have hTy : (⟨hp, ge, dr, tk, osx⟩ : Shared).TypeIs (.ref C) "type" := ⟨_, hC, rfl⟩
  refine codeAny_of_tree ?_
  show wpAny _ _ (callAny (.ref C) _) _ _ _
  repeat (any_goals (first | assumption | with_reducible refine wpAny_loadPart_at hC ?_ | wp_step))
  refine ⟨rfl, ?_⟩
  refine codeAny_call_builtin_at (Code.quiet_builtin _ (by decide +kernel)) entry_typeCall (wpAny_check_type_call_sub hC (typeCallKw F hT hC hi hb ?_))
  refine codeAny_mono hq fun r s' z => ?_
  rcases r with e | (v | _ | _ | _)
  all_goals exact z
end
end KwX
end PySem
namespace K1
open PySem PySem.Spec PyProof.Rows L2
/-! ### classes of errors, made as values -/
/-- what C(e) and C(f = e) leave: the error at a, its dict at d -/
def excH (H : Hp) (a d C : Addr) (f : Str) (v : V) : Hp := upd (upd (upd H a (exo a C none)) d (exd d [(f, v)])) a (exo a C (some d))
def tMk (C : Addr) (f : Str) (te : TE) : TE := fun σ H Q => te σ H fun v H1 => ∀ a d, H1 a = none → H1 d = none → d ≠ a → Q (.ref a) (excH H1 a d C f v)
/-- the promise of such an __init__ -/
def spI (K : PySem.W.Frag) (f : Str) : Sp := fun vs H Q _ => ∃ (a C : Addr) (v : V), vs = [.ref a, v] ∧ OexC K C ∧ PySem.W.findIn K (.ref C) f = some none ∧ H a = some (exo a C none) ∧
  ∀ dx, H dx = none → dx ≠ a → Q .non (upd (upd H dx (exd dx [(f, v)])) a (exo a C (some dx)))
/-- all that is asked of the class at C with the attribute f, made by the def at fI -/
structure MkOk (X : Cx) (C fI : Addr) (fd : FuncData) (f : Str) (k : Nat) : Prop where
  oe : OexC X.K C
  ini : PySem.W.findIn X.K (.ref C) "__init__" = some (some (.ref fI))
  tyf : PySem.W.typeIn X.K (.ref fI) = some (.type "function")
  fn : FnOk X.prog X.w X.K X.mg X.base CX0 k fI fd ["self", f] (spI X.K f)
  no : PySem.W.findIn X.K (.ref C) f = some none
  bp : Binds X.K fd ["self", f] []
  bk : ∀ (s : Shared) (u v : Value), X.K.In s.heap → BindsTo s fd ⟨[u], [(f, v)]⟩ ((["self", f] : List Str).zip [u, v])
section
variable {X : Cx} {C fI : Addr} {fd : FuncData} {f x : Str} {k : Nat} {e : Expr} {te : TE} {p pos : Pos}
theorem pe_mkP (M : MkOk X C fI fd f k) (hr : Room (k + 1) X.A) (hg : Gl X x) (hm : X.mg x = some (.ref C)) (he : PE X e te)
    (hs : starEach [e] X.env = (false, eval e X.env) :: starEach [] X.env := by rfl) (hdb : (x == ("__debug__" : Str)) = false := by decide) :
    PE X (.Call (.Name x p) [e] [] pos) (tMk C f te) := by
  refine ⟨fun pins s σ H Q I h => ?_⟩
  obtain ⟨nmC, quC, N, bss, bmm, snn, sbb, abb, coo, ddd, z0, z1, z2, z3, z5, hC, hbm⟩ := M.oe.cls
  refine wpAny_Call_Name_kw (ld_glob I hg hm ?_ hdb)
  refine PySem.W.callWith_K (h₀ := X.base) I.ok.mod.kin M.oe.kC ?_ hs (by rfl)
  rw [hs]
  show wpAny _ _ (spliced ((false, eval e X.env) :: backTo pos (starEach [] X.env))) _ _ s
  refine Calls.spliced_cons (thn (he.run pins s σ H _ I h) fun u sA ⟨v, H1, I1, r1, q1⟩ => ?_)
  refine Calls.spliced_nil ⟨I1.kIn, ?_⟩
  show wpAny _ _ (call (.ref C) [u]) _ _ _
  obtain ⟨hp, ge, dr, tk, osx⟩ := sA
  have hsz : hp.objs.size ≤ hp.objs.size + 1 := Nat.le_succ _
  have hn : H1 (hp.objs.size + 1) = none := I1.hok.fresh hsz
  have old : ∀ b o, hp.get? b = some o → ((hp.push (PySem.W.kdv_tup [u])).push (PySem.HandSPX.excO C hp.objs.size)).get? b = some o := fun b o z => Heap.get?_push_of_some _ (Heap.get?_push_of_some _ z)
  have hget : ((hp.push (PySem.W.kdv_tup [u])).push (PySem.HandSPX.excO C hp.objs.size)).get? (hp.objs.size + 1) = some (PySem.HandSPX.excO C hp.objs.size) := by heap_get
  have I2 : Inv X pins σ (upd H1 (hp.objs.size + 1) (exo (hp.objs.size + 1) C none)) ⟨(hp.push (PySem.W.kdv_tup [u])).push (PySem.HandSPX.excO C hp.objs.size), ge, dr, tk, osx⟩ :=
    I1.laid (t' := tk) (a := hp.objs.size + 1) (o := exo (hp.objs.size + 1) C none) (h' := (hp.push (PySem.W.kdv_tup [u])).push (PySem.HandSPX.excO C hp.objs.size)) old hsz (exo_ok hget)
  have hq : spI X.K f [.ref (hp.objs.size + 1), v] (upd H1 (hp.objs.size + 1) (exo (hp.objs.size + 1) C none)) (fun w2 H2 => w2 = .non ∧ Q (.ref (hp.objs.size + 1)) H2) E0 :=
    ⟨_, C, v, rfl, M.oe, M.no, upd_same, fun dx hx ne => ⟨rfl, q1 _ dx hn (by rw [upd_ne ne] at hx; exact hx) ne⟩⟩
  have r2 : Vals [V.ref (hp.objs.size + 1), v] [Value.ref (hp.objs.size + 1), u] := .cons rfl (.cons r1 .nil)
  refine wpAny_call (PySem.HandSPX.call_own F.excBase_ValueError (fun Y => PySem.HandSPX.refsVE_contains Y bmm hbm) (I1.kIn _ _ hC) (PySem.W.looks_findIn I1.kIn M.ini) (fun self => PySem.W.bind_fn I1.kIn self M.tyf) (by show 1 ≤ sizeLine; rw [sizeLine_eq]; omega)
    (codeAny_mono (M.fn.run _ X.stack _ _ ⟨[Value.ref (hp.objs.size + 1), u], []⟩ [Value.ref (hp.objs.size + 1), u] _ _ E0 (hr.make C [u] []) (I2.env0.make C [u] []) (M.bp _ [Value.ref (hp.objs.size + 1), u] I2.kIn rfl) r2 hq) fun r sB hq' => ?_))
  cases r with
  | error er => exact hq'.elim
  | ok fl =>
    cases fl with
    | ret u2 =>
      obtain ⟨w2, H2, I3, rv, ev, q3⟩ := I2.after hq'
      subst ev
      exact ⟨rv, ⟨V.ref (hp.objs.size + 1), H2, I3, rfl, q3⟩⟩
    | next => exact False.elim hq'
    | brk => exact False.elim hq'
    | cont => exact False.elim hq'
theorem pe_mkK {kpos : Pos} (M : MkOk X C fI fd f k) (hr : Room (k + 1) X.A) (hg : Gl X x) (hm : X.mg x = some (.ref C)) (he : PE X e te)
    (hdb : (x == ("__debug__" : Str)) = false := by decide) :
    PE X (.Call (.Name x p) [] [⟨some f, e, kpos⟩] pos) (tMk C f te) := by
  refine ⟨fun pins s σ H Q I h => ?_⟩
  obtain ⟨nmC, quC, N, bss, bmm, snn, sbb, abb, coo, ddd, z0, z1, z2, z3, z5, hC, hbm⟩ := M.oe.cls
  refine wpAny_Call_Name_kw (ld_glob I hg hm ?_ hdb)
  have hk : PK X [⟨some f, e, kpos⟩] (tCons te tNil) := pk_cons he pk_nil
  refine PySem.W.callWith_KW0 (first := []) (h₀ := X.base) I.ok.mod.kin M.oe.kC (by rfl) ?_ (by rfl)
  refine thn (hk.run pos pins s σ H (fun vs H1 => match vs with
    | [v] => ∀ a d, H1 a = none → H1 d = none → d ≠ a → Q (.ref a) (excH H1 a d C f v)
    | _ => False) I h) fun ws sA ⟨vs, H1, I1, rr, q1⟩ => ⟨I1.kIn, ?_⟩
  obtain ⟨v, rfl⟩ : ∃ v, vs = [v] := by
    cases vs with
    | nil => exact q1.elim
    | cons v r =>
      cases r with
      | nil => exact ⟨v, rfl⟩
      | cons _ _ => exact q1.elim
  cases rr with
  | @cons _ u _ _ r1 rn =>
  cases rn
  show wpAny _ _ (call (.ref C) [] [(f, u)]) _ _ _
  obtain ⟨hp, ge, dr, tk, osx⟩ := sA
  have hsz : hp.objs.size ≤ hp.objs.size + 1 := Nat.le_succ _
  have hn : H1 (hp.objs.size + 1) = none := I1.hok.fresh hsz
  have old : ∀ b o, hp.get? b = some o → ((hp.push (PySem.W.kdv_tup [])).push (PySem.HandSPX.excO C hp.objs.size)).get? b = some o := fun b o z => Heap.get?_push_of_some _ (Heap.get?_push_of_some _ z)
  have hget : ((hp.push (PySem.W.kdv_tup [])).push (PySem.HandSPX.excO C hp.objs.size)).get? (hp.objs.size + 1) = some (PySem.HandSPX.excO C hp.objs.size) := by heap_get
  have I2 : Inv X pins σ (upd H1 (hp.objs.size + 1) (exo (hp.objs.size + 1) C none)) ⟨(hp.push (PySem.W.kdv_tup [])).push (PySem.HandSPX.excO C hp.objs.size), ge, dr, tk, osx⟩ :=
    I1.laid (t' := tk) (a := hp.objs.size + 1) (o := exo (hp.objs.size + 1) C none) (h' := (hp.push (PySem.W.kdv_tup [])).push (PySem.HandSPX.excO C hp.objs.size)) old hsz (exo_ok hget)
  have hq : spI X.K f [.ref (hp.objs.size + 1), v] (upd H1 (hp.objs.size + 1) (exo (hp.objs.size + 1) C none)) (fun w2 H2 => w2 = .non ∧ Q (.ref (hp.objs.size + 1)) H2) E0 :=
    ⟨_, C, v, rfl, M.oe, M.no, upd_same, fun dx hx ne => ⟨rfl, q1 _ dx hn (by rw [upd_ne ne] at hx; exact hx) ne⟩⟩
  have r2 : Vals [V.ref (hp.objs.size + 1), v] [Value.ref (hp.objs.size + 1), u] := .cons rfl (.cons r1 .nil)
  refine wpAny_call (PySem.KwX.callKw F.excBase_ValueError (fun Y => PySem.HandSPX.refsVE_contains Y bmm hbm) (I1.kIn _ _ hC) (PySem.W.looks_findIn I1.kIn M.ini) (fun self => PySem.W.bind_fn I1.kIn self M.tyf)
    (codeAny_mono (M.fn.run _ X.stack _ _ ⟨[Value.ref (hp.objs.size + 1)], [(f, u)]⟩ [Value.ref (hp.objs.size + 1), u] _ _ E0 (hr.make C [] [(f, u)]) (I2.env0.make C [] [(f, u)]) (M.bk _ _ _ I2.kIn) r2 hq) fun r sB hq' => ?_))
  cases r with
  | error er => exact hq'.elim
  | ok fl =>
    cases fl with
    | ret u2 =>
      obtain ⟨w2, H2, I3, rv, ev, q3⟩ := I2.after hq'
      subst ev
      exact ⟨rv, ⟨V.ref (hp.objs.size + 1), H2, I3, rfl, q3⟩⟩
    | next => exact False.elim hq'
    | brk => exact False.elim hq'
    | cont => exact False.elim hq'
end
end K1
namespace PySem.W
open PySem PySem.Spec PySem.Calls PyProof.Rows
section
variable {prog : Program} {w : World} {A : Around} {E : Value → Shared → Prop} {s : Shared} {K : Frag} {x D : Addr} {ox : Obj} {od : Option Obj}
theorem k1_find {name : Str} {av gv : Value} (hc : (clsIn K D).isSome = true) (ha : findIn K (.ref D) name = some (some av)) (hg : specialIn K av "__get__" = some (some gv)) (ht : takesIn K av = some true) : findObj K D od name = some (.bind gv av) := by
  obtain ⟨cdD, e⟩ := Option.isSome_iff_exists.mp hc
  unfold findObj
  rw [e, Option.bind_some, ha, Option.bind_some]
  simp [hg, ht]
theorem k1_class {Q : Option Value → Shared → Prop} (C : L2.ExcC K D) (X : K.In s.heap) (I : InstAt s.heap x ox D od) (h : Q (some (.ref D)) { s with toks := s.toks + 1 }) :
    wpAny (model prog w) A (getAttr? (.ref x) "__class__") Q E s := by
  have hf : findObj K D od "__class__" = some (.bind (.builtin "getset_descriptor.__get__") (.builtin "object.__class__")) :=
    k1_find (by obtain ⟨cd, hc, _⟩ := any_some C.hd; rw [hc]; rfl) C.ha C.hn C.ht
  obtain ⟨hp, g, dr, t, os⟩ := s
  have L0 := I.type (M := model prog w)
  have L1 := looks_findIn (M := model prog w) X C.hg
  have L2 := looks_findIn (M := model prog w) X C.hk
  have L3 := looks_find (M := model prog w) X I hf
  have sub : Looks (model prog w) hp (isInstance (.ref x) (.type "BaseException")) true := L0.andThen (looks_subIn X C.hs)
  have q0 : (false && onTheHeap (Value.builtin "BaseException.__getattribute__")) = false := rfl
  have q2 : (Value.builtin "BaseException.__getattribute__" == Value.builtin "object.__getattribute__") = false := by decide +kernel
  have q1 : (onTheHeap (Value.ref D) && Value.builtin "BaseException.__getattribute__" == Value.builtin "object.__getattribute__") = false := by
    rw [q2]; rfl
  unfold getAttr? getAttrBy? getAttrBy
  refine wpAny_bind (wpAny_mkText (wpAny_bind (wpAny_attempt (wpAny_holding (wpAny_bind (L0.at (wpAny_bind (L1.at ?_))))))))
  show wpAny _ _ (if (onTheHeap (Value.ref D) && Value.builtin "BaseException.__getattribute__" == Value.builtin "object.__getattribute__") = true then _ else _) _ _ _
  rw [q1, if_neg Bool.false_ne_true]
  unfold getAttrByItsOwn hookBefore
  refine wpAny_bind ?_
  rw [if_pos (show onTheHeap (Value.ref D) = true from rfl)]
  refine L2.at ?_
  refine wpAny_bind (wpAny_attempt (wpAny_holding ?_))
  unfold callGetattribute
  rw [q0, if_neg Bool.false_ne_true]
  unfold boundAndCalled
  rw [PySem.F.excAttr_ValueError.ga.bind (.ref x)]
  refine wpAny_bind (wpAny_pure ?_)
  show wpAny _ _ (call (.builtin "BaseException.__getattribute__") [.ref x, .str "__class__" t]) _ _ _
  refine wpAny_call (codeAny_call_builtin PySem.F.excAttr_ValueError.ga.plain PySem.F.entry_bexc_ga ?_)
  refine @check_slot (model prog w) _ _ ⟨hp, g, dr, t + 1, os⟩ "BaseException.__getattribute__" "BaseException" "__getattribute__" (.ref x) [.str "__class__" t] [] _ (by decide +kernel) (by decide +kernel) sub (PySem.F.args_bexc_ga (.ref x) (.str "__class__" t)) ?_
  unfold Builtin.«object.__getattribute__»
  refine wpAny_bind (wpAny_of_eq (a := ((Value.ref x : Value), [Value.str "__class__" t])) (by first | rfl | (simp only [slotArgs]; rfl)) ?_)
  refine wpAny_bind (wpAny_pure (wpAny_bind (L0.at (wpAny_bind (L3.at ?_)))))
  show wpAny _ _ (holding [Value.builtin "object.__class__"] (call (.builtin "getset_descriptor.__get__") [.builtin "object.__class__", .ref x, .ref D]) >>= ret) _ _ _
  refine wpAny_bind (wpAny_holding (wpAny_call (class_get (s := ⟨hp, g, dr, t + 1, os⟩) (ox := ox) (od := od) X I C.hm ?_)))
  refine wpAny_pure ?_
  show wpAny _ _ (handedOut (.ref D)) _ _ _
  rw [handedOut_of (v := .ref D) rfl]
  first
    | exact wpAny_pure (wpAny_pure h)
    | exact wpAny_pure h
    | exact wpAny_pure (wpAny_bind (wpAny_pure (wpAny_pure h)))
theorem k1_kitx (C : L2.ExcC K D) : KitX K (.ref x) (.ref D) (fun h => ∃ od, InstAt h x ox D od) where
  ty := fun _ _ _ ⟨_, I⟩ => I.type
  it := fun _ _ X _ => by
    obtain ⟨cdD, e, _⟩ := any_some C.hd
    unfold clsIn at e
    split at e
    · rename_i c' d' cd' sl' ho
      intro A' Q' E' s' k q
      unfold isType loadHead
      exact wpAny_bind (wpAny_loadPart (k _ _ (X _ _ ho)) (wpAny_pure q))
    · cases e
  ne := fun h tp dd its n sl X htp => by
    obtain ⟨cdD, e, _⟩ := any_some C.hd
    refine Bool.eq_false_iff.mpr fun q => ?_
    have z : D = tp := Value.ref.inj (beq_iff_eq.mp q)
    subst z
    unfold clsIn at e
    split at e
    · rename_i c' d' cd' sl' ho
      have z := (X _ _ ho).symm.trans htp
      cases z
    · cases e
  ca := fun X ⟨_, I⟩ k => k1_class C X I k
end
end PySem.W
namespace K1
open PySem PySem.Spec PyProof.Rows L2
theorem exf_of {K : PySem.W.Frag} {C : Addr} (c : ExcC K C) : XfC K C := ⟨c.hg, c.hk, c.hs, c.hd⟩
/-- an error stands at a: of the class at C, with the dict d, its attributes -/
def ErrAt (H : Hp) (a C : Addr) (fs : List (Str × V)) : Prop := (H a = some (exo a C none) ∧ fs = []) ∨ ∃ d, d ≠ a ∧ H a = some (exo a C (some d)) ∧ H d = some (exd d fs)
section
variable {X : Cx} {pins : List (Addr × Obj)} {σ : L2.St} {H : Hp} {s : Shared}
theorem ErrAt.inst {a C : Addr} {fs : List (Str × V)} (I : Inv X pins σ H s) (h : ErrAt H a C fs) : ∃ ox od, PySem.W.InstAt s.heap a ox C od := by
  rcases h with ⟨h, _⟩ | ⟨d, _, h, hd⟩
  · obtain ⟨t, ho⟩ := exo_at I.hok h
    exact ⟨_, none, ho, rfl, rfl, trivial⟩
  · obtain ⟨t, ho⟩ := exo_at I.hok h
    obtain ⟨mA, hns, _⟩ := exd_at I.hok hd
    obtain ⟨od, hod, _⟩ := lookIn_ns hns
    exact ⟨_, some od, ho, rfl, rfl, hod⟩
end
/-- e.n of an error -/
def tErrF (K : PySem.W.Frag) (n : Str) (te : TE) : TE := fun σ H Q => te σ H fun x H1 => ∃ (a C : Addr) (fs : List (Str × V)) (v : V), x = .ref a ∧ ExcC K C ∧ PySem.W.findIn K (.ref C) n = some none ∧ ErrAt H1 a C fs ∧ fs.lookup n = some v ∧ Q v H1
section
variable {X : Cx} {e : Expr} {te : TE} {n : Str} {pos : Pos}
theorem pe_errF (he : PE X e te) (hb : attributeBase e n X.env (eval e X.env) = eval e X.env := by rfl) : PE X (.Attribute e n pos) (tErrF X.K n te) := by
  refine ⟨fun pins s σ H Q I h => ?_⟩
  refine attr_of hb (thn (he.run pins s σ H _ I h) fun u sA hh => ?_)
  obtain ⟨x, H1, I1, rx, a, C, fs, v, ex, T, hno, ea, l, q⟩ := hh
  subst ex
  obtain rfl : u = Value.ref a := rx
  rcases ea with ⟨_, rfl⟩ | ⟨d, _, ea, ed⟩
  · cases l
  · obtain ⟨t, ho⟩ := exo_at I1.hok ea
    obtain ⟨mA, hns, hr⟩ := exd_at I1.hok ed
    obtain ⟨od, hod, hl⟩ := lookIn_ns hns
    obtain ⟨u, hu, ru⟩ := RelO.some_of (v := v) (o := mA n) (by rw [← l]; exact hr n)
    have J : PySem.W.InstAt sA.heap a _ C (some od) := ⟨ho, rfl, rfl, hod⟩
    exact HandSPX.exc_get I1.kIn J T.hg T.hk T.hs (PySem.W.findObj_own T.hd hno rfl (by rw [hl, hu])) (handed_of ru) ⟨v, H1, I1.tok _, ru, q⟩
end
/-- isinstance(e, c) of an error -/
def rIsErr (K : PySem.W.Frag) : List V → Hp → VK → Prop := fun xs H Q => ∃ (a C : Addr) (fs : List (Str × V)) (c : V) (cv : Value) (b : Bool), xs = [.ref a, c] ∧ ExcC K C ∧ ErrAt H a C fs ∧ (∀ u, RelV c u → u = cv) ∧
  PySem.W.kitOne K (.ref C) cv = some b ∧ Q (.bl b) H
theorem call_isErr {X : Cx} : CallR X (.builtin "isinstance") (rIsErr X.K) := by
  intro pins s σ H xs us Q I r h
  obtain ⟨a, C, fs, c, cv, b, rfl, T, ea, hcv, e, q⟩ := h
  obtain ⟨u1, u2, rfl, r1, r2⟩ := vals2 r
  obtain rfl : u1 = Value.ref a := r1
  have ec := hcv _ r2
  subst ec
  obtain ⟨ox, od, J⟩ := ea.inst I
  exact PySem.W.kia_one (PySem.W.k1_kitx (ox := ox) T) I.kIn ⟨od, J⟩ e (fun z => nomatch z) fun tk => ⟨.bl b, H, I.kept (t' := tk) fun _ _ z => z, rfl, q⟩
/-- C(), a class of errors without an own __init__ -/
def tMk0 (C : Addr) : TE := fun _ H Q => ∀ a, H a = none → Q (.ref a) (upd H a (exo a C none))
theorem pe_mk0 {X : Cx} {C : Addr} {bmB : List Value} {B newId initId : String} {x : Str} {p pos : Pos} (F : ExcBaseFacts B newId initId bmB) (q : PySem.W.excIn X.K C bmB newId = true) (hm : X.mg x = some (.ref C)) (kC : PySem.W.keepIn X.K (.ref C) = true) (hg : Gl X x)
    (hdb : (x == ("__debug__" : Str)) = false := by decide) : PE X (.Call (.Name x p) [] [] pos) (tMk0 C) := by
  refine ⟨fun pins s σ H Q I h => ?_⟩
  refine wpAny_Call_Name_kw (ld_glob I hg hm ?_ hdb)
  refine PySem.W.callWith_K0 I.kIn kC ?_
  show wpAny _ _ (call (.ref C) []) _ _ _
  obtain ⟨bm, N, nm, qn, bs, hdct, sn, sub, ab, col, dd, k0, k1, k2, k3, k5, mN, hC, hN, hni, T⟩ := exc_obj I.kIn q
  refine wpAny_call_exc_subT F T hC hN hni (fun h' a hm => ?_) (Nat.zero_le _)
  have hn : H a = none := I.hok.gone hm.new
  obtain ⟨t, ht, _, _⟩ := hm.there
  exact ⟨.ref a, upd H a (exo a C none), I.laidN hm.keeps hm.new hn (exo_ok ht), rfl, h a hn⟩
/-- raise of an expression that gives such an error -/
def tErrX (X : Cx) (te : TE) : L2.St → Hp → XK → Prop := fun σ H Q => te σ H fun x H1 => ∃ (a C d : Addr) (fs : List (Str × V)), x = .ref a ∧ d ≠ a ∧ H1 a = some (exo a C (some d)) ∧ H1 d = some (exd d fs) ∧ Fr0 X.H_0 a ∧ Raises X (.ref C) ∧ Q (.ref C) (some d) (delH H1 a)
theorem pmk_err {X : Cx} {e : Expr} {te : TE} (hx : X.ex = []) (he : PE X e te) : PMk X e (tErrX X te) := by
  intro pins s σ H Q I h
  refine wpAny_mono (he.run pins s σ H _ I h) (fun u sA hu => ?_) fun _ _ z => z
  obtain ⟨v, H1, I1, r1, a, C, d, fs, rfl, dne, ha, hd, h0, hr, q⟩ := hu
  cases r1
  obtain ⟨t, ho⟩ := exo_at I1.hok ha
  obtain ⟨G, gs, ga, J⟩ := I1.untrack ha h0 hx
  exact ⟨a, _, _, { sA with heap := G }, delH H1 a, .ref C, some d, rfl, J, gs, ga, ho, ⟨rfl, rfl⟩, rfl, rfl, delH_same, rfl, I1.bare, hr, q⟩
/-! ### in an except suite -/
def tCauF (a : Addr) (cls : Value) (d : Option Addr) (K : PySem.W.Frag) (n : Str) (te : TE) : TE := fun σ H Q => te σ H fun x H1 => ∃ (C dd : Addr) (fs : List (Str × V)) (v : V), x = .ref a ∧ cls = .ref C ∧ d = some dd ∧ ExcC K C ∧ PySem.W.findIn K (.ref C) n = some none ∧
  H1 dd = some (exd dd fs) ∧ fs.lookup n = some v ∧ Q v H1
theorem pe_cauF {X : Cx} {a : Addr} {oe : Obj} {cls : Value} {d : Option Addr} {pn : List (Addr × Obj)} {e : Expr} {te : TE} {pos : Pos} {n : Str} (hz : Zc cls d oe) (hf : ∃ vs, oe.data = .fields vs) (he : PE (X.suite a ((a, oe) :: pn)) e te)
    (hb : attributeBase e n X.env (eval e X.env) = eval e X.env := by rfl) : PE (X.suite a ((a, oe) :: pn)) (.Attribute e n pos) (tCauF a cls d X.K n te) := by
  refine ⟨fun pins s σ H Q I h => ?_⟩
  refine attr_of hb (thn (he.run pins s σ H _ I h) fun u sA hh => ?_)
  obtain ⟨x, H1, I1, rx, C, dd, fs, v, ex, ec, ed, T, hno, ea, l, q⟩ := hh
  subst ex
  obtain rfl : u = Value.ref a := rx
  subst ec
  subst ed
  obtain ⟨ha, _⟩ := I1.pin (a, oe) (List.mem_append_left _ List.mem_cons_self)
  obtain ⟨vs, hd⟩ := hf
  obtain ⟨mA, hns, hr⟩ := exd_at I1.hok ea
  obtain ⟨od, ho, hl⟩ := lookIn_ns hns
  obtain ⟨u, hu, ru⟩ := RelO.some_of (v := v) (o := mA n) (by rw [← l]; exact hr n)
  have J : PySem.W.InstAt sA.heap a oe C (some od) := ⟨ha, hz.1, by unfold PySem.W.notCls; rw [hd] <;> rfl, by rw [hz.2]; exact ho⟩
  exact HandSPX.exc_get I1.kIn J T.hg T.hk T.hs (PySem.W.findObj_own T.hd hno rfl (by rw [hl, hu])) (handed_of ru) ⟨v, H1, I1.tok _, ru, q⟩
def rIsCau (K : PySem.W.Frag) (a : Addr) (cls : Value) (d : Option Addr) : List V → Hp → VK → Prop := fun xs H Q => ∃ (C dd : Addr) (fs : List (Str × V)) (c : V) (cv : Value) (b : Bool), xs = [.ref a, c] ∧ cls = .ref C ∧ d = some dd ∧ ExcC K C ∧ H dd = some (exd dd fs) ∧
  (∀ u, RelV c u → u = cv) ∧ PySem.W.kitOne K (.ref C) cv = some b ∧ Q (.bl b) H
theorem call_isCau {X : Cx} {a : Addr} {oe : Obj} {cls : Value} {d : Option Addr} {pn : List (Addr × Obj)} (hz : Zc cls d oe) (hf : ∃ vs, oe.data = .fields vs) : CallR (X.suite a ((a, oe) :: pn)) (.builtin "isinstance") (rIsCau X.K a cls d) := by
  intro pins s σ H xs us Q I r h
  obtain ⟨C, dd, fs, c, cv, b, rfl, ec, ed, T, ea, hcv, e, q⟩ := h
  obtain ⟨u1, u2, rfl, r1, r2⟩ := vals2 r
  obtain rfl : u1 = Value.ref a := r1
  have ec2 := hcv _ r2
  subst ec2
  subst ec
  subst ed
  obtain ⟨ha, _⟩ := I.pin (a, oe) (List.mem_append_left _ List.mem_cons_self)
  obtain ⟨vs, hd⟩ := hf
  obtain ⟨mA, hns, hr⟩ := exd_at I.hok ea
  obtain ⟨od, ho, hl⟩ := lookIn_ns hns
  have J : PySem.W.InstAt s.heap a oe C (some od) := ⟨ha, hz.1, by unfold PySem.W.notCls; rw [hd] <;> rfl, by rw [hz.2]; exact ho⟩
  exact PySem.W.kia_one (PySem.W.k1_kitx (ox := oe) T) I.kIn ⟨some od, J⟩ e (fun z => nomatch z) fun tk => ⟨.bl b, H, I.kept (t' := tk) fun _ _ z => z, rfl, q⟩
end K1
namespace K1
open PySem PySem.Spec PyProof.Rows L2
/-! ### defs that ask for repr: called where no repr is under way -/
structure FnG (P : Program) (w : World) (K : PySem.W.Frag) (mg : Str → Option Value) (base : Heap) (CX : CXT) (k : Nat) (f : Addr) (fd : FuncData) (ps : List Str) (sp : Sp) : Prop where
  len : ∀ vs H Q E, sp vs H Q E → vs.length = ps.length
  run : ∀ (A : Around) (outer : List Env) (s : Shared) (H : Hp) (args : Args) (us : List Value) (vs : List V) (Q : VK) (E : XK), A.guards = some [] → Room k A → Env0 P w K mg base A outer s H → BindsTo s fd args (ps.zip us) → Vals vs us →
    sp vs H Q E → codeAny (model P w) A (.call (.ref f) args) (CR CX outer P w H s Q E) s
section
variable {P : Program} {w : World} {K : PySem.W.Frag} {mg : Str → Option Value} {base : Heap}
theorem fnG_of {CX : CXT} {k : Nat} {f : Addr} {nm qu : Str} {pars : Arguments} {bd : List Stmt} {sc : Scope} {dvs : List V} {kws : List (Str × V)} {fd : FuncData} {N ps : List Str} {sp : Sp}
    (F : FunD K nm qu pars bd sc dvs kws f fd) (S : FnScope N ps sc) (len : ∀ vs H Q E, sp vs H Q E → vs.length = ps.length)
    (body : ∀ (cdv : Value) (A : Around) (outer : List Env) (s : Shared) (H : Hp) (vs : List V) (Q : VK) (E : XK), (cxOf CX P w K mg base N qu sc f cdv A outer s H E).A.guards = some [] →
      Room k (A.deeper (envOfC qu sc s.heap.objs.size f cdv)) → sp vs H Q E →
      ∃ t, PSs (cxOf CX P w K mg base N qu sc f cdv A outer s H E) bd t ∧ t { nx := fun _ H' => Q .non H', rt := Q } (start N vs) H) : FnG P w K mg base CX (k + 1) f fd ps sp := by
  obtain ⟨oc, od, dV, kV, doc, pm, an, cdv, ct, osl, rfl, lk, hcd, _, _⟩ := F.ex
  refine ⟨len, fun A outer s H args us vs Q E hgd hr e0 hb r hsp => ?_⟩
  have hl := len _ _ _ _ hsp
  have kin : K.In s.heap := e0.mod.kin.keeps fun b o e => (e0.bs b o e).1
  have nol : s.heap.NoLimit := e0.mod.nolimit.keeps fun b o e => (e0.bs b o e).1
  have kinds : ∀ y ∈ ps.zip us, sc.names.lookup y.1 = some .local ∨ (sc.names.lookup y.1 = some .cell ∧ ((cellsFrom (s.heap.objs.size + 1) sc.names []).lookup y.1).isSome = true) := by
    rintro ⟨n, v⟩ hy
    rcases S.par n (List.of_mem_zip hy).1 with q | q
    · exact .inl q
    · exact .inr ⟨q, PySem.W.cellsFrom_some _ _ _ (.inl q)⟩
  refine codeAny_call_function hr.depth (kin _ _ lk) rfl S.co S.gen rfl (PySem.W.codeRec_of kin hcd) (hb _ _ _ _ ?_)
  refine wpAny_newFunctionEnv_cells S.kind kinds fun env he sB x => ?_
  subst he
  refine ⟨nol.keeps x.toInCall.keep, codeAny_func ?_⟩
  obtain ⟨t, ht, hq⟩ := body cdv A outer s H vs Q E hgd (hr.deeper _) hsp
  have I : Inv (cxOf CX P w K mg base N qu sc f cdv A outer s H E) [] (start N vs) H sB := inv_start S hr.hd e0 hl r x
  refine wpAny_mono (ht.run [] sB (start N vs) H _ I hq) (fun fl s' hs => ?_) fun e s' hs => hs
  have fin : ∀ {σ' : L2.St} {H' : Hp} {v : V} {u : Value}, Inv (cxOf CX P w K mg base N qu sc f cdv A outer s H E) [] σ' H' s' → RelV v u → Q v H' → CE outer P w H s Q u s' :=
    fun {_ H' v _} J rv q => ⟨v, H', J.os, J.bare, J.base, J.hok, rv, q⟩
  cases fl with
  | ret u =>
    obtain ⟨v, σ', H', J, rv, q⟩ := hs
    exact fin J rv q
  | next =>
    obtain ⟨σ', H', J, q⟩ := hs
    exact fin (v := V.non) (u := Value.none) J rfl q
  | brk =>
    obtain ⟨_, _, _, q⟩ := hs
    exact q.elim
  | cont =>
    obtain ⟨_, _, _, q⟩ := hs
    exact q.elim
end
section
variable {X : Cx} {k : Nat} {f : Addr} {fd : FuncData} {ps : List Str} {sp : Sp} {x : Str} {p pos : Pos} {e : Expr} {es : List Expr} {t : TA}
theorem runG {pins : List (Addr × Obj)} {σ : L2.St} {H : Hp} {s : Shared} {Q : VK} {us : List Value} {vs : List V} (F : FnG X.prog X.w X.K X.mg X.base CX0 k f fd ps sp) (hgd : X.A.guards = some []) (hr : Room k X.A) (hb : Binds X.K fd ps [])
    (I : Inv X pins σ H s) (r : Vals vs us) (h : sp vs H Q E0) : wpAny (model X.prog X.w) X.A (call (.ref f) us) (EP X pins σ Q) X.xe s := by
  have hl : us.length = ps.length := by rw [← r.length]; exact F.len _ _ _ _ h
  have b := hb s us I.kIn (by rw [List.append_nil]; exact hl)
  rw [List.append_nil] at b
  refine wpAny_call (codeAny_mono (F.run X.A X.stack s H ⟨us, []⟩ us vs Q E0 hgd hr I.env0 b r h) fun r s' hq => ?_)
  cases r with
  | error e => exact hq.elim
  | ok fl =>
    cases fl with
    | ret u => exact I.after hq
    | next => exact hq.elim
    | brk => exact hq.elim
    | cont => exact hq.elim
theorem pe_callG (F : FnG X.prog X.w X.K X.mg X.base CX0 k f fd ps sp) (hgd : X.A.guards = some []) (hr : Room k X.A) (hg : Gl X x) (hm : X.mg x = some (.ref f)) (hk : PySem.W.keepIn X.K (.ref f) = true) (hb : Binds X.K fd ps [])
    (ha : PA X (e :: es) t) (hdb : (x == ("__debug__" : Str)) = false := by decide) (he : starEach (e :: es) X.env = (false, eval e X.env) :: starEach es X.env := by rfl) (hpl : (backTo pos (starEach es X.env)).any (·.1) = false := by rfl) :
    PE X (.Call (.Name x p) (e :: es) [] pos) (tCall sp [] E0 t) := by
  refine ⟨fun pins s σ H Q I h => ?_⟩
  refine wpAny_Call_Name_kw (ld_glob I hg hm ?_ hdb)
  refine PySem.W.callWith_K (h₀ := X.base) I.ok.mod.kin hk (thn (ha.run pos pins s σ H _ I h) fun us sA ⟨vs, H1, I1, r, q⟩ => ⟨I1.kIn, ?_⟩) he hpl
  have q2 : sp (vs ++ []) H1 Q E0 := q
  rw [List.append_nil] at q2
  exact runG F hgd hr hb I1 r q2
end
/-! ### repr of data -/
/-- v shows as d in H: data of any depth, or an empty dict -/
def Shows (K : PySem.W.Frag) (H : Hp) (v : V) (d : PyData) : Prop := Dp K H v d ∨ ∃ a, v = .ref a ∧ d = .dict [] ∧ H a = some (.dK [])
def rRepr (K : PySem.W.Frag) : List V → Hp → VK → Prop := fun xs H Q => ∃ (v : V) (d : PyData), xs = [v] ∧ Shows K H v d ∧ d.showable = true ∧ d.depth ≤ 60 ∧ d.shown.length ≤ sizeLine ∧ Q (.str d.shown) H
theorem dp_noDict {K : PySem.W.Frag} {H : Hp} : (∀ (d : PyData) (v : V), Dp K H v d → d.hasDict = false) ∧ ∀ (ds : List PyData) (vs : List V), DpAll K H vs ds → PyData.hasDictAll ds = false := by
  have key : ∀ (n : Nat), (∀ (d : PyData) (v : V), sizeOf d ≤ n → Dp K H v d → d.hasDict = false) ∧ ∀ (ds : List PyData) (vs : List V), sizeOf ds ≤ n → DpAll K H vs ds → PyData.hasDictAll ds = false := by
    intro n
    induction n with
    | zero =>
      refine ⟨fun d v hz _ => ?_, fun ds vs hz _ => ?_⟩
      · cases d <;> simp at hz <;> omega
      · cases ds <;> simp at hz <;> omega
    | succ n ih =>
      refine ⟨fun d v hz h => ?_, fun ds vs hz h => ?_⟩
      · cases h with
        | non => rfl
        | bl b => rfl
        | int i => rfl
        | str x => rfl
        | lst hs ha =>
          rename_i ds
          unfold PyData.hasDict
          exact ih.2 _ _ (by simp at hz; omega) ha
        | tup hs ha =>
          rename_i ds
          unfold PyData.hasDict
          exact ih.2 _ _ (by simp at hz; omega) ha
      · cases h with
        | nil => rfl
        | cons h1 h2 =>
          unfold PyData.hasDictAll
          rw [ih.1 _ _ (by simp at hz; omega) h1, ih.2 _ _ (by simp at hz; omega) h2]
          rfl
  exact ⟨fun d v h => (key _).1 d v (Nat.le_refl _) h, fun ds vs h => (key _).2 ds vs (Nat.le_refl _) h⟩
theorem call_reprD {X : Cx} (hgd : X.A.guards = some []) (hu : X.A.units + 64 < cLine) : CallR X (.builtin "repr") (rRepr X.K) := by
  intro pins s σ H xs us Q I r h
  obtain ⟨v, d, rfl, hd, hs, hdp, hz, q⟩ := h
  obtain ⟨u, rfl, ru⟩ := vals1 r
  rcases hd with hd | ⟨a, rfl, rfl, ha⟩
  · obtain ⟨as, rd⟩ := Dp.reads I d v u hd ru
    have hnd := dp_noDict.1 d v hd
    cases rd with
    | none => exact PySem.P.repr_of_none ⟨.str _, H, I.tok _, ⟨_, rfl⟩, q⟩
    | bool b => exact PySem.P.repr_of_bool ⟨.str _, H, I.tok _, ⟨_, rfl⟩, by cases b <;> exact q⟩
    | int i t => exact PySem.P.repr_of_int (by simpa [PyData.showable] using hs) ⟨.str _, H, I.tok _, ⟨_, rfl⟩, q⟩
    | str x t => exact PySem.P.repr_of_str ⟨.str _, H, I.tok _, ⟨_, rfl⟩, q⟩ hz
    | list h1 h2 h3 h4 => exact repr_of_reads' (Reads.list h1 h2 h3 h4) hs (fun z => by rw [hnd] at z; cases z) hgd (by omega) (fun _ _ e => e) (fun h' t' tk kp => ⟨.str _, H, I.kept kp, ⟨_, rfl⟩, q⟩) hz
    | tuple h1 h2 h3 h4 => exact repr_of_reads' (Reads.tuple h1 h2 h3 h4) hs (fun z => by rw [hnd] at z; cases z) hgd (by omega) (fun _ _ e => e) (fun h' t' tk kp => ⟨.str _, H, I.kept kp, ⟨_, rfl⟩, q⟩) hz
    | dict h1 h2 h3 h4 h5 => exact absurd hnd (by simp [PyData.hasDict])
  · obtain rfl : u = Value.ref a := ru
    obtain ⟨_, hsm, vs, kv, hdo⟩ := I.hok a _ ha
    cases kv
    obtain ⟨o, es, ep, ho, hex, hdat, hes, hpr, _⟩ := hdo
    have he : es.toList = [] := by
      generalize es.toList = l at hpr
      cases hpr
      rfl
    have rd : Reads s.heap (.ref a) (.dict []) (a :: [] ++ []) := by
      refine Reads.dict ho hex.1 hdat ?_ ?_
      · rw [he]; exact ReadsAll.nil
      · rw [he]; exact ReadsAll.nil
    exact repr_of_reads' rd hs (fun _ z => by
      have z2 : sysModules = a := by simpa using z
      rw [z2] at hsm
      simp at hsm) hgd (by omega) (fun _ _ e => e) (fun h' t' tk kp => ⟨.str _, H, I.kept kp, ⟨_, rfl⟩, q⟩) hz
/-! ### the law's own head, its def asking for repr -/
theorem callLawG {P : Program} {w : World} {K : PySem.W.Frag} {mg mb : Str → Option Value} {k : Nat} {fa a : Addr} {fd : FuncData} {x : Str} {sp : Sp} {sB : Shared} {vs : List Value} {ns : List Int}
    (kin : K.In sB.heap) (hns : sB.heap.Ns mainGlobals mg) (hbn : sB.heap.Ns builtinsNs mb) (hbb : ∀ x : Str, x ≠ "__name__" → mb x = bootBuiltins x) (nol : sB.heap.NoLimit) (hgen : sB.gens = #[])
    (hobj : sB.heap.get? a = some { cls := .type "list", data := .seq vs.toArray }) (hints : IntsAre vs ns) (hlen : ns.length ≤ sizeLine) (hr : Room k callerA)
    (F : ∀ base : Heap, K.In base → base.Ns mainGlobals mg → FnG P w K mg base CX0 k fa fd [x] sp) (hbind : ∀ (s : Shared) (u : Value), BindsTo s fd ⟨[u], []⟩ [(x, u)])
    (hsp : ∀ H : Hp, Only H → SqL K H a (ns.map V.int) → sp [.ref a] H (fun v _ => v = .bl true) E0) :
    codeAny (model P w) callerA (.call (.ref fa) ⟨[.ref a], []⟩) (fun r s' => r = .ok (.ret (.bool true)) ∧ OldK sB.heap s'.heap ∧ s'.os = sB.os ∧ AllBare s'.gens) sB := by
  have rv := vals_ints hints
  have lenV := hints.length
  have main : ∀ H : Hp, Only H → SqL K H a (ns.map V.int) → HOk P w H sB.heap → (∀ b, H b ≠ none → b = a) → (H a ≠ none → K.lookup a = none) →
      codeAny (model P w) callerA (.call (.ref fa) ⟨[.ref a], []⟩) (fun r s' => r = .ok (.ret (.bool true)) ∧ OldK sB.heap s'.heap ∧ s'.os = sB.os ∧ AllBare s'.gens) sB := by
    intro H only seq hok onlyA noK
    have hid : ∀ {b : Addr} {o : Obj}, sB.heap.get? b = some o → H b = none → (hidT sB.heap H).get? b = some o := fun e n => hidT_get e n
    have noD : ∀ {b : Addr} {o : Obj} {es : Array DictEntry} {ep : Nat}, sB.heap.get? b = some o → o.data = .dict es ep → H b = none := by
      intro b o es ep e d
      cases q : H b with
      | none => rfl
      | some u =>
        have e' : b = a := onlyA b (by rw [q]; simp)
        subst e'
        rw [hobj] at e
        cases e
        have d' : Data.seq vs.toArray _ = Data.dict es ep := d
        cases d'
    have nsOf : ∀ {b : Addr} {m : Str → Option Value}, sB.heap.Ns b m → (hidT sB.heap H).Ns b m := fun {_ _} ⟨o, es, ep, e, d, r⟩ => ⟨o, es, ep, hid e (noD e d), d, r⟩
    have kinB : K.In (hidT sB.heap H) := by
      intro b o e
      refine hid (kin b o e) ?_
      cases q : H b with
      | none => rfl
      | some u =>
        have e' : b = a := onlyA b (by rw [q]; simp)
        subst e'
        rw [noK (by rw [q]; simp)] at e
        cases e
    obtain ⟨mc, l1, l2⟩ := nol
    have hM : Mod K mg (hidT sB.heap H) := ⟨kinB, nsOf hns, ⟨mb, nsOf hbn, hbb⟩, ⟨mc, nsOf l1, l2⟩⟩
    have en : Env0 P w K mg (hidT sB.heap H) callerA [] sB H := ⟨rfl, hM, fun b o e => of_hidT e, Nat.le_of_eq (hidT_size _ _), trivial, fun b hb => absurd (show b ∈ ([] : List Addr) from hb) (by simp), hok, .of_eq hgen⟩
    refine codeAny_mono ((F _ kinB (nsOf hns)).run callerA [] sB H ⟨[.ref a], []⟩ [.ref a] [.ref a] _ _ rfl hr en (hbind sB (.ref a)) (.cons rfl .nil) (hsp H only seq)) fun r s' h => ?_
    cases r with
    | error e => exact h.elim
    | ok fl =>
      cases fl with
      | next => exact h.elim
      | brk => exact h.elim
      | cont => exact h.elim
      | ret u =>
        obtain ⟨v, H', os, bare, un, hok', r', q⟩ := h
        have q' : v = .bl true := q
        subst q'
        obtain rfl : u = Value.bool true := r'
        refine ⟨rfl, OldK.of_keep fun b o e => ?_, os, bare⟩
        cases q : H b with
        | none => exact un.keep b o e q (fun z => absurd (show b ∈ ([] : List Addr) from z) (by simp)) (by simp)
        | some u =>
          rcases only b with z | ⟨ob, xs, z⟩
          · rw [q] at z
            cases z
          · have z2 := un.frzs b ob _ z
            obtain ⟨e1, _⟩ := hok b _ z
            obtain ⟨e2, _⟩ := hok' b _ z2
            rw [e] at e1
            cases e1
            exact e2
  cases hk : K.lookup a with
  | some o =>
    have e := kin a o hk
    rw [hobj] at e
    cases e
    exact main (fun _ => none) (fun _ => .inl rfl) (.inr ⟨_, vs.toArray, _, hk, rfl, rfl, rfl, by rw [List.size_toArray, lenV]; exact hlen, by simpa using rv⟩) (fun b u z => by
      have z' : (none : Option HO) = some u := z
      cases z') (fun b z => absurd rfl z) fun z => absurd rfl z
  | none =>
    refine main (fun b => if b = a then some (.frz { cls := .type "list", data := .seq vs.toArray } (.lst (ns.map V.int))) else none) (fun b => ?_) (.inl (.inr ⟨{ cls := .type "list", data := .seq vs.toArray }, if_pos rfl⟩)) (fun b u z => ?_) (fun b z => ?_) fun _ => hk
    · by_cases hb : b = a
      · exact .inr ⟨_, _, if_pos hb⟩
      · exact .inl (if_neg hb)
    · by_cases hb : b = a
      · have z' := (if_pos hb).symm.trans z
        cases z'
        subst hb
        exact ⟨hobj, by rw [List.length_map]; exact hlen, vs, _, rv, hobj⟩
      · have z' := (if_neg hb).symm.trans z
        cases z'
    · by_cases hb : b = a
      · exact hb
      · exact absurd (if_neg hb) z
theorem walkG {l : PySem.W.OpenLaw} {n k : Nat} {q : Program} {loose : List Str} {XP : (Str → Option Value) → Heap → Prop} {YP : World → Heap → Prop} {d : DefRec} {x : Str}
    (hn : l.most = some n) (hn2 : n ≤ sizeLine) (hdf : d.params.defaults = []) (hr : Room k callerA)
    (F : ∀ (w : World) (mg : Str → Option Value) (fa : Addr) (h : Heap), YP w h → h.Ns mainGlobals mg → mg d.name = some (.ref fa) →
      ∃ (K : PySem.W.Frag) (fd : FuncData) (sp : Sp), K.In h ∧ (∀ (s : Shared) (u : Value), BindsTo s fd ⟨[u], []⟩ [(x, u)]) ∧
        (∀ (H : Hp) (a : Addr) (ns : List Int), ns.length ≤ n → (∀ z ∈ ns, Builtin.Int.intBits z ≤ 1048576) → Only H → SqL K H a (ns.map V.int) → sp [.ref a] H (fun v _ => v = .bl true) E0) ∧
        ∀ base : Heap, K.In base → base.Ns mainGlobals mg → FnG l.prog w K mg base CX0 k fa fd [x] sp) :
    PySem.W.WalkO q loose XP YP l.row.toRowW d [] (fun f vs => PySem.call f vs) := by
  refine Att.attach_callB hn hdf fun w sA sB mg mb fa o pm cd doc a vs ns G Y ho hd hcd hmg hobj hints hlen hbits hgen => ?_
  obtain ⟨K, fd, sp, kin, hb, hsp, hF⟩ := F w mg fa _ Y G.T.g hmg
  exact callLawG kin G.T.g G.T.b G.T.builtins G.T.nolimit hgen hobj hints (Nat.le_trans hlen hn2) hr hF hb fun H hO hS => hsp H a ns hlen hbits hO hS
end K1
namespace K1
open PySem PySem.Spec PyProof.Rows L2
/-! ### list.count of a bool -/
def rCntB (K : PySem.W.Frag) : V → List V → Hp → VK → Prop := fun x xs H Q => ∃ (p : Addr) (bs : List Bool) (k : Bool), x = .ref p ∧ xs = [.bl k] ∧ SqL K H p (bs.map V.bl) ∧ Q (.int ((bs.countP fun b => b == k) : Nat)) H
theorem bools_of : ∀ {bs : List Bool} {us : List Value}, Vals (bs.map V.bl) us → us = bs.map Value.bool
  | [], _, .nil => rfl
  | b :: bs, _, .cons r t => by
    have e : _ = Value.bool b := r
    rw [e, bools_of t]
    rfl
def eqB (k : Bool) : Value → Bool
  | .bool b => b == k
  | _ => false
theorem mt_countB {X : Cx} : MtR X "list.count" (rCntB X.K) := by
  intro pins s σ H x xs v us Q I rx rxs h
  obtain ⟨p, bs, k, rfl, rfl, hs, q⟩ := h
  cases rx
  obtain ⟨u, rfl, ru⟩ := rxs.one
  obtain rfl : u = Value.bool k := ru
  obtain ⟨its, rv, ⟨⟨cls, dd, data, sl⟩, n, ho, hc, hdn, hd⟩, hlen⟩ := I.list hs
  simp only at hc hd
  subst hc hd
  have ei := bools_of rv
  subst ei
  refine call_meets PySem.F.slot_list_count ⟨_, ho, rfl⟩ PySem.F.entry_list_count (PySem.F.args_list_count_2 _ _)
    (SeqAt.list_countAt p (bs.map Value.bool).toArray n dd sl (.bool k) (eqB k)) ⟨ho, fun y hy => ?_, ?_⟩
  · obtain ⟨b, _, rfl⟩ := List.mem_map.mp (show y ∈ bs.map Value.bool by simpa using hy)
    exact SeqAt.EqAt.bool_bool b k
  · have ec : (bs.map Value.bool).countP (eqB k) = bs.countP fun b => b == k := by
      rw [List.countP_map]
      rfl
    refine ⟨.int ((bs.countP fun b => b == k) : Nat), H, I.tok _, ⟨s.toks, ?_⟩, q⟩
    show Value.int (((bs.map Value.bool).toArray.toList.countP (eqB k) : Nat) : Int) s.toks = _
    rw [show (bs.map Value.bool).toArray.toList = bs.map Value.bool by simp, ec]
/-! ### classes of errors as the top leaves them -/
structure ErrC (K : PySem.W.Frag) (bm : List Value) (C : Addr) : Prop where
  cl : ∃ nm q N bs sn sub ab col dd k0 k1 k2 k3 k5, K.lookup C = some (excClassObj nm q C N bs bm true sn sub ab col dd k0 k1 k2 k3 k5 "ValueError.__new__")
  ve : PySem.HandSPX.refsVE bm = true
  ec : ExcC K C
  sa : PySem.W.findIn K (.ref C) "__setattr__" = some (some (.builtin "object.__setattr__"))
  ty : PySem.W.typeIn K (.ref C) = some (.type "type")
  kp : PySem.W.keepIn K (.ref C) = true
section
variable {K : PySem.W.Frag} {bm bm2 : List Value} {C D : Addr}
theorem ErrC.oex (E : ErrC K bm C) : OexC K C := by
  obtain ⟨nm, q, N, bs, sn, sub, ab, col, dd, k0, k1, k2, k3, k5, h⟩ := E.cl
  exact ⟨⟨nm, q, N, bs, bm, sn, sub, ab, col, dd, k0, k1, k2, k3, k5, h, E.ve⟩, E.sa, E.ec.hs, E.ty, E.kp⟩
theorem ErrC.cls (E : ErrC K bm C) : ∃ cd, PySem.W.clsIn K C = some cd ∧ cd.mro = .ref C :: bm := by
  obtain ⟨nm, q, N, bs, sn, sub, ab, col, dd, k0, k1, k2, k3, k5, h⟩ := E.cl
  refine ⟨_, by unfold PySem.W.clsIn; rw [h] <;> rfl, rfl⟩
theorem ErrC.sub (E : ErrC K bm C) (v : Value) : PySem.W.subIn K (.ref C) v = some ((Value.ref C :: bm).contains v) := by
  obtain ⟨cd, e, m⟩ := E.cls
  show PySem.W.mroIn K C v = _
  unfold PySem.W.mroIn
  rw [e, Option.bind_some, m]
  rfl
theorem ErrC.kit (E : ErrC K bm C) (F : ErrC K bm2 D) : PySem.W.kitOne K (.ref C) (.ref D) = some ((Value.ref C :: bm).contains (.ref D)) := by
  unfold PySem.W.kitOne
  by_cases q : ((Value.ref C) == (Value.ref D)) = true
  · rw [if_pos q]
    have e := eq_of_beq q
    rw [List.contains_cons, e, beq_self_eq_true]
    rfl
  · rw [if_neg q]
    show (if ((PySem.W.clsIn K D).isSome && PySem.W.typeIn K (.ref D) == some (.type "type")) = true then PySem.W.subIn K (.ref C) (.ref D) else none) = _
    obtain ⟨cd, e, _⟩ := F.cls
    rw [if_pos (by rw [e, F.ty]; rfl), E.sub]
theorem ErrC.kitT (E : ErrC K bm C) {T : String} (hm : PySem.W.kitMeta T = true) : PySem.W.kitOne K (.ref C) (.type T) = some (bm.contains (.type T)) := by
  unfold PySem.W.kitOne
  rw [if_neg (by
    intro z
    have := eq_of_beq z
    cases this)]
  show (if PySem.W.kitMeta T = true then PySem.W.subIn K (.ref C) (.type T) else none) = _
  rw [if_pos hm, E.sub, List.contains_cons]
  have e : (Value.type T == Value.ref C) = false := rfl
  rw [e, Bool.false_or]
theorem ErrC.exm (E : ErrC K bm C) (F : ErrC K bm2 D) : PySem.W.exmOne K (.ref C) (.ref D) = some ((Value.ref C :: bm).contains (.ref D)) := by
  unfold PySem.W.exmOne
  rw [if_pos (by rw [F.ec.hs]; rfl)]
  show (if ((PySem.W.clsIn K D).isSome && PySem.W.typeIn K (.ref D) == some (.type "type")) = true then PySem.W.subIn K (.ref C) (.ref D) else none) = _
  obtain ⟨cd, e, _⟩ := F.cls
  rw [if_pos (by rw [e, F.ty]; rfl), E.sub]
end
theorem errB_ok {K : PySem.W.Frag} {bm : List Value} {C : Addr} (hv : PySem.HandSPX.refsVE bm = true) (hn : PySem.W.specialIn K (.builtin "object.__class__") "__get__" = some (some (.builtin "getset_descriptor.__get__"))) (ht : PySem.W.takesIn K (.builtin "object.__class__") = some true)
    (h : errB K bm C = true) : ErrC K bm C := by
  unfold errB at h
  obtain ⟨h0, h⟩ := He.ba h
  obtain ⟨h1, h⟩ := He.ba h
  obtain ⟨h2, h⟩ := He.ba h
  obtain ⟨h3, h⟩ := He.ba h
  obtain ⟨h4, h5⟩ := He.ba h
  have hcl : ∃ nm q N bs sn sub ab col dd k0 k1 k2 k3 k5, K.lookup C = some (excClassObj nm q C N bs bm true sn sub ab col dd k0 k1 k2 k3 k5 "ValueError.__new__") := by
    split at h0
    · rename_i t dd cd sl ho
      obtain ⟨g0, h0⟩ := He.ba h0
      obtain ⟨g1, h0⟩ := He.ba h0
      obtain ⟨g2, h0⟩ := He.ba h0
      obtain ⟨g3, h0⟩ := He.ba h0
      split at h0
      · rename_i k0 k1 k2 k3 n k5 hs
        have e0 := of_decide_eq_true g0
        have e1 := of_decide_eq_true g1
        have e2 := of_decide_eq_true h0
        obtain ⟨nm, bs, mro, ns, qn, hd, sn, sub, ab, col, del⟩ := cd
        dsimp only at e1 g2 g3
        subst e0 e1 e2 g2
        have e3 : del = false := by
          cases del with
          | false => rfl
          | true => cases g3
        subst e3
        have hsl : sl = #[k0, k1, k2, k3, some (.builtin "ValueError.__new__"), k5] := by
          obtain ⟨l⟩ := sl
          simp only at hs
          rw [hs]
        subst hsl
        exact ⟨nm, qn, ns, bs, sn, sub, ab, col, dd, k0, k1, k2, k3, k5, ho⟩
      · cases h0
    · cases h0
  obtain ⟨nm, q, N, bs, sn, sub, ab, col, dd, k0, k1, k2, k3, k5, hl⟩ := hcl
  have hty : PySem.W.typeIn K (.ref C) = some (.type "type") := by
    show (K.lookup C).map (·.cls) = _
    rw [hl] <;> rfl
  have hcd : PySem.W.clsIn K C = some { name := nm, bases := bs, mro := .ref C :: bm, ns := N, qualname := q, hasDict := true, slotNames := sn, subclasses := sub, abstract := ab, collection := col, hasDel := false } := by
    unfold PySem.W.clsIn
    rw [hl] <;> rfl
  have hsub : ∀ v, PySem.W.subIn K (.ref C) v = some ((Value.ref C :: bm).contains v) := fun v => by
    show PySem.W.mroIn K C v = _
    unfold PySem.W.mroIn
    rw [hcd, Option.bind_some]
    rfl
  have hb : (Value.ref C :: bm).contains (.type "BaseException") = true := by
    rw [List.contains_cons, PySem.HandSPX.refsVE_contains "BaseException" bm hv, show PySem.HandSPX.veTail.contains (.type "BaseException") = true by decide +kernel, Bool.or_true]
  have ho : (Value.ref C :: bm).contains (.type "object") = true := by
    rw [List.contains_cons, PySem.HandSPX.refsVE_contains "object" bm hv, show PySem.HandSPX.veTail.contains (.type "object") = true by decide +kernel, Bool.or_true]
  refine ⟨⟨nm, q, N, bs, sn, sub, ab, col, dd, k0, k1, k2, k3, k5, hl⟩, hv, ⟨He.eqO_ok h1, He.eqO_ok h2, by rw [hsub, hb], ?_, He.eqO_ok h3, hn, ht, ?_⟩, He.eqO_ok h4, hty, h5⟩
  · unfold PySem.W.hasDictIn
    rw [hcd]
    rfl
  · have z := hsub (.type "object")
    rw [ho] at z
    exact z
end K1
namespace K1
open PySem PySem.Spec PyProof.Rows L2
abbrev FnP (K : PySem.W.Frag) (x : Str) (st : Stmt) (f : Addr) (fd : FuncData) : Prop := FunD K x x (defArgs st) (defBody st) (defScope st) [] [] f fd
/-! ### the source of draws: a list of three numbers -/
def SrcAt (H : Hp) (p : Addr) : Prop := ∃ o m c : Int, 0 ≤ o ∧ 0 ≤ m ∧ m < 1000000007 ∧ 0 ≤ c ∧ H p = some (.lst [.int o, .int m, .int c])
/-- all but p is as it was -/
def But (p : Addr) (H H' : Hp) : Prop := ∀ b o, b ≠ p → H b = some o → H' b = some o
theorem But.refl {p : Addr} {H : Hp} : But p H H := fun _ _ _ h => h
theorem But.trans {p : Addr} {H H1 H2 : Hp} (a : But p H H1) (b : But p H1 H2) : But p H H2 := fun c o n h => b c o n (a c o n h)
theorem But.seqT {K : PySem.W.Frag} {p a : Addr} {H H' : Hp} {xs : List V} (b : But p H H') (n : a ≠ p) (h : SqT K H a xs) : SqT K H' a xs := by
  rcases h with (h | ⟨o, h⟩) | h
  · exact .inl (.inl (b _ _ n h))
  · exact .inl (.inr ⟨o, b _ _ n h⟩)
  · exact .inr h
/-- _law_source(script, turn) -/
def spSource (K : PySem.W.Frag) : Sp := fun vs H Q _ => ∃ (a : Addr) (ns : List Int) (t : Int), vs = [.ref a, .int t] ∧ SqL K H a (ns.map V.int) ∧ ns.length ≤ 63 ∧ 0 ≤ t ∧ t ≤ 2 ∧
  ∀ p H', Same H H' → H p = none → SrcAt H' p → Q (.ref p) H'
def spRounds (K : PySem.W.Frag) : Sp := fun vs H Q _ => ∃ (a : Addr) (ns : List Int), vs = [.ref a] ∧ SqL K H a (ns.map V.int) ∧ ns.length ≤ 63 ∧ ∀ t : Int, 2 ≤ t → t ≤ 3 → Q (.int t) H
def spDraw : Sp := fun vs H Q _ => ∃ (p : Addr) (m : Int), vs = [.ref p, .int m] ∧ SrcAt H p ∧ 0 < m ∧ m ≤ 1000000 ∧ ∀ d H', 0 ≤ d → d < m → But p H H' → SrcAt H' p → Q (.int d) H'
def spPick (K : PySem.W.Frag) : Sp := fun vs H Q _ => ∃ (p q : Addr) (xs : List V), vs = [.ref p, .ref q] ∧ q ≠ p ∧ SrcAt H p ∧ SqT K H q xs ∧ 0 < xs.length ∧ xs.length ≤ 1000 ∧
  ∀ x H', x ∈ xs → But p H H' → SrcAt H' p → Q x H'
/-- built-ins and defs by name -/
structure Nm (mg : Str → Option Value) : Prop where
  int : mg "int" = none
  abs : mg "abs" = none
  len : mg "len" = none
  max : mg "max" = none
  min : mg "min" = none
  divmod : mg "divmod" = none
  tuple : mg "tuple" = none
  list : mg "list" = none
  repr : mg "repr" = none
  range : mg "range" = none
  isi : mg "isinstance" = none
section
variable {P : Program} {w : World} {K : PySem.W.Frag} {mg : Str → Option Value} {base : Heap} {f fD : Addr} {fd fdD : FuncData}
theorem cdiv_small {i j : Int} (h0 : 0 < j) (h1 : j ≤ 1000000) : CDivP i j := by
  refine ⟨h0, ?_⟩
  have hb : j.natAbs.log2 < 30 := by
    have : j.natAbs < 2 ^ 30 := by omega
    exact (Nat.log2_lt (by omega)).mpr this
  show (decide ((if j == 0 then 0 else j.natAbs.log2 / 30 + 1) > 300) && _) = false
  rw [if_neg (show ¬ (j == 0) = true by simpa using (show j ≠ 0 by omega))]
  rw [decide_eq_false (show ¬ j.natAbs.log2 / 30 + 1 > 300 by omega)]
  rfl
theorem scDraw : FnScope ["_law_source_here", "_law_many", "_law_digit", "_law_step"] ["_law_source_here", "_law_many"] (defScope (top 65)) := ⟨rfl, rfl, rfl, by decide +kernel, rfl, by decide +kernel, by decide +kernel⟩
theorem okDraw (F : FnP K "_law_draw" (top 65) f fd) (N : Nm mg) : FnOk P w K mg base CX0 1 f fd ["_law_source_here", "_law_many"] spDraw := by
  refine F.ok scDraw (fun vs H Q E h => ?_) (fun cdv A outer s H vs Q E hr h => ?_)
  · obtain ⟨p, m, rfl, _⟩ := h
    rfl
  · obtain ⟨p, m, rfl, ⟨o, x, c, ho, hx0, hx1, hc, hp⟩, hm0, hm1, k⟩ := h
    refine ⟨_, PSs.nox (pss_cons (ps_if (pt_cmpR op_gt (pe_ix ix_list (pv 0) pe_int (fun _ _ => rfl)) pe_int (nomark _))
        (pss_cons (ps_asg (pe_callB call_divmodW (by rfl) N.divmod (by decide +kernel) (pa_cons (pe_ix ix_list (pv 0) pe_int (fun _ _ => rfl)) (pa_cons (pv 1) pa_nil)))
            (pg_tup (by rfl) (pgs_cons (pg_sub (pv 0) pe_int set_list) (pgs_cons (pg_name (i := 2) scDraw.nd rfl (.inl rfl)) pgs_nil))))
          (pss_one (ps_ret (pv 2)))) pss_nil)
      (pss_cons (ps_asg (pe_op op_add (pe_ix ix_list (pv 0) pe_int (fun _ _ => rfl)) pe_int) (pg_sub (pv 0) pe_int set_list))
      (pss_cons (ps_set (i := 3) scDraw.nd rfl (.inl rfl) (pe_op op_mod (pe_callTy call_int1 (by rfl) N.int (by decide +kernel) (pa_cons (pe_op op_add (pe_ix ix_list (pv 0) pe_int (fun _ _ => rfl)) (pe_op op_mul pe_int (pe_ix ix_list (pv 0) pe_int (fun _ _ => rfl)))) pa_nil)) pe_int))
      (pss_cons (ps_asg (pe_op op_mod (pe_callTy call_int1 (by rfl) N.int (by decide +kernel) (pa_cons (pe_op op_add (pe_op op_mul (pv 3) (pe_op op_add (pe_op op_mod (pe_callTy call_int1 (by rfl) N.int (by decide +kernel) (pa_cons (pv 3) pa_nil)) pe_int) pe_int)) pe_int) pa_nil)) pe_int) (pg_sub (pv 0) pe_int set_list))
      (pss_one (ps_ret (pe_op op_mod (pe_callTy call_int1 (by rfl) N.int (by decide +kernel) (pa_cons (pe_op op_fdiv (pe_ix ix_list (pv 0) pe_int (fun _ _ => rfl)) pe_int) pa_nil)) (pv 1)))))))), ?_⟩
    have hl0 : ∀ (y z u : Int), atI [V.int y, V.int z, V.int u] 0 = some (.int y) := fun _ _ _ => rfl
    refine ⟨_, rfl, p, _, 0, .int o, rfl, rfl, SqL.of hp, rfl, o, 0, rfl, rfl, _, rfl, ?_⟩
    refine ite2 (fun hpos => ?_) (fun hz => ?_)
    · refine ⟨_, rfl, p, _, 0, .int o, rfl, rfl, SqL.of hp, rfl, _, rfl, o, m, rfl, cdiv_small hm0 hm1, fun q hq => ?_⟩
      have qp : q ≠ p := fun z => by rw [z, hp] at hq; cases hq
      refine ⟨q, _, rfl, SqT.of upd_same, rfl, _, _, rfl, _, rfl, p, _, 0, 0, rfl, rfl, Eq.trans (upd_ne qp.symm) hp, rfl, _, _, rfl, rfl, _, rfl, ?_⟩
      refine k (o % m) _ (Int.emod_nonneg _ (by omega)) (Int.emod_lt_of_pos _ hm0) (fun b u n z => ?_) ⟨o / m, x, c, Int.ediv_nonneg ho (by omega), hx0, hx1, hc, upd_same⟩
      rw [upd_ne n, upd_ne (ne_of_none z hq)]
      exact z
    · have hM : (0 : Int) < 1000000007 := by decide
      refine ⟨_, rfl, p, _, 2, .int c, rfl, rfl, SqL.of hp, rfl, c, 1, rfl, rfl, _, rfl, p, _, 2, 2, rfl, rfl, hp, rfl, ?_⟩
      refine ⟨_, rfl, p, _, 1, .int x, rfl, rfl, SqL.of upd_same, rfl, _, rfl, p, _, 2, .int (c + 1), rfl, rfl, SqL.of upd_same, rfl, 7919, c + 1, rfl, rfl, .inl ⟨by decide, by decide⟩, x, _, rfl, rfl, .inl ⟨_, rfl, _, _, rfl, rfl, hM, ?_⟩⟩
      have s0 := Int.emod_nonneg (x + 7919 * (c + 1)) (show (1000000007 : Int) ≠ 0 by decide)
      have s1 := Int.emod_lt_of_pos (x + 7919 * (c + 1)) hM
      refine ⟨_, rfl, _, rfl, .inl ⟨_, rfl, _, _, rfl, rfl, (by decide : (0 : Int) < 9973), _, _, rfl, rfl, (x + 7919 * (c + 1)) % 1000000007, _, rfl, rfl, .inl ⟨by omega, by omega⟩, _, _, rfl, rfl, .inl ⟨_, rfl, _, _, rfl, rfl, hM, ?_⟩⟩⟩
      refine ⟨_, rfl, p, _, 1, 1, rfl, rfl, upd_same, rfl, ?_⟩
      refine ⟨_, rfl, p, _, 1, _, rfl, rfl, SqL.of upd_same, rfl, _, _, rfl, rfl, ⟨by decide, by decide⟩, .inl ⟨_, rfl, _, rfl, _, _, rfl, rfl, hm0, ?_⟩⟩
      refine k _ _ (Int.emod_nonneg _ (by omega)) (Int.emod_lt_of_pos _ hm0) (fun b u n e => ?_) ⟨o, _, c + 1, ho, Int.emod_nonneg _ (show (1000000007 : Int) ≠ 0 by decide), Int.emod_lt_of_pos _ hM, by omega, upd_same⟩
      rw [upd_ne n, upd_ne n]
      exact e
theorem scPick : FnScope ["_law_source_here", "_law_some"] ["_law_source_here", "_law_some"] (defScope (top 66)) := ⟨rfl, rfl, rfl, by decide +kernel, rfl, by decide +kernel, by decide +kernel⟩
theorem bindsDraw (F : FnP K "_law_draw" (top 65) f fd) : Binds K fd ["_law_source_here", "_law_many"] [] := F.bindsN fun _ _ _ _ _ _ us hl => match us, hl with | [_, _], _ => rfl
theorem bindsPick (F : FnP K "_law_pick" (top 66) f fd) : Binds K fd ["_law_source_here", "_law_some"] [] := F.bindsN fun _ _ _ _ _ _ us hl => match us, hl with | [_, _], _ => rfl
theorem okPick (F : FnP K "_law_pick" (top 66) f fd) (FD : FnP K "_law_draw" (top 65) fD fdD) (gD : mg "_law_draw" = some (.ref fD)) (N : Nm mg) : FnOk P w K mg base CX0 2 f fd ["_law_source_here", "_law_some"] (spPick K) := by
  have GD : FnOk P w K mg base CX0 1 fD fdD ["_law_source_here", "_law_many"] spDraw := okDraw FD N
  refine F.ok scPick (fun vs H Q E h => ?_) (fun cdv A outer s H vs Q E hr h => ?_)
  · obtain ⟨p, q, xs, rfl, _⟩ := h
    rfl
  · obtain ⟨p, q, xs, rfl, qp, hs, hq, l0, l1, k⟩ := h
    refine ⟨_, PSs.nox (pss_one (ps_ret (pe_ix ix_tup (pv 1) (pe_call GD hr rfl gD FD.kp (bindsDraw FD) .nil pass0 (pa_cons (pv 0) (pa_cons (pe_callB call_len_seq (by rfl) N.len PySem.boot_len (pa_cons (pv 1) pa_nil)) pa_nil))) (fun _ _ => rfl)))), ?_⟩
    refine ⟨_, rfl, _, rfl, _, rfl, q, xs, rfl, .inr hq, p, _, rfl, hs, by omega, by omega, fun d H' h0 h1 hb hs' => ?_⟩
    obtain ⟨n, rfl⟩ := Int.eq_ofNat_of_zero_le h0
    have hn : n < xs.length := by omega
    refine ⟨q, xs, n, xs[n], rfl, rfl, hb.seqT qp hq, atI_nat (List.getElem?_eq_getElem hn), ?_⟩
    exact k _ _ (List.getElem_mem hn) hb hs'
theorem scRounds : FnScope ["_law_script"] ["_law_script"] (defScope (top 64)) := ⟨rfl, rfl, rfl, by decide +kernel, rfl, by decide +kernel, by decide +kernel⟩
theorem okRounds (F : FnP K "_law_rounds" (top 64) f fd) (N : Nm mg) : FnOk P w K mg base CX0 1 f fd ["_law_script"] (spRounds K) := by
  refine F.ok scRounds (fun vs H Q E h => ?_) (fun cdv A outer s H vs Q E hr h => ?_)
  · obtain ⟨a, ns, rfl, _⟩ := h
    rfl
  · obtain ⟨a, ns, rfl, hS, hl, k⟩ := h
    refine ⟨_, PSs.nox (pss_one (ps_ret (pe_callB (call_max2 rfl) (by rfl) N.max (by decide +kernel) (pa_cons pe_int (pa_cons (pe_callB (call_min2 rfl) (by rfl) N.min (by decide +kernel) (pa_cons (pe_callB call_len_seq (by rfl) N.len PySem.boot_len (pa_cons (pv 0) pa_nil)) (pa_cons pe_int pa_nil))) pa_nil))))), ?_⟩
    refine ⟨_, rfl, a, _, rfl, .inl hS, _, _, rfl, _, _, rfl, k _ ?_ ?_⟩
    · split <;> split <;> omega
    · split <;> split <;> omega
end
end K1
namespace K1
open PySem PySem.Spec PyProof.Rows L2
theorem cut_mem {xs : List V} {lo hi : Option Int} {i : Nat} {x : V} (h : (cutV xs lo hi)[i]? = some x) : x ∈ xs := by
  unfold cutV at h
  exact List.mem_of_mem_drop (List.mem_of_mem_take (List.mem_of_getElem? h))
section
variable {P : Program} {w : World} {K : PySem.W.Frag} {mg : Str → Option Value} {base : Heap} {f fD : Addr} {fd fdD : FuncData}
theorem scSource : FnScope ["_law_script", "_law_turn", "_law_mixed", "_law_cell", "_law_own"] ["_law_script", "_law_turn"] (defScope (top 63)) := ⟨rfl, rfl, rfl, by decide +kernel, rfl, by decide +kernel, by decide +kernel⟩
theorem okSource (F : FnP K "_law_source" (top 63) f fd) (N : Nm mg) : FnOk P w K mg base CX0 1 f fd ["_law_script", "_law_turn"] (spSource K) := by
  refine F.ok scSource (fun vs H Q E h => ?_) (fun cdv A outer s H vs Q E hr h => ?_)
  · obtain ⟨a, ns, t, rfl, _⟩ := h
    rfl
  · obtain ⟨a, ns, t, rfl, hS, hl, t0, t1, k⟩ := h
    refine ⟨_, PSs.nox (pss_cons (ps_set (i := 2) scSource.nd rfl (.inl rfl) (pe_op op_add pe_int (pe_op op_mul pe_int (pv 1))))
      (pss_cons (ps_for PassesOwn.never rfl (pi_list (pe_slice sl_list (pv 0) po_none (po_some pe_int))) (pg_name (i := 3) scSource.nd rfl (Or.inl rfl))
        (pss_one (ps_set (i := 2) scSource.nd rfl (.inl rfl) (pe_op op_mod (pe_callTy call_int1 (by rfl) N.int (by decide +kernel) (pa_cons (pe_op op_add (pe_op op_add (pe_op op_mul (pv 2) pe_int) (pe_op op_mod (pe_callTy call_int1 (by rfl) N.int (by decide +kernel) (pa_cons (pv 3) pa_nil)) pe_int)) pe_int) pa_nil)) pe_int))))
      (pss_cons (ps_set (i := 4) scSource.nd rfl (.inl rfl) (pe_ifExp (pt_cmpR op_lt (pv 1) (pe_callB call_len_seq (by rfl) N.len PySem.boot_len (pa_cons (pv 0) pa_nil)) (nomark _))
          (pe_callB call_abs (by rfl) N.abs (by decide +kernel) (pa_cons (pe_callTy call_int1 (by rfl) N.int (by decide +kernel) (pa_cons (pe_ix ix_list (pv 0) (pv 1) (fun _ _ => rfl)) pa_nil)) pa_nil)) pe_int))
      (pss_one (ps_ret (pe_lst (pa_cons (pe_ifExp (pt_cmpR op_ge (pv 4) (pe_op op_pow pe_int pe_int) (nomark _)) (pv 4) pe_int)
        (pa_cons (pe_op op_mod (pe_callTy call_int1 (by rfl) N.int (by decide +kernel) (pa_cons (pe_op op_add (pv 2) (pe_op op_mul (pe_op op_mod (pe_callTy call_int1 (by rfl) N.int (by decide +kernel) (pa_cons (pv 4) pa_nil)) pe_int) pe_int)) pa_nil)) pe_int)
          (pa_cons pe_int pa_nil))))))))), ?_⟩
    have hM : (0 : Int) < 1000000007 := by decide
    have hm : (0 : Int) < 998244353 := by decide
    refine ⟨_, rfl, 977, t, rfl, rfl, .inl ⟨by decide, by decide⟩, _, _, rfl, rfl, ?_⟩
    refine ⟨_, rfl, 63, rfl, a, _, rfl, hS, fun p hp => ?_⟩
    have s0 : Same H (upd H p (.lst (cutV (ns.map V.int) none (some 63)))) := fun b o e => by
      rw [upd_ne (ne_of_none e hp)]
      exact e
    refine ⟨p, rfl, ⟨_, SqL.of upd_same⟩, for_list (K := K) (a := p) (xs := cutV (ns.map V.int) none (some 63)) (fun i σ H' => ∃ (x : Int) (v : Option V), 0 ≤ x ∧ x < 1000000007 ∧ σ = [some (.ref a), some (.int t), some (.int x), v, none] ∧ H' = upd H p (.lst (cutV (ns.map V.int) none (some 63))))
      ⟨40009 + 977 * t, none, by omega, by omega, rfl, rfl⟩ (fun i σ H' _ ⟨_, _, _, _, _, e⟩ => by rw [e]; exact SqL.of upd_same) ?_ ?_⟩
    · rintro i y σ H' hi ⟨x, v, x0, x1, rfl, rfl⟩
      obtain ⟨z, _, rfl⟩ := List.mem_map.mp (cut_mem hi)
      refine ⟨_, rfl, x, _, rfl, rfl, .inl ⟨by omega, by omega⟩, _, rfl, .inl ⟨z, rfl, z, _, rfl, rfl, hm, _, _, rfl, rfl, _, _, rfl, rfl, .inl ⟨_, rfl, _, _, rfl, rfl, hM, ?_⟩⟩⟩
      exact ⟨_, _, Int.emod_nonneg _ (by decide), Int.emod_lt_of_pos _ hM, rfl, rfl⟩
    · rintro σ H' ⟨x, v, x0, x1, rfl, rfl⟩
      have hS' : SqL K (upd H p (.lst (cutV (ns.map V.int) none (some 63)))) a (ns.map V.int) := s0.seq hS
      have fin : ∀ o : Int, 0 ≤ o → ∀ q H', H' q = none → Same H H' → H' = upd H p (.lst (cutV (ns.map V.int) none (some 63))) → ∀ y : Int, 0 ≤ y → y < 1000000007 → Q (.ref q) (upd H' q (.lst [.int o, .int y, .int 0])) := by
        intro o ho q H' hq sm _ y y0 y1
        refine k q _ (fun b u e => ?_) (sm.free hq) ⟨o, y, 0, ho, y0, y1, Int.le_refl _, upd_same⟩
        rw [upd_ne (ne_of_none (sm b u e) hq)]
        exact sm b u e
      refine ⟨_, rfl, _, rfl, a, _, rfl, .inl hS', t, _, rfl, rfl, _, rfl, ite2 (fun hlt => ?_) (fun _ => ?_)⟩
      · obtain ⟨n, rfl⟩ := Int.eq_ofNat_of_zero_le t0
        have hn : n < (ns.map V.int).length := by
          have z := of_decide_eq_true hlt
          omega
        have hn2 : n < ns.length := by rw [List.length_map] at hn; exact hn
        have hat : (ns.map V.int)[n]? = some (V.int ns[n]) := by
          rw [List.getElem?_map, List.getElem?_eq_getElem hn2]
          rfl
        refine ⟨_, rfl, _, rfl, a, _, n, _, rfl, rfl, hS', atI_nat hat, .inl ⟨_, rfl, _, rfl, ?_⟩⟩
        have ho : 0 ≤ (if ns[n] < 0 then -ns[n] else ns[n]) := by split <;> omega
        generalize (if ns[n] < 0 then -ns[n] else ns[n]) = o at ho
        refine ⟨_, rfl, 10, 18, rfl, rfl, ⟨by decide, by decide, by decide⟩, o, _, rfl, rfl, _, rfl, ite2 (fun _ => ⟨_, rfl, ?_⟩) (fun _ => ?_)⟩
        · refine ⟨_, rfl, _, rfl, .inl ⟨o, rfl, o, _, rfl, rfl, hm, _, 3, rfl, rfl, .inl ⟨by omega, by omega⟩, x, _, rfl, rfl, .inl ⟨_, rfl, _, _, rfl, rfl, hM, (by show 3 ≤ sizeLine; decide), fun q hq => ?_⟩⟩⟩
          exact fin o ho q _ hq s0 rfl _ (Int.emod_nonneg _ (by decide)) (Int.emod_lt_of_pos _ hM)
        · refine ⟨_, rfl, _, rfl, .inl ⟨o, rfl, o, _, rfl, rfl, hm, _, 3, rfl, rfl, .inl ⟨by omega, by omega⟩, x, _, rfl, rfl, .inl ⟨_, rfl, _, _, rfl, rfl, hM, (by show 3 ≤ sizeLine; decide), fun q hq => ?_⟩⟩⟩
          exact fin 0 (Int.le_refl _) q _ hq s0 rfl _ (Int.emod_nonneg _ (by decide)) (Int.emod_lt_of_pos _ hM)
      · refine ⟨_, rfl, 10, 18, rfl, rfl, ⟨by decide, by decide, by decide⟩, 0, _, rfl, rfl, _, rfl, ite2 (fun _ => ⟨_, rfl, ?_⟩) (fun _ => ?_)⟩
        · refine ⟨_, rfl, _, rfl, .inl ⟨0, rfl, 0, _, rfl, rfl, hm, _, 3, rfl, rfl, .inl ⟨by omega, by omega⟩, x, _, rfl, rfl, .inl ⟨_, rfl, _, _, rfl, rfl, hM, (by show 3 ≤ sizeLine; decide), fun q hq => ?_⟩⟩⟩
          exact fin 0 (Int.le_refl _) q _ hq s0 rfl _ (Int.emod_nonneg _ (by decide)) (Int.emod_lt_of_pos _ hM)
        · refine ⟨_, rfl, _, rfl, .inl ⟨0, rfl, 0, _, rfl, rfl, hm, _, 3, rfl, rfl, .inl ⟨by omega, by omega⟩, x, _, rfl, rfl, .inl ⟨_, rfl, _, _, rfl, rfl, hM, (by show 3 ≤ sizeLine; decide), fun q hq => ?_⟩⟩⟩
          exact fin 0 (Int.le_refl _) q _ hq s0 rfl _ (Int.emod_nonneg _ (by decide)) (Int.emod_lt_of_pos _ hM)
end
end K1
namespace K1
open PySem PySem.Spec PyProof.Rows L2
/-- three small numbers -/
def Small (x : Int) : Prop := -1000 ≤ x ∧ x ≤ 1000
def spLeast (K : PySem.W.Frag) : Sp := fun vs H Q _ => ∃ (q : Addr) (x y z : Int), vs = [.ref q] ∧ SqT K H q [.int x, .int y, .int z] ∧ Small x ∧ Small y ∧ Small z ∧
  ∀ r x' y' z' H', Same H H' → H r = none → H' r = some (.tup [.int x', .int y', .int z']) → Small x' → Small y' → Small z' → Q (.ref r) H'
theorem small_div {x g : Int} (h : Small x) (hg : 1 ≤ g) : Small (x.fdiv g) := by
  rw [Int.fdiv_eq_ediv_of_nonneg x (by omega)]
  have e := Int.mul_ediv_add_emod x g
  have l := Int.emod_lt_of_pos x (show 0 < g by omega)
  have n := Int.emod_nonneg x (show g ≠ 0 by omega)
  obtain ⟨h1, h2⟩ := h
  refine ⟨(Int.le_ediv_iff_mul_le (by omega)).mpr (by omega), ?_⟩
  have q1 : x / g ≤ 1000 / g := Int.ediv_le_ediv (by omega) h2
  have q2 : (1000 : Int) / g ≤ 1000 := Int.ediv_le_self _ (by decide)
  omega
def natOf : Option (Option V) → Nat
  | some (some (.int b)) => b.toNat
  | _ => 0
theorem Same.seqT {K : PySem.W.Frag} {a : Addr} {H H' : Hp} {xs : List V} (b : Same H H') (h : SqT K H a xs) : SqT K H' a xs := by
  rcases h with (h | ⟨o, h⟩) | h
  · exact .inl (.inl (b _ _ h))
  · exact .inl (.inr ⟨o, b _ _ h⟩)
  · exact .inr h
theorem small_three {acc : List V} (hl : acc.length = 3) (h : ∀ v ∈ acc, ∃ n, v = V.int n ∧ Small n) : ∃ x y z, acc = [.int x, .int y, .int z] ∧ Small x ∧ Small y ∧ Small z := by
  match acc, hl with
  | [a, b, c], _ =>
    obtain ⟨x, rfl, hx⟩ := h a (by simp)
    obtain ⟨y, rfl, hy⟩ := h b (by simp)
    obtain ⟨z, rfl, hz⟩ := h c (by simp)
    exact ⟨x, y, z, rfl, hx, hy, hz⟩
section
variable {P : Program} {w : World} {K : PySem.W.Frag} {mg : Str → Option Value} {base : Heap} {f fD : Addr} {fd fdD : FuncData}
theorem scLeast : FnScope ["_law_numbers", "_law_part", "_law_number", "_law_one", "_law_two"] ["_law_numbers"] (defScope (top 67)) := ⟨rfl, rfl, rfl, by decide +kernel, rfl, by decide +kernel, by decide +kernel⟩
theorem okLeast (F : FnP K "_law_least" (top 67) f fd) (N : Nm mg) : FnOk P w K mg base CX0 1 f fd ["_law_numbers"] (spLeast K) := by
  refine F.ok scLeast (fun vs H Q E h => ?_) (fun cdv A outer s H vs Q E hr h => ?_)
  · obtain ⟨q, x, y, z, rfl, _⟩ := h
    rfl
  · obtain ⟨q, x, y, z, rfl, hq, sx, sy, sz, k⟩ := h
    refine ⟨_, PSs.nox (pss_cons (ps_set (i := 1) scLeast.nd rfl (.inr rfl) pe_int)
      (pss_cons (ps_for PassesOwn.never rfl (pi_tup (pv 0)) (pg_name (i := 2) scLeast.nd rfl (Or.inl rfl))
        (pss_cons (ps_par (by rfl) scLeast.nd (i := 3) (j := 4) rfl rfl (by decide) rfl rfl (pa_cons (pv 1) (pa_cons (pe_callB call_abs (by rfl) N.abs (by decide +kernel) (pa_cons (pv 2) pa_nil)) pa_nil)) (by rfl))
        (pss_cons (ps_while PassesOwn.never (pt_cmpR op_gt (pv 4) pe_int (nomark _))
          (pss_one (ps_par (by rfl) scLeast.nd (i := 3) (j := 4) rfl rfl (by decide) rfl rfl (pa_cons (pv 4) (pa_cons (pe_op op_mod (pe_callTy call_int1 (by rfl) N.int (by decide +kernel) (pa_cons (pv 3) pa_nil)) (pv 4)) pa_nil)) (by rfl))))
        (pss_one (ps_set (i := 1) scLeast.nd rfl (.inr rfl) (pv 3))))))
      (pss_one (ps_ret (pe_callTy call_tuple_of (by rfl) N.tuple (by decide +kernel) (pa_cons
        (pe_lc (own := [("_law_number", 2)]) (g := gName 2) (tt := tYes) (by rfl) scLeast.nd (pi_tup (pv 0)) (blkOk_by (own := [("_law_number", 2)]) (N := ["_law_numbers", "_law_part", "_law_number", "_law_one", "_law_two"]) (sc := defScope (top 67)) (by decide +kernel))
          (fun _ _ _ _ _ => pg_name (i := 2) scLeast.nd rfl (Or.inl rfl)) (fun _ _ _ _ _ => pts_nil)
          (fun _ _ _ _ _ => pe_op op_fdivN (pv 2) (pe_callB (call_max2 rfl) (by rfl) N.max (by decide +kernel) (pa_cons pe_int (pa_cons (pv 1) pa_nil))))) pa_nil)))))), ?_⟩
    have hI : ∀ (i : Nat) (v : V), ([V.int x, V.int y, V.int z] : List V)[i]? = some v → ∃ n, v = .int n ∧ Small n := by
      intro i v h
      match i, h with
      | 0, h => exact ⟨x, (Option.some.inj h).symm, sx⟩
      | 1, h => exact ⟨y, (Option.some.inj h).symm, sy⟩
      | 2, h => exact ⟨z, (Option.some.inj h).symm, sz⟩
      | _ + 3, h => exact absurd h (by simp)
    refine ⟨_, rfl, q, rfl, ⟨_, hq⟩, for_tup (K := K) (a := q) (xs := [V.int x, V.int y, V.int z]) (fun i σ H' => ∃ (g : Int) (v2 v3 v4 : Option V), 0 ≤ g ∧ g ≤ 1000 ∧ σ = [some (.ref q), some (.int g), v2, v3, v4] ∧ H' = H)
      ⟨0, none, none, none, by omega, by omega, rfl, rfl⟩ (fun i σ H' _ ⟨_, _, _, _, _, _, _, e⟩ => by rw [e]; exact hq) ?_ ?_⟩
    · rintro i v σ H' hi ⟨g, v2, v3, v4, g0, g1, rfl, rfl⟩
      obtain ⟨n, rfl, n0, n1⟩ := hI i v hi
      refine ⟨_, rfl, _, rfl, n, rfl, _, _, rfl, ?_⟩
      have a0 : 0 ≤ (if n < 0 then -n else n) ∧ (if n < 0 then -n else n) ≤ 1000 := by split <;> omega
      generalize (if n < 0 then -n else n) = b at a0
      refine while_by (fun σ2 H2 => ∃ a b : Int, 0 ≤ a ∧ a ≤ 1000 ∧ 0 ≤ b ∧ b ≤ 1000 ∧ σ2 = [some (.ref q), some (.int g), some (.int n), some (.int a), some (.int b)] ∧ H2 = H')
        (fun σ2 _ => natOf σ2[4]?) ⟨g, b, g0, g1, a0.1, a0.2, rfl, rfl⟩ ?_ ?_
      · rintro σ2 H2 ⟨a, b2, h1, h2, h3, h4, rfl, rfl⟩
        refine ⟨_, rfl, b2, 0, rfl, rfl, _, rfl, ite2 (fun hb => ?_) (fun _ => ?_)⟩
        · have hb' : 0 < b2 := of_decide_eq_true hb
          have m0 := Int.emod_nonneg a (show b2 ≠ 0 by omega)
          have m1 := Int.emod_lt_of_pos a hb'
          refine ⟨_, rfl, _, rfl, .inl ⟨a, rfl, _, rfl, a, b2, rfl, rfl, hb', _, _, rfl, ⟨b2, a % b2, by omega, by omega, by omega, by omega, rfl, rfl⟩, ?_⟩⟩
          show (a % b2).toNat < b2.toNat
          omega
        · exact ⟨_, rfl, a, _, _, _, h1, h2, rfl, rfl⟩
      · intro σ2 H2 Q1 Q2 hm h
        obtain ⟨v, hv, i1, j1, e1, e2, kb, ek, q1⟩ := h
        exact ⟨v, hv, i1, j1, e1, e2, kb, ek, hm _ _ q1⟩
    · rintro σ H' ⟨g, v2, v3, v4, g0, g1, rfl, rfl⟩
      refine ⟨_, rfl, q, rfl, ⟨_, hq⟩, fun D hD => lc_tup (K := K) (a := q) (xs := [V.int x, V.int y, V.int z]) (fun i H2 => ∃ acc : List V, acc.length = i ∧ (∀ v ∈ acc, ∃ n, v = V.int n ∧ Small n) ∧ H2 = upd H' D (.lst acc))
        ⟨[], rfl, (fun v hv => by cases hv), rfl⟩ (fun i H2 _ ⟨acc, _, _, e⟩ => ?_) ?_ ?_⟩
      · rw [e]
        exact Same.seqT (fun b o z => by rw [upd_ne (ne_of_none z hD)]; exact z) hq
      · rintro i v H2 hi ⟨acc, hl, ha, rfl⟩
        obtain ⟨n, rfl, hn⟩ := hI i v hi
        have hmx : 1 ≤ (if g > 1 then g else 1) ∧ (if g > 1 then g else 1) ≤ 1000 := by split <;> omega
        refine ⟨rfl, ?_⟩
        unfold tYes
        dsimp only
        rw [if_pos rfl]
        refine ⟨_, rfl, _, rfl, 1, g, rfl, n, _, rfl, rfl, ?_, acc, upd_same, ?_, acc ++ [_], ?_, ?_, upd_upd⟩
        · exact ⟨by omega, by omega⟩
        · exact small1000 (by have := (List.getElem?_eq_some_iff.mp hi).1; simp at this; omega)
        · simp [hl]
        · intro v hv
          rcases List.mem_append.mp hv with hv | hv
          · exact ha v hv
          · have e := List.mem_singleton.mp hv
            exact ⟨_, e, small_div hn hmx.1⟩
      · rintro H2 ⟨acc, hl, ha, rfl⟩
        obtain ⟨x', y', z', rfl, hx, hy, hz⟩ := small_three hl ha
        refine ⟨D, _, rfl, .inl ⟨SqL.of upd_same, fun l hl => ?_⟩⟩
        have s0 : Same H' (upd H' D (.lst [V.int x', V.int y', V.int z'])) := fun b o z => by rw [upd_ne (ne_of_none z hD)]; exact z
        refine k l x' y' z' _ (fun b o z => ?_) (s0.free hl) upd_same hx hy hz
        rw [upd_ne (ne_of_none (s0 b o z) hl)]
        exact s0 b o z
end
end K1
namespace K1
open PySem PySem.Spec PyProof.Rows L2
def spSpot : Sp := fun vs H Q _ => ∃ p : Addr, vs = [.ref p] ∧ SrcAt H p ∧ ∀ r x y z H', But p H H' → SrcAt H' p → r ≠ p → H r = none → H' r = some (.tup [.int x, .int y, .int z]) → Small x → Small y → Small z → Q (.ref r) H'
/-- the value v, shown as d, stands for good -/
structure Worth (K : PySem.W.Frag) (H : Hp) (v : V) (d : PyData) : Prop where
  sh : Shows K H v d
  ok : d.showable = true
  dp : d.depth ≤ 60
  sz : d.shown.length ≤ sizeLine
def spWorth (K : PySem.W.Frag) : Sp := fun vs H Q _ => ∃ p : Addr, vs = [.ref p] ∧ SrcAt H p ∧ ∀ v d H', But p H H' → SrcAt H' p → Worth K (delH H' p) v d → Q v H'
theorem But.fresh {p b : Addr} {H H' : Hp} (h : But p H H') (n : b ≠ p) (e : H' b = none) : H b = none := by
  cases q : H b with
  | none => rfl
  | some o =>
    rw [h b o n q] at e
    cases e
theorem SrcAt.some {H : Hp} {p : Addr} (h : SrcAt H p) : ∃ o, H p = Option.some o := by
  obtain ⟨_, _, _, _, _, _, _, e⟩ := h
  exact ⟨_, e⟩
theorem SrcAt.ne {H : Hp} {p b : Addr} (h : SrcAt H p) (e : H b = none) : b ≠ p := fun z => by
  obtain ⟨o, q⟩ := h.some
  rw [z, q] at e
  cases e
theorem SrcAt.upd {H : Hp} {p b : Addr} {o : HO} (h : SrcAt H p) (n : b ≠ p) : SrcAt (upd H b o) p := by
  obtain ⟨a, m, c, h1, h2, h3, h4, e⟩ := h
  exact ⟨a, m, c, h1, h2, h3, h4, by rw [upd_ne n.symm]; exact e⟩
theorem But.new {p b : Addr} {H : Hp} {o : HO} (e : H b = none) : But p H (upd H b o) := fun c u _ q => by
  rw [upd_ne (ne_of_none q e)]
  exact q
theorem Same.but {p : Addr} {H H' : Hp} (s : Same H H') : But p H H' := fun b o _ e => s b o e
theorem Same.src {p : Addr} {H H' : Hp} (s : Same H H') (h : SrcAt H p) : SrcAt H' p := by
  obtain ⟨a, m, c, h1, h2, h3, h4, e⟩ := h
  exact ⟨a, m, c, h1, h2, h3, h4, s _ _ e⟩
section
variable {P : Program} {w : World} {K : PySem.W.Frag} {mg : Str → Option Value} {base : Heap} {f fD fP fL fS : Addr} {fd fdD fdP fdL fdS : FuncData}
theorem bindsLeast (F : FnP K "_law_least" (top 67) f fd) : Binds K fd ["_law_numbers"] [] := F.bindsN fun _ _ _ _ _ _ us hl => match us, hl with | [_], _ => rfl
theorem bindsSpot (F : FnP K "_law_spot" (top 68) f fd) : Binds K fd ["_law_source_here"] [] := F.bindsN fun _ _ _ _ _ _ us hl => match us, hl with | [_], _ => rfl
theorem bindsWorth (F : FnP K "_law_worth" (top 76) f fd) : Binds K fd ["_law_source_here"] [] := F.bindsN fun _ _ _ _ _ _ us hl => match us, hl with | [_], _ => rfl
theorem scSpot : FnScope ["_law_source_here", "_law_most", "_law_low"] ["_law_source_here"] (defScope (top 68)) := ⟨rfl, rfl, rfl, by decide +kernel, rfl, by decide +kernel, by decide +kernel⟩
/-- the defs that draw -/
structure Dr (K : PySem.W.Frag) (mg : Str → Option Value) (fD fP fL : Addr) (fdD fdP fdL : FuncData) : Prop where
  D : FnP K "_law_draw" (top 65) fD fdD
  P : FnP K "_law_pick" (top 66) fP fdP
  L : FnP K "_law_least" (top 67) fL fdL
  gD : mg "_law_draw" = some (.ref fD)
  gP : mg "_law_pick" = some (.ref fP)
  gL : mg "_law_least" = some (.ref fL)
  N : Nm mg
theorem okSpot (F : FnP K "_law_spot" (top 68) f fd) (T : Dr K mg fD fP fL fdD fdP fdL) : FnOk P w K mg base CX0 3 f fd ["_law_source_here"] spSpot := by
  have GD : FnOk P w K mg base CX0 1 fD fdD ["_law_source_here", "_law_many"] spDraw := okDraw T.D T.N
  have GP : FnOk P w K mg base CX0 2 fP fdP ["_law_source_here", "_law_some"] (spPick K) := okPick T.P T.D T.gD T.N
  have GL : FnOk P w K mg base CX0 1 fL fdL ["_law_numbers"] (spLeast K) := okLeast T.L T.N
  refine F.ok scSpot (fun vs H Q E h => ?_) (fun cdv A outer s H vs Q E hr h => ?_)
  · obtain ⟨p, rfl, _⟩ := h
    rfl
  · obtain ⟨p, rfl, hs, k⟩ := h
    have hr1 : Room 1 _ := hr.mono (by decide)
    refine ⟨_, PSs.nox (pss_cons (ps_par (by rfl) scSpot.nd (i := 1) (j := 2) rfl rfl (by decide) rfl rfl
        (pa_cons (pe_call GP hr rfl T.gP T.P.kp (bindsPick T.P) .nil pass0 (pa_cons (pv 0) (pa_cons (pe_tup (pa_cons pe_int (pa_cons pe_int (pa_cons pe_int (pa_cons pe_int (pa_cons pe_int (pa_cons pe_int pa_nil))))))) pa_nil)))
        (pa_cons (pe_call GP hr rfl T.gP T.P.kp (bindsPick T.P) .nil pass0 (pa_cons (pv 0) (pa_cons (pe_tup (pa_cons pe_int (pa_cons pe_int (pa_cons pe_int (pa_cons pe_int (pa_cons pe_int (pa_cons pe_int pa_nil))))))) pa_nil))) pa_nil)) (by rfl))
      (pss_one (ps_ret (pe_call GL hr1 rfl T.gL T.L.kp (bindsLeast T.L) .nil pass0 (pa_cons (pe_tup
        (pa_cons (pe_op op_sub (pe_call GD hr1 rfl T.gD T.D.kp (bindsDraw T.D) .nil pass0 (pa_cons (pv 0) (pa_cons (pe_op op_add (pe_op op_mul pe_int (pv 1)) pe_int) pa_nil))) (pv 1))
        (pa_cons (pe_op op_sub (pe_call GD hr1 rfl T.gD T.D.kp (bindsDraw T.D) .nil pass0 (pa_cons (pv 0) (pa_cons (pe_op op_add (pe_op op_mul pe_int (pv 1)) pe_int) pa_nil))) (pv 1))
        (pa_cons (pv 2) pa_nil)))) pa_nil))))), ?_⟩
    have six : 6 ≤ sizeLine := by decide
    refine ⟨_, rfl, six, fun a ha => ?_⟩
    have ap := hs.ne ha
    refine ⟨p, a, _, rfl, ap, hs.upd ap, SqT.of upd_same, by decide, by decide, fun x H1 hx b1 s1 => ?_⟩
    obtain ⟨m, rfl, m0, m1⟩ : ∃ m, x = V.int m ∧ 1 ≤ m ∧ m ≤ 99 := by
      simp only [List.mem_cons, List.not_mem_nil, or_false] at hx
      rcases hx with rfl | rfl | rfl | rfl | rfl | rfl <;> exact ⟨_, rfl, by decide, by decide⟩
    refine ⟨_, rfl, six, fun a2 ha2 => ?_⟩
    have ap2 := s1.ne ha2
    refine ⟨p, a2, _, rfl, ap2, s1.upd ap2, SqT.of upd_same, by decide, by decide, fun x H2 hx b2 s2 => ?_⟩
    obtain ⟨l, rfl, l0, l1⟩ : ∃ m, x = V.int m ∧ 1 ≤ m ∧ m ≤ 5 := by
      simp only [List.mem_cons, List.not_mem_nil, or_false] at hx
      rcases hx with rfl | rfl | rfl | rfl | rfl | rfl <;> exact ⟨_, rfl, by decide, by decide⟩
    have B2 : But p H H2 := ((But.new ha).trans b1).trans ((But.new ha2).trans b2)
    refine ⟨_, _, rfl, ?_⟩
    refine ⟨_, rfl, _, rfl, 2, m, rfl, rfl, .inl ⟨by decide, by decide⟩, _, _, rfl, rfl, p, 2 * m + 1, rfl, s2, by omega, by omega, fun d1 H3 d10 d11 b3 s3 => ?_⟩
    refine ⟨_, rfl, d1, m, rfl, rfl, ?_⟩
    refine ⟨_, rfl, _, rfl, 2, m, rfl, rfl, .inl ⟨by decide, by decide⟩, _, _, rfl, rfl, p, 2 * m + 1, rfl, s3, by omega, by omega, fun d2 H4 d20 d21 b4 s4 => ?_⟩
    refine ⟨_, rfl, d2, m, rfl, rfl, _, rfl, (by show 3 ≤ sizeLine; decide), fun a5 ha5 => ?_⟩
    have ap5 := s4.ne ha5
    refine ⟨a5, d1 - m, d2 - m, l, rfl, SqT.of upd_same, ⟨by omega, by omega⟩, ⟨by omega, by omega⟩, ⟨by omega, by omega⟩, fun r x' y' z' H5 sm hr5 hr6 sx sy sz => ?_⟩
    have B5 : But p H H5 := (B2.trans (b3.trans b4)).trans ((But.new ha5).trans (Same.but sm))
    have rp : r ≠ p := fun z => by
      obtain ⟨o, q⟩ := (s4.upd (o := .tup [V.int (d1 - m), V.int (d2 - m), V.int l]) ap5).some
      rw [z] at hr5
      exact absurd (q.symm.trans hr5) (by simp)
    have rn : H r = none := by
      have q1 : H4 r = none := by
        have hne : r ≠ a5 := fun z => by
          rw [z, upd_same] at hr5
          cases hr5
        rw [upd_ne hne] at hr5
        exact hr5
      exact (B2.trans (b3.trans b4)).fresh rp q1
    exact k r x' y' z' H5 B5 (Same.src sm (s4.upd ap5)) rp rn hr6 sx sy sz
end
end K1
namespace K1
open PySem PySem.Spec PyProof.Rows L2
/-! ### data stays -/
mutual
theorem dpMono {K : PySem.W.Frag} {H H' : Hp} (s : Same H H') : ∀ (d : PyData) (v : V), Dp K H v d → Dp K H' v d
  | .none, _, h => by cases h; exact Dp.non
  | .bool b, _, h => by cases h; exact Dp.bl b
  | .int i, _, h => by cases h; exact Dp.int i
  | .str x, _, h => by cases h; exact Dp.str x
  | .list ds, _, h => by
    cases h with
    | lst hs ha => exact Dp.lst (s.seq hs) (dpMonoAll s ds _ ha)
  | .tuple ds, _, h => by
    cases h with
    | tup hs ha => exact Dp.tup (Same.seqT s hs) (dpMonoAll s ds _ ha)
  | .dict _, _, h => by cases h
theorem dpMonoAll {K : PySem.W.Frag} {H H' : Hp} (s : Same H H') : ∀ (ds : List PyData) (vs : List V), DpAll K H vs ds → DpAll K H' vs ds
  | [], _, h => by cases h; exact DpAll.nil
  | d :: ds, _, h => by
    cases h with
    | cons h1 h2 => exact DpAll.cons (dpMono s d _ h1) (dpMonoAll s ds _ h2)
end
theorem Worth.mono {K : PySem.W.Frag} {H H' : Hp} {v : V} {d : PyData} (s : Same H H') (h : Worth K H v d) : Worth K H' v d := by
  refine ⟨?_, h.ok, h.dp, h.sz⟩
  rcases h.sh with h | ⟨a, e1, e2, h⟩
  · exact .inl (dpMono s d v h)
  · exact .inr ⟨a, e1, e2, s _ _ h⟩
theorem Same.del {p : Addr} {H H' : Hp} (b : But p H H') : Same (delH H p) (delH H' p) := fun c o e => by
  have n : c ≠ p := fun z => by
    rw [z, delH_same] at e
    cases e
  rw [delH_ne n] at e ⊢
  exact b c o n e
theorem Same.undel {p : Addr} {H : Hp} : Same (delH H p) H := fun c o e => by
  have n : c ≠ p := fun z => by
    rw [z, delH_same] at e
    cases e
  rw [delH_ne n] at e
  exact e
/-! ### what is shown of small things -/
theorem small_show {x : Int} (h : Small x) : (PyData.int x).showable = true := by
  have : x.natAbs.log2 < 1920 := by
    by_cases h0 : x.natAbs = 0
    · rw [h0]
      decide
    · refine (Nat.log2_lt h0).mpr ?_
      obtain ⟨h1, h2⟩ := h
      have : x.natAbs ≤ 1000 := by omega
      exact Nat.lt_of_le_of_lt this (Nat.lt_of_lt_of_le (by decide : 1000 < 2 ^ 10) (Nat.pow_le_pow_right (by decide) (by decide)))
  simp [PyData.showable, this]
theorem small_len {x : Int} (h : Small x) : (PyData.int x).shown.length ≤ 1921 := by
  have z := small_show h
  simp only [PyData.showable, decide_eq_true_eq] at z
  show (Str.ofString (toString x)).length ≤ 1921
  exact int_text_len_1921 z
abbrev d3 (x y z : Int) : PyData := .tuple [.int x, .int y, .int z]
theorem d3_len {x y z : Int} (hx : Small x) (hy : Small y) (hz : Small z) : (d3 x y z).shown.length ≤ 6000 := by
  have a := small_len hx
  have b := small_len hy
  have c := small_len hz
  have e : (d3 x y z).shown = tupleText [(PyData.int x).shown, (PyData.int y).shown, (PyData.int z).shown] := by simp [d3, PyData.shown, PyData.shownAll]
  rw [e]
  refine Nat.le_trans (tupleText_len_le _) ?_
  simp only [List.map_cons, List.map_nil, List.sum_cons, List.sum_nil, List.length_cons, List.length_nil]
  omega
theorem d3_ok {x y z : Int} (hx : Small x) (hy : Small y) (hz : Small z) : (d3 x y z).showable = true := by
  simp [d3, PyData.showable, PyData.showableAll]
  have a := small_show hx
  have b := small_show hy
  have c := small_show hz
  simp only [PyData.showable, decide_eq_true_eq] at a b c
  exact ⟨a, b, c⟩
theorem sameNew {H : Hp} {b : Addr} {o : HO} (e : H b = none) : Same H (upd H b o) := fun c u q => by
  rw [upd_ne (ne_of_none q e)]
  exact q
theorem big : (100000 : Nat) ≤ sizeLine := by decide
theorem worthOf {K : PySem.W.Frag} {p r a1 l a2 l2 e1 a3 : Addr} {x y z : Int} {Hg H' : Hp} {v : V} (sx : Small x) (sy : Small y) (sz : Small z) (rp : r ≠ p) (a1p : a1 ≠ p) (lp : l ≠ p) (a2p : a2 ≠ p) (l2p : l2 ≠ p) (e1p : e1 ≠ p) (a3p : a3 ≠ p)
    (atR : Hg r = some (.tup [V.int x, V.int y, V.int z])) (at1 : Hg a1 = some (.tup [V.ref r, V.ref r])) (atl : Hg l = some (.lst [V.int x, V.int y, V.int z])) (at2 : Hg a2 = some (.tup [])) (atl2 : Hg l2 = some (.lst [])) (ate : Hg e1 = some (.dK [])) (at3 : Hg a3 = some (.tup [V.non]))
    (b2 : But p Hg H') (hv : v ∈ ([V.non, V.bl true, V.bl false, V.int 0, V.int (-7), V.ref r, V.ref a1, V.ref l, V.str "", V.str "abc", V.ref a2, V.ref l2, V.ref e1, V.ref a3] : List V)) : ∃ d, Worth K (delH H' p) v d := by
  have fin : ∀ {v d}, Worth K (delH Hg p) v d → Worth K (delH H' p) v d := fun {v d} h => h.mono (Same.del b2)
  have gR := (delH_ne (H := Hg) rp).trans atR
  have g1 := (delH_ne (H := Hg) a1p).trans at1
  have gl := (delH_ne (H := Hg) lp).trans atl
  have g2 := (delH_ne (H := Hg) a2p).trans at2
  have gl2 := (delH_ne (H := Hg) l2p).trans atl2
  have ge := (delH_ne (H := Hg) e1p).trans ate
  have g3 := (delH_ne (H := Hg) a3p).trans at3
  have L3 : DpAll K (delH Hg p) [V.int x, V.int y, V.int z] [.int x, .int y, .int z] := .cons (.int x) (.cons (.int y) (.cons (.int z) .nil))
  have dR : Dp K (delH Hg p) (.ref r) (d3 x y z) := Dp.tup (SqT.of gR) L3
  have zz := d3_len sx sy sz
  have ok3 := d3_ok sx sy sz
  simp only [List.mem_cons, List.not_mem_nil, or_false] at hv
  rcases hv with rfl | rfl | rfl | rfl | rfl | rfl | rfl | rfl | rfl | rfl | rfl | rfl | rfl | rfl
  · exact ⟨.none, fin ⟨.inl .non, rfl, by decide, by decide +kernel⟩⟩
  · exact ⟨.bool true, fin ⟨.inl (.bl true), rfl, by decide, by decide +kernel⟩⟩
  · exact ⟨.bool false, fin ⟨.inl (.bl false), rfl, by decide, by decide +kernel⟩⟩
  · exact ⟨.int 0, fin ⟨.inl (.int 0), by decide, by decide, by decide +kernel⟩⟩
  · exact ⟨.int (-7), fin ⟨.inl (.int (-7)), by decide, by decide, by decide +kernel⟩⟩
  · exact ⟨d3 x y z, fin ⟨.inl dR, ok3, by simp [PyData.depth, PyData.depthAll], Nat.le_trans zz (Nat.le_trans (by decide) big)⟩⟩
  · refine ⟨.tuple [d3 x y z, d3 x y z], fin ⟨.inl (Dp.tup (SqT.of g1) (.cons dR (.cons dR .nil))), ?_, by simp [PyData.depth, PyData.depthAll], ?_⟩⟩
    · show PyData.showableAll [d3 x y z, d3 x y z] = true
      simp only [PyData.showableAll, ok3, Bool.and_self]
    · have e : (PyData.tuple [d3 x y z, d3 x y z]).shown = tupleText [(d3 x y z).shown, (d3 x y z).shown] := by
        generalize d3 x y z = u
        simp only [PyData.shown, PyData.shownAll]
      rw [e]
      refine Nat.le_trans (tupleText_len_le _) (Nat.le_trans ?_ big)
      simp only [List.map_cons, List.map_nil, List.sum_cons, List.sum_nil, List.length_cons, List.length_nil]
      omega
  · refine ⟨.list [.int x, .int y, .int z], fin ⟨.inl (Dp.lst (SqL.of gl) L3), ok3, by simp [PyData.depth, PyData.depthAll], ?_⟩⟩
    have ka := small_len sx
    have kb := small_len sy
    have kc := small_len sz
    have e : (PyData.list [.int x, .int y, .int z]).shown = listText [(PyData.int x).shown, (PyData.int y).shown, (PyData.int z).shown] := by simp only [PyData.shown, PyData.shownAll]
    rw [e]
    refine Nat.le_trans (listText_len_le _) (Nat.le_trans ?_ big)
    simp only [List.map_cons, List.map_nil, List.sum_cons, List.sum_nil, List.length_cons, List.length_nil]
    omega
  · exact ⟨.str "", fin ⟨.inl (.str ""), rfl, by decide, by decide +kernel⟩⟩
  · exact ⟨.str "abc", fin ⟨.inl (.str "abc"), rfl, by decide, by decide +kernel⟩⟩
  · exact ⟨.tuple [], fin ⟨.inl (Dp.tup (SqT.of g2) .nil), rfl, by decide, by decide +kernel⟩⟩
  · exact ⟨.list [], fin ⟨.inl (Dp.lst (SqL.of gl2) .nil), rfl, by decide, by decide +kernel⟩⟩
  · exact ⟨.dict [], fin ⟨.inr ⟨e1, rfl, rfl, ge⟩, rfl, by decide, by decide +kernel⟩⟩
  · exact ⟨.tuple [.none], fin ⟨.inl (Dp.tup (SqT.of g3) (.cons .non .nil)), rfl, by decide, by decide +kernel⟩⟩
section
variable {P : Program} {w : World} {K : PySem.W.Frag} {mg : Str → Option Value} {base : Heap} {f fD fP fL fS : Addr} {fd fdD fdP fdL fdS : FuncData}
theorem scWorth : FnScope ["_law_source_here", "_law_spot_here"] ["_law_source_here"] (defScope (top 76)) := ⟨rfl, rfl, rfl, by decide +kernel, rfl, by decide +kernel, by decide +kernel⟩
theorem okWorth (F : FnP K "_law_worth" (top 76) f fd) (T : Dr K mg fD fP fL fdD fdP fdL) (FS : FnP K "_law_spot" (top 68) fS fdS) (gS : mg "_law_spot" = some (.ref fS)) : FnOk P w K mg base CX0 4 f fd ["_law_source_here"] (spWorth K) := by
  have GP : FnOk P w K mg base CX0 2 fP fdP ["_law_source_here", "_law_some"] (spPick K) := okPick T.P T.D T.gD T.N
  have GS : FnOk P w K mg base CX0 3 fS fdS ["_law_source_here"] spSpot := okSpot FS T
  refine F.ok scWorth (fun vs H Q E h => ?_) (fun cdv A outer s H vs Q E hr h => ?_)
  · obtain ⟨p, rfl, _⟩ := h
    rfl
  · obtain ⟨p, rfl, hs, k⟩ := h
    have hr2 : Room 2 _ := hr.mono (by decide)
    refine ⟨_, PSs.nox (pss_cons (ps_set (i := 1) scWorth.nd rfl (.inl rfl) (pe_call GS hr rfl gS FS.kp (bindsSpot FS) .nil pass0 (pa_cons (pv 0) pa_nil)))
      (pss_one (ps_ret (pe_call GP hr2 rfl T.gP T.P.kp (bindsPick T.P) .nil pass0 (pa_cons (pv 0) (pa_cons
        (pe_tup (pa_cons pe_non (pa_cons pe_bl (pa_cons pe_bl (pa_cons pe_int (pa_cons (pe_un un_neg pe_int) (pa_cons (pv 1) (pa_cons (pe_tup (pa_cons (pv 1) (pa_cons (pv 1) pa_nil)))
          (pa_cons (pe_callTy call_list_of (by rfl) T.N.list (by decide +kernel) (pa_cons (pv 1) pa_nil)) (pa_cons pe_str (pa_cons pe_str (pa_cons (pe_tup pa_nil) (pa_cons (pe_lst pa_nil) (pa_cons pe_dnewK (pa_cons (pe_tup (pa_cons pe_non pa_nil)) pa_nil))))))))))))))) pa_nil)))))), ?_⟩
    refine ⟨_, rfl, p, rfl, hs, fun r x y z H1 b1 s1 rp rn hr0 sx sy sz => ?_⟩
    have two : ([V.ref r, V.ref r] : List V).length ≤ sizeLine := by show 2 ≤ sizeLine; decide
    refine ⟨_, rfl, 7, rfl, _, rfl, _, rfl, _, rfl, two, fun a1 h1 => ⟨_, rfl, r, _, rfl, .inr (SqT.of (Eq.trans (upd_ne (ne_of_none hr0 h1)) hr0)), fun l hl => ⟨Nat.zero_le _, fun a2 h2 => ⟨Nat.zero_le _, fun l2 hl2 => fun e1 he1 => ⟨by show 1 ≤ sizeLine; decide, fun a3 h3 => ⟨by show 14 ≤ sizeLine; decide, fun a4 h4 => ?_⟩⟩⟩⟩⟩⟩
    have S1 := sameNew (o := .tup [V.ref r, V.ref r]) h1
    have S2 := S1.trans (sameNew (o := .lst [V.int x, V.int y, V.int z]) hl)
    have S3 := S2.trans (sameNew (o := .tup []) h2)
    have S4 := S3.trans (sameNew (o := .lst []) hl2)
    have S5 := S4.trans (sameNew (o := .dK []) he1)
    have S6 := S5.trans (sameNew (o := .tup [V.non]) h3)
    have t1 := Same.src S1 s1
    have t2 := Same.src S2 s1
    have t3 := Same.src S3 s1
    have t4 := Same.src S4 s1
    have t5 := Same.src S5 s1
    have t6 := Same.src S6 s1
    have a1p := s1.ne h1
    have lp := t1.ne hl
    have a2p := t2.ne h2
    have l2p := t3.ne hl2
    have e1p := t4.ne he1
    have a3p := t5.ne h3
    have a4p := t6.ne h4
    refine ⟨p, a4, _, rfl, a4p, t6.upd a4p, SqT.of upd_same, Nat.succ_pos _, (by show 14 ≤ 1000; decide), fun v H' hv b2 s2 => ?_⟩
    have C7 := sameNew (o := .tup [V.non, V.bl true, V.bl false, V.int 0, V.int (-7), V.ref r, V.ref a1, V.ref l, V.str "", V.str "abc", V.ref a2, V.ref l2, V.ref e1, V.ref a3]) h4
    have C6 := Same.trans (sameNew h3) C7
    have C5 := Same.trans (sameNew he1) C6
    have C4 := Same.trans (sameNew hl2) C5
    have C3 := Same.trans (sameNew h2) C4
    have C2 := Same.trans (sameNew hl) C3
    obtain ⟨d, hd⟩ := worthOf (K := K) (p := p) sx sy sz rp a1p lp a2p l2p e1p a3p (C7 _ _ (S6 _ _ hr0)) (C2 _ _ upd_same) (C3 _ _ upd_same) (C4 _ _ upd_same) (C5 _ _ upd_same) (C6 _ _ upd_same) (C7 _ _ upd_same) b2 hv
    exact k v d H' ((b1.trans (Same.but S6)).trans ((But.new h4).trans b2)) s2 hd
end
end K1
namespace K1
open PySem PySem.Spec PyProof.Rows L2
/-! ### the text of the classes -/
def iArgs (f : Str) (p1 p2 : Pos) : Arguments := { posonlyargs := [], args := [{ arg := "self", annotation := none, pos := p1 }, { arg := f, annotation := none, pos := p2 }], vararg := none, kwonlyargs := [], kw_defaults := [], kwarg := none, defaults := [] }
def iBody (f : Str) (q1 q2 q3 q4 : Pos) : List Stmt := [.Assign [.Attribute (.Name "self" q1) f q2] (.Name f q3) q4]
def iScope (f : Str) : Scope := { kind := .function, names := [(PySem.Str.ofString "self", .local), (f, .local)], isGenerator := false, isCoroutine := false, more := [] }
structure IniShape (f : Str) (pars : Arguments) (body : List Stmt) (sc : Scope) : Prop where
  ar : ∃ p1 p2, pars = iArgs f p1 p2
  bo : ∃ q1 q2 q3 q4, body = iBody f q1 q2 q3 q4
  so : sc = iScope f
/-- a class with the attribute f, as the top leaves it -/
structure Kls (K : PySem.W.Frag) (mg : Str → Option Value) (W : Addr) (f x : Str) (C fI : Addr) (fd : FuncData) : Prop where
  er : ErrC K (.ref W :: veT) C
  gl : mg x = some (.ref C)
  ini : PySem.W.findIn K (.ref C) "__init__" = some (some (.ref fI))
  tyf : PySem.W.typeIn K (.ref fI) = some (.type "function")
  no : PySem.W.findIn K (.ref C) f = some none
  fn : ∃ qu pars body sc, FunD K "__init__" qu pars body sc [] [] fI fd ∧ IniShape f pars body sc
def IsF (f : Str) : Prop := f = "given" ∨ f = "index"
section
variable {P : Program} {w : World} {K : PySem.W.Frag} {mg : Str → Option Value} {base : Heap}
theorem scIni {f : Str} (hf : IsF f) : FnScope ["self", f] ["self", f] (iScope f) := by
  rcases hf with rfl | rfl
  · exact ⟨rfl, rfl, rfl, by decide +kernel, rfl, by decide +kernel, by decide +kernel⟩
  · exact ⟨rfl, rfl, rfl, by decide +kernel, rfl, by decide +kernel, by decide +kernel⟩
theorem okIni {f qu : Str} {fI : Addr} {fd : FuncData} {pars : Arguments} {body : List Stmt} {sc : Scope} (hf : IsF f) (F : FunD K "__init__" qu pars body sc [] [] fI fd) (S : IniShape f pars body sc) : FnOk P w K mg base CX0 1 fI fd ["self", f] (spI K f) := by
  obtain ⟨⟨p1, p2, rfl⟩, ⟨q1, q2, q3, q4, rfl⟩, rfl⟩ := S
  refine F.ok (scIni hf) (fun vs H Q E h => ?_) (fun cdv A outer s H vs Q E hr h => ?_)
  · obtain ⟨a, C, v, rfl, _⟩ := h
    rfl
  · obtain ⟨a, C, v, rfl, oe, no, ha, k⟩ := h
    rcases hf with rfl | rfl
    · refine ⟨_, PSs.nox (pss_one (ps_ost (pv 0) (pv 1))), ?_⟩
      exact ⟨_, rfl, _, rfl, a, C, rfl, oe, no, .inl ⟨ha, fun dx n ne => k dx n ne⟩⟩
    · refine ⟨_, PSs.nox (pss_one (ps_ost (pv 0) (pv 1))), ?_⟩
      exact ⟨_, rfl, _, rfl, a, C, rfl, oe, no, .inl ⟨ha, fun dx n ne => k dx n ne⟩⟩
theorem Kls.bp {W : Addr} {f x : Str} {C fI : Addr} {fd : FuncData} (hf : IsF f) (k : Kls K mg W f x C fI fd) : Binds K fd ["self", f] [] := by
  obtain ⟨qu, pars, body, sc, F, ⟨p1, p2, rfl⟩, ⟨q1, q2, q3, q4, rfl⟩, rfl⟩ := k.fn
  rcases hf with rfl | rfl
  · exact F.bindsN fun _ _ _ _ _ _ us hl => match us, hl with | [_, _], _ => rfl
  · exact F.bindsN fun _ _ _ _ _ _ us hl => match us, hl with | [_, _], _ => rfl
theorem Kls.bk {W : Addr} {f x : Str} {C fI : Addr} {fd : FuncData} (hf : IsF f) (k : Kls K mg W f x C fI fd) (s : Shared) (u v : Value) : BindsTo s fd ⟨[u], [(f, v)]⟩ ((["self", f] : List Str).zip [u, v]) := by
  obtain ⟨qu, pars, body, sc, F, ⟨p1, p2, rfl⟩, ⟨q1, q2, q3, q4, rfl⟩, rfl⟩ := k.fn
  obtain ⟨oc, od, dV, kV, doc, pm, an, cdv, ct, osl, rfl, lk, hcd, hD, _⟩ := F.ex
  rcases hD with ⟨_, rfl⟩ | ⟨e, _⟩
  · rcases hf with rfl | rfl
    · exact .of_eq rfl
    · exact .of_eq rfl
  · exact absurd rfl e
theorem Kls.toOk {X : Cx} {W : Addr} {f x : Str} {C fI : Addr} {fd : FuncData} (hf : IsF f) (k : Kls X.K X.mg W f x C fI fd) : MkOk X C fI fd f 1 := by
  obtain ⟨qu, pars, body, sc, F, S⟩ := k.fn
  exact ⟨k.er.oex, k.ini, k.tyf, okIni hf F S, k.no, k.bp hf, fun s u v _ => k.bk hf s u v⟩
end
/-! ### a table of such classes by their names -/
structure KT (K : PySem.W.Frag) (mg : Str → Option Value) (W : Addr) (f : Str) (nms : List Str) (cs fi : Nat → Addr) (fds : Nat → FuncData) : Prop where
  isf : IsF f
  row : ∀ i x, nms[i]? = some x → Kls K mg W f x (cs i) (fi i) (fds i)
def spKind (f : Str) (cs : Nat → Addr) (lo many : Nat) : Sp := fun vs H Q _ => ∃ (m : Nat) (v : V) (b : Bool), vs = [.int m, v, .bl b] ∧ m < many ∧ ∀ a d, H a = none → H d = none → d ≠ a → Q (.ref a) (excH H a d (cs (lo + m)) f v)
theorem kind_if {i n : Int} {v : V} {b : Bool} {C : Addr} {f : Str} {rest : TS} {D : Ends} {H : Hp} (h1 : n = i → ∀ a d, H a = none → H d = none → d ≠ a → D.rt (.ref a) (excH H a d C f v)) (h2 : n ≠ i → rest D [some (.int n), some v, some (.bl b)] H) :
    tSeq (tIfS (tTest (tOp rEq (tVar 0) (tC (.int i)))) (tRet (tIf (tB (tVar 2)) (tMk C f (tVar 1)) (tMk C f (tVar 1)))) tNext) rest D [some (.int n), some v, some (.bl b)] H := by
  refine ⟨_, rfl, rfl, _, rfl, ite2 (fun e => ?_) (fun e => ?_)⟩
  · have e' : n = i := by
      have z := of_decide_eq_true e
      injection z
    refine ⟨_, rfl, b, rfl, ?_⟩
    cases b
    · exact iteF ⟨_, rfl, h1 e'⟩
    · exact iteT ⟨_, rfl, h1 e'⟩
  · refine h2 fun z => e ?_
    rw [z]
    exact decide_eq_true rfl
section
variable {P : Program} {w : World} {K : PySem.W.Frag} {mg : Str → Option Value} {base : Heap} {f : Addr} {fd : FuncData} {W : Addr} {cs fi : Nat → Addr} {fds : Nat → FuncData}
theorem scFirst : FnScope ["_law_at", "_law_worth_here", "_law_named"] ["_law_at", "_law_worth_here", "_law_named"] (defScope (top 69)) := ⟨rfl, rfl, rfl, by decide +kernel, rfl, by decide +kernel, by decide +kernel⟩
theorem okFirst (F : FnP K "_law_first_kind" (top 69) f fd) (T : KT K mg W "given" nmG cs fi fds) : FnOk P w K mg base CX0 3 f fd ["_law_at", "_law_worth_here", "_law_named"] (spKind "given" cs 0 17) := by
  refine F.ok scFirst (fun vs H Q E h => ?_) (fun cdv A outer s H vs Q E hr h => ?_)
  · obtain ⟨m, v, b, rfl, _⟩ := h
    rfl
  · obtain ⟨m, v, b, rfl, hm, k⟩ := h
    have r0 := T.row 0 "InvalidFraction" rfl
    have r1 := T.row 1 "InvalidTime" rfl
    have r2 := T.row 2 "InvalidPoint" rfl
    have r3 := T.row 3 "InvalidDirection" rfl
    have r4 := T.row 4 "InvalidSide" rfl
    have r5 := T.row 5 "InvalidNormal" rfl
    have r6 := T.row 6 "InvalidPolygon" rfl
    have r7 := T.row 7 "InvalidFigure" rfl
    have r8 := T.row 8 "InvalidWater" rfl
    have r9 := T.row 9 "InvalidWind" rfl
    have r10 := T.row 10 "InvalidArc" rfl
    have r11 := T.row 11 "InvalidNote" rfl
    have r12 := T.row 12 "InvalidWeather" rfl
    have r13 := T.row 13 "InvalidNumber" rfl
    have r14 := T.row 14 "InvalidIndex" rfl
    have r15 := T.row 15 "InvalidOrder" rfl
    have r16 := T.row 16 "InvalidChannel" rfl
    refine ⟨_, PSs.nox (
      pss_cons (ps_if (pt_cmpR op_eq (pv 0) pe_int (nomark _)) (pss_one (ps_ret (pe_ifExp (pt_val (pv 2)) (pe_mkK (Kls.toOk T.isf r0) hr rfl r0.gl (pv 1)) (pe_mkP (Kls.toOk T.isf r0) hr rfl r0.gl (pv 1))))) pss_nil) (
      pss_cons (ps_if (pt_cmpR op_eq (pv 0) pe_int (nomark _)) (pss_one (ps_ret (pe_ifExp (pt_val (pv 2)) (pe_mkK (Kls.toOk T.isf r1) hr rfl r1.gl (pv 1)) (pe_mkP (Kls.toOk T.isf r1) hr rfl r1.gl (pv 1))))) pss_nil) (
      pss_cons (ps_if (pt_cmpR op_eq (pv 0) pe_int (nomark _)) (pss_one (ps_ret (pe_ifExp (pt_val (pv 2)) (pe_mkK (Kls.toOk T.isf r2) hr rfl r2.gl (pv 1)) (pe_mkP (Kls.toOk T.isf r2) hr rfl r2.gl (pv 1))))) pss_nil) (
      pss_cons (ps_if (pt_cmpR op_eq (pv 0) pe_int (nomark _)) (pss_one (ps_ret (pe_ifExp (pt_val (pv 2)) (pe_mkK (Kls.toOk T.isf r3) hr rfl r3.gl (pv 1)) (pe_mkP (Kls.toOk T.isf r3) hr rfl r3.gl (pv 1))))) pss_nil) (
      pss_cons (ps_if (pt_cmpR op_eq (pv 0) pe_int (nomark _)) (pss_one (ps_ret (pe_ifExp (pt_val (pv 2)) (pe_mkK (Kls.toOk T.isf r4) hr rfl r4.gl (pv 1)) (pe_mkP (Kls.toOk T.isf r4) hr rfl r4.gl (pv 1))))) pss_nil) (
      pss_cons (ps_if (pt_cmpR op_eq (pv 0) pe_int (nomark _)) (pss_one (ps_ret (pe_ifExp (pt_val (pv 2)) (pe_mkK (Kls.toOk T.isf r5) hr rfl r5.gl (pv 1)) (pe_mkP (Kls.toOk T.isf r5) hr rfl r5.gl (pv 1))))) pss_nil) (
      pss_cons (ps_if (pt_cmpR op_eq (pv 0) pe_int (nomark _)) (pss_one (ps_ret (pe_ifExp (pt_val (pv 2)) (pe_mkK (Kls.toOk T.isf r6) hr rfl r6.gl (pv 1)) (pe_mkP (Kls.toOk T.isf r6) hr rfl r6.gl (pv 1))))) pss_nil) (
      pss_cons (ps_if (pt_cmpR op_eq (pv 0) pe_int (nomark _)) (pss_one (ps_ret (pe_ifExp (pt_val (pv 2)) (pe_mkK (Kls.toOk T.isf r7) hr rfl r7.gl (pv 1)) (pe_mkP (Kls.toOk T.isf r7) hr rfl r7.gl (pv 1))))) pss_nil) (
      pss_cons (ps_if (pt_cmpR op_eq (pv 0) pe_int (nomark _)) (pss_one (ps_ret (pe_ifExp (pt_val (pv 2)) (pe_mkK (Kls.toOk T.isf r8) hr rfl r8.gl (pv 1)) (pe_mkP (Kls.toOk T.isf r8) hr rfl r8.gl (pv 1))))) pss_nil) (
      pss_cons (ps_if (pt_cmpR op_eq (pv 0) pe_int (nomark _)) (pss_one (ps_ret (pe_ifExp (pt_val (pv 2)) (pe_mkK (Kls.toOk T.isf r9) hr rfl r9.gl (pv 1)) (pe_mkP (Kls.toOk T.isf r9) hr rfl r9.gl (pv 1))))) pss_nil) (
      pss_cons (ps_if (pt_cmpR op_eq (pv 0) pe_int (nomark _)) (pss_one (ps_ret (pe_ifExp (pt_val (pv 2)) (pe_mkK (Kls.toOk T.isf r10) hr rfl r10.gl (pv 1)) (pe_mkP (Kls.toOk T.isf r10) hr rfl r10.gl (pv 1))))) pss_nil) (
      pss_cons (ps_if (pt_cmpR op_eq (pv 0) pe_int (nomark _)) (pss_one (ps_ret (pe_ifExp (pt_val (pv 2)) (pe_mkK (Kls.toOk T.isf r11) hr rfl r11.gl (pv 1)) (pe_mkP (Kls.toOk T.isf r11) hr rfl r11.gl (pv 1))))) pss_nil) (
      pss_cons (ps_if (pt_cmpR op_eq (pv 0) pe_int (nomark _)) (pss_one (ps_ret (pe_ifExp (pt_val (pv 2)) (pe_mkK (Kls.toOk T.isf r12) hr rfl r12.gl (pv 1)) (pe_mkP (Kls.toOk T.isf r12) hr rfl r12.gl (pv 1))))) pss_nil) (
      pss_cons (ps_if (pt_cmpR op_eq (pv 0) pe_int (nomark _)) (pss_one (ps_ret (pe_ifExp (pt_val (pv 2)) (pe_mkK (Kls.toOk T.isf r13) hr rfl r13.gl (pv 1)) (pe_mkP (Kls.toOk T.isf r13) hr rfl r13.gl (pv 1))))) pss_nil) (
      pss_cons (ps_if (pt_cmpR op_eq (pv 0) pe_int (nomark _)) (pss_one (ps_ret (pe_ifExp (pt_val (pv 2)) (pe_mkK (Kls.toOk T.isf r14) hr rfl r14.gl (pv 1)) (pe_mkP (Kls.toOk T.isf r14) hr rfl r14.gl (pv 1))))) pss_nil) (
      pss_cons (ps_if (pt_cmpR op_eq (pv 0) pe_int (nomark _)) (pss_one (ps_ret (pe_ifExp (pt_val (pv 2)) (pe_mkK (Kls.toOk T.isf r15) hr rfl r15.gl (pv 1)) (pe_mkP (Kls.toOk T.isf r15) hr rfl r15.gl (pv 1))))) pss_nil) (
      pss_cons (ps_if (pt_cmpR op_eq (pv 0) pe_int (nomark _)) (pss_one (ps_ret (pe_ifExp (pt_val (pv 2)) (pe_mkK (Kls.toOk T.isf r16) hr rfl r16.gl (pv 1)) (pe_mkP (Kls.toOk T.isf r16) hr rfl r16.gl (pv 1))))) pss_nil) (
      pss_one (ps_ret pe_non))))))))))))))))))), ?_⟩
    refine kind_if (fun e => ?_) (fun n0 => ?_)
    · have z : m = 0 := by omega
      subst z
      exact k
    refine kind_if (fun e => ?_) (fun n1 => ?_)
    · have z : m = 1 := by omega
      subst z
      exact k
    refine kind_if (fun e => ?_) (fun n2 => ?_)
    · have z : m = 2 := by omega
      subst z
      exact k
    refine kind_if (fun e => ?_) (fun n3 => ?_)
    · have z : m = 3 := by omega
      subst z
      exact k
    refine kind_if (fun e => ?_) (fun n4 => ?_)
    · have z : m = 4 := by omega
      subst z
      exact k
    refine kind_if (fun e => ?_) (fun n5 => ?_)
    · have z : m = 5 := by omega
      subst z
      exact k
    refine kind_if (fun e => ?_) (fun n6 => ?_)
    · have z : m = 6 := by omega
      subst z
      exact k
    refine kind_if (fun e => ?_) (fun n7 => ?_)
    · have z : m = 7 := by omega
      subst z
      exact k
    refine kind_if (fun e => ?_) (fun n8 => ?_)
    · have z : m = 8 := by omega
      subst z
      exact k
    refine kind_if (fun e => ?_) (fun n9 => ?_)
    · have z : m = 9 := by omega
      subst z
      exact k
    refine kind_if (fun e => ?_) (fun n10 => ?_)
    · have z : m = 10 := by omega
      subst z
      exact k
    refine kind_if (fun e => ?_) (fun n11 => ?_)
    · have z : m = 11 := by omega
      subst z
      exact k
    refine kind_if (fun e => ?_) (fun n12 => ?_)
    · have z : m = 12 := by omega
      subst z
      exact k
    refine kind_if (fun e => ?_) (fun n13 => ?_)
    · have z : m = 13 := by omega
      subst z
      exact k
    refine kind_if (fun e => ?_) (fun n14 => ?_)
    · have z : m = 14 := by omega
      subst z
      exact k
    refine kind_if (fun e => ?_) (fun n15 => ?_)
    · have z : m = 15 := by omega
      subst z
      exact k
    refine kind_if (fun e => ?_) (fun n16 => ?_)
    · have z : m = 16 := by omega
      subst z
      exact k
    exact absurd hm (by omega)
theorem scSecond : FnScope ["_law_at", "_law_worth_here", "_law_named"] ["_law_at", "_law_worth_here", "_law_named"] (defScope (top 70)) := ⟨rfl, rfl, rfl, by decide +kernel, rfl, by decide +kernel, by decide +kernel⟩
theorem okSecond (F : FnP K "_law_second_kind" (top 70) f fd) (T : KT K mg W "given" nmG cs fi fds) : FnOk P w K mg base CX0 3 f fd ["_law_at", "_law_worth_here", "_law_named"] (spKind "given" cs 17 17) := by
  refine F.ok scSecond (fun vs H Q E h => ?_) (fun cdv A outer s H vs Q E hr h => ?_)
  · obtain ⟨m, v, b, rfl, _⟩ := h
    rfl
  · obtain ⟨m, v, b, rfl, hm, k⟩ := h
    have r0 := T.row 17 "InvalidForm" rfl
    have r1 := T.row 18 "InvalidWeights" rfl
    have r2 := T.row 19 "InvalidMover" rfl
    have r3 := T.row 20 "InvalidStarter" rfl
    have r4 := T.row 21 "InvalidName" rfl
    have r5 := T.row 22 "InvalidWish" rfl
    have r6 := T.row 23 "InvalidPhrase" rfl
    have r7 := T.row 24 "InIsle" rfl
    have r8 := T.row 25 "OutOfChannel" rfl
    have r9 := T.row 26 "NotAlong" rfl
    have r10 := T.row 27 "OffWater" rfl
    have r11 := T.row 28 "NoBearing" rfl
    have r12 := T.row 29 "OutOfPolygon" rfl
    have r13 := T.row 30 "NotAWorkshop" rfl
    have r14 := T.row 31 "TooMany" rfl
    have r15 := T.row 32 "UnknownName" rfl
    have r16 := T.row 33 "Same" rfl
    refine ⟨_, PSs.nox (
      pss_cons (ps_if (pt_cmpR op_eq (pv 0) pe_int (nomark _)) (pss_one (ps_ret (pe_ifExp (pt_val (pv 2)) (pe_mkK (Kls.toOk T.isf r0) hr rfl r0.gl (pv 1)) (pe_mkP (Kls.toOk T.isf r0) hr rfl r0.gl (pv 1))))) pss_nil) (
      pss_cons (ps_if (pt_cmpR op_eq (pv 0) pe_int (nomark _)) (pss_one (ps_ret (pe_ifExp (pt_val (pv 2)) (pe_mkK (Kls.toOk T.isf r1) hr rfl r1.gl (pv 1)) (pe_mkP (Kls.toOk T.isf r1) hr rfl r1.gl (pv 1))))) pss_nil) (
      pss_cons (ps_if (pt_cmpR op_eq (pv 0) pe_int (nomark _)) (pss_one (ps_ret (pe_ifExp (pt_val (pv 2)) (pe_mkK (Kls.toOk T.isf r2) hr rfl r2.gl (pv 1)) (pe_mkP (Kls.toOk T.isf r2) hr rfl r2.gl (pv 1))))) pss_nil) (
      pss_cons (ps_if (pt_cmpR op_eq (pv 0) pe_int (nomark _)) (pss_one (ps_ret (pe_ifExp (pt_val (pv 2)) (pe_mkK (Kls.toOk T.isf r3) hr rfl r3.gl (pv 1)) (pe_mkP (Kls.toOk T.isf r3) hr rfl r3.gl (pv 1))))) pss_nil) (
      pss_cons (ps_if (pt_cmpR op_eq (pv 0) pe_int (nomark _)) (pss_one (ps_ret (pe_ifExp (pt_val (pv 2)) (pe_mkK (Kls.toOk T.isf r4) hr rfl r4.gl (pv 1)) (pe_mkP (Kls.toOk T.isf r4) hr rfl r4.gl (pv 1))))) pss_nil) (
      pss_cons (ps_if (pt_cmpR op_eq (pv 0) pe_int (nomark _)) (pss_one (ps_ret (pe_ifExp (pt_val (pv 2)) (pe_mkK (Kls.toOk T.isf r5) hr rfl r5.gl (pv 1)) (pe_mkP (Kls.toOk T.isf r5) hr rfl r5.gl (pv 1))))) pss_nil) (
      pss_cons (ps_if (pt_cmpR op_eq (pv 0) pe_int (nomark _)) (pss_one (ps_ret (pe_ifExp (pt_val (pv 2)) (pe_mkK (Kls.toOk T.isf r6) hr rfl r6.gl (pv 1)) (pe_mkP (Kls.toOk T.isf r6) hr rfl r6.gl (pv 1))))) pss_nil) (
      pss_cons (ps_if (pt_cmpR op_eq (pv 0) pe_int (nomark _)) (pss_one (ps_ret (pe_ifExp (pt_val (pv 2)) (pe_mkK (Kls.toOk T.isf r7) hr rfl r7.gl (pv 1)) (pe_mkP (Kls.toOk T.isf r7) hr rfl r7.gl (pv 1))))) pss_nil) (
      pss_cons (ps_if (pt_cmpR op_eq (pv 0) pe_int (nomark _)) (pss_one (ps_ret (pe_ifExp (pt_val (pv 2)) (pe_mkK (Kls.toOk T.isf r8) hr rfl r8.gl (pv 1)) (pe_mkP (Kls.toOk T.isf r8) hr rfl r8.gl (pv 1))))) pss_nil) (
      pss_cons (ps_if (pt_cmpR op_eq (pv 0) pe_int (nomark _)) (pss_one (ps_ret (pe_ifExp (pt_val (pv 2)) (pe_mkK (Kls.toOk T.isf r9) hr rfl r9.gl (pv 1)) (pe_mkP (Kls.toOk T.isf r9) hr rfl r9.gl (pv 1))))) pss_nil) (
      pss_cons (ps_if (pt_cmpR op_eq (pv 0) pe_int (nomark _)) (pss_one (ps_ret (pe_ifExp (pt_val (pv 2)) (pe_mkK (Kls.toOk T.isf r10) hr rfl r10.gl (pv 1)) (pe_mkP (Kls.toOk T.isf r10) hr rfl r10.gl (pv 1))))) pss_nil) (
      pss_cons (ps_if (pt_cmpR op_eq (pv 0) pe_int (nomark _)) (pss_one (ps_ret (pe_ifExp (pt_val (pv 2)) (pe_mkK (Kls.toOk T.isf r11) hr rfl r11.gl (pv 1)) (pe_mkP (Kls.toOk T.isf r11) hr rfl r11.gl (pv 1))))) pss_nil) (
      pss_cons (ps_if (pt_cmpR op_eq (pv 0) pe_int (nomark _)) (pss_one (ps_ret (pe_ifExp (pt_val (pv 2)) (pe_mkK (Kls.toOk T.isf r12) hr rfl r12.gl (pv 1)) (pe_mkP (Kls.toOk T.isf r12) hr rfl r12.gl (pv 1))))) pss_nil) (
      pss_cons (ps_if (pt_cmpR op_eq (pv 0) pe_int (nomark _)) (pss_one (ps_ret (pe_ifExp (pt_val (pv 2)) (pe_mkK (Kls.toOk T.isf r13) hr rfl r13.gl (pv 1)) (pe_mkP (Kls.toOk T.isf r13) hr rfl r13.gl (pv 1))))) pss_nil) (
      pss_cons (ps_if (pt_cmpR op_eq (pv 0) pe_int (nomark _)) (pss_one (ps_ret (pe_ifExp (pt_val (pv 2)) (pe_mkK (Kls.toOk T.isf r14) hr rfl r14.gl (pv 1)) (pe_mkP (Kls.toOk T.isf r14) hr rfl r14.gl (pv 1))))) pss_nil) (
      pss_cons (ps_if (pt_cmpR op_eq (pv 0) pe_int (nomark _)) (pss_one (ps_ret (pe_ifExp (pt_val (pv 2)) (pe_mkK (Kls.toOk T.isf r15) hr rfl r15.gl (pv 1)) (pe_mkP (Kls.toOk T.isf r15) hr rfl r15.gl (pv 1))))) pss_nil) (
      pss_cons (ps_if (pt_cmpR op_eq (pv 0) pe_int (nomark _)) (pss_one (ps_ret (pe_ifExp (pt_val (pv 2)) (pe_mkK (Kls.toOk T.isf r16) hr rfl r16.gl (pv 1)) (pe_mkP (Kls.toOk T.isf r16) hr rfl r16.gl (pv 1))))) pss_nil) (
      pss_one (ps_ret pe_non))))))))))))))))))), ?_⟩
    refine kind_if (fun e => ?_) (fun n0 => ?_)
    · have z : m = 0 := by omega
      subst z
      exact k
    refine kind_if (fun e => ?_) (fun n1 => ?_)
    · have z : m = 1 := by omega
      subst z
      exact k
    refine kind_if (fun e => ?_) (fun n2 => ?_)
    · have z : m = 2 := by omega
      subst z
      exact k
    refine kind_if (fun e => ?_) (fun n3 => ?_)
    · have z : m = 3 := by omega
      subst z
      exact k
    refine kind_if (fun e => ?_) (fun n4 => ?_)
    · have z : m = 4 := by omega
      subst z
      exact k
    refine kind_if (fun e => ?_) (fun n5 => ?_)
    · have z : m = 5 := by omega
      subst z
      exact k
    refine kind_if (fun e => ?_) (fun n6 => ?_)
    · have z : m = 6 := by omega
      subst z
      exact k
    refine kind_if (fun e => ?_) (fun n7 => ?_)
    · have z : m = 7 := by omega
      subst z
      exact k
    refine kind_if (fun e => ?_) (fun n8 => ?_)
    · have z : m = 8 := by omega
      subst z
      exact k
    refine kind_if (fun e => ?_) (fun n9 => ?_)
    · have z : m = 9 := by omega
      subst z
      exact k
    refine kind_if (fun e => ?_) (fun n10 => ?_)
    · have z : m = 10 := by omega
      subst z
      exact k
    refine kind_if (fun e => ?_) (fun n11 => ?_)
    · have z : m = 11 := by omega
      subst z
      exact k
    refine kind_if (fun e => ?_) (fun n12 => ?_)
    · have z : m = 12 := by omega
      subst z
      exact k
    refine kind_if (fun e => ?_) (fun n13 => ?_)
    · have z : m = 13 := by omega
      subst z
      exact k
    refine kind_if (fun e => ?_) (fun n14 => ?_)
    · have z : m = 14 := by omega
      subst z
      exact k
    refine kind_if (fun e => ?_) (fun n15 => ?_)
    · have z : m = 15 := by omega
      subst z
      exact k
    refine kind_if (fun e => ?_) (fun n16 => ?_)
    · have z : m = 16 := by omega
      subst z
      exact k
    exact absurd hm (by omega)
theorem scThird : FnScope ["_law_at", "_law_worth_here", "_law_named"] ["_law_at", "_law_worth_here", "_law_named"] (defScope (top 71)) := ⟨rfl, rfl, rfl, by decide +kernel, rfl, by decide +kernel, by decide +kernel⟩
theorem okThird (F : FnP K "_law_third_kind" (top 71) f fd) (T : KT K mg W "index" nmI cs fi fds) : FnOk P w K mg base CX0 3 f fd ["_law_at", "_law_worth_here", "_law_named"] (spKind "index" cs 0 22) := by
  refine F.ok scThird (fun vs H Q E h => ?_) (fun cdv A outer s H vs Q E hr h => ?_)
  · obtain ⟨m, v, b, rfl, _⟩ := h
    rfl
  · obtain ⟨m, v, b, rfl, hm, k⟩ := h
    have r0 := T.row 0 "InvalidPoints" rfl
    have r1 := T.row 1 "InvalidPaces" rfl
    have r2 := T.row 2 "InvalidTacks" rfl
    have r3 := T.row 3 "InvalidHours" rfl
    have r4 := T.row 4 "InvalidPlaces" rfl
    have r5 := T.row 5 "InvalidCourse" rfl
    have r6 := T.row 6 "InvalidSails" rfl
    have r7 := T.row 7 "InvalidIsles" rfl
    have r8 := T.row 8 "InvalidRoute" rfl
    have r9 := T.row 9 "InvalidHeights" rfl
    have r10 := T.row 10 "InvalidMarks" rfl
    have r11 := T.row 11 "InvalidGates" rfl
    have r12 := T.row 12 "InvalidCrossing" rfl
    have r13 := T.row 13 "InvalidShores" rfl
    have r14 := T.row 14 "InvalidStarters" rfl
    have r15 := T.row 15 "InvalidMovers" rfl
    have r16 := T.row 16 "InvalidFlight" rfl
    have r17 := T.row 17 "InvalidFigures" rfl
    have r18 := T.row 18 "InvalidNotes" rfl
    have r19 := T.row 19 "InvalidTrips" rfl
    have r20 := T.row 20 "InUse" rfl
    have r21 := T.row 21 "Broken" rfl
    refine ⟨_, PSs.nox (
      pss_cons (ps_if (pt_cmpR op_eq (pv 0) pe_int (nomark _)) (pss_one (ps_ret (pe_ifExp (pt_val (pv 2)) (pe_mkK (Kls.toOk T.isf r0) hr rfl r0.gl (pv 1)) (pe_mkP (Kls.toOk T.isf r0) hr rfl r0.gl (pv 1))))) pss_nil) (
      pss_cons (ps_if (pt_cmpR op_eq (pv 0) pe_int (nomark _)) (pss_one (ps_ret (pe_ifExp (pt_val (pv 2)) (pe_mkK (Kls.toOk T.isf r1) hr rfl r1.gl (pv 1)) (pe_mkP (Kls.toOk T.isf r1) hr rfl r1.gl (pv 1))))) pss_nil) (
      pss_cons (ps_if (pt_cmpR op_eq (pv 0) pe_int (nomark _)) (pss_one (ps_ret (pe_ifExp (pt_val (pv 2)) (pe_mkK (Kls.toOk T.isf r2) hr rfl r2.gl (pv 1)) (pe_mkP (Kls.toOk T.isf r2) hr rfl r2.gl (pv 1))))) pss_nil) (
      pss_cons (ps_if (pt_cmpR op_eq (pv 0) pe_int (nomark _)) (pss_one (ps_ret (pe_ifExp (pt_val (pv 2)) (pe_mkK (Kls.toOk T.isf r3) hr rfl r3.gl (pv 1)) (pe_mkP (Kls.toOk T.isf r3) hr rfl r3.gl (pv 1))))) pss_nil) (
      pss_cons (ps_if (pt_cmpR op_eq (pv 0) pe_int (nomark _)) (pss_one (ps_ret (pe_ifExp (pt_val (pv 2)) (pe_mkK (Kls.toOk T.isf r4) hr rfl r4.gl (pv 1)) (pe_mkP (Kls.toOk T.isf r4) hr rfl r4.gl (pv 1))))) pss_nil) (
      pss_cons (ps_if (pt_cmpR op_eq (pv 0) pe_int (nomark _)) (pss_one (ps_ret (pe_ifExp (pt_val (pv 2)) (pe_mkK (Kls.toOk T.isf r5) hr rfl r5.gl (pv 1)) (pe_mkP (Kls.toOk T.isf r5) hr rfl r5.gl (pv 1))))) pss_nil) (
      pss_cons (ps_if (pt_cmpR op_eq (pv 0) pe_int (nomark _)) (pss_one (ps_ret (pe_ifExp (pt_val (pv 2)) (pe_mkK (Kls.toOk T.isf r6) hr rfl r6.gl (pv 1)) (pe_mkP (Kls.toOk T.isf r6) hr rfl r6.gl (pv 1))))) pss_nil) (
      pss_cons (ps_if (pt_cmpR op_eq (pv 0) pe_int (nomark _)) (pss_one (ps_ret (pe_ifExp (pt_val (pv 2)) (pe_mkK (Kls.toOk T.isf r7) hr rfl r7.gl (pv 1)) (pe_mkP (Kls.toOk T.isf r7) hr rfl r7.gl (pv 1))))) pss_nil) (
      pss_cons (ps_if (pt_cmpR op_eq (pv 0) pe_int (nomark _)) (pss_one (ps_ret (pe_ifExp (pt_val (pv 2)) (pe_mkK (Kls.toOk T.isf r8) hr rfl r8.gl (pv 1)) (pe_mkP (Kls.toOk T.isf r8) hr rfl r8.gl (pv 1))))) pss_nil) (
      pss_cons (ps_if (pt_cmpR op_eq (pv 0) pe_int (nomark _)) (pss_one (ps_ret (pe_ifExp (pt_val (pv 2)) (pe_mkK (Kls.toOk T.isf r9) hr rfl r9.gl (pv 1)) (pe_mkP (Kls.toOk T.isf r9) hr rfl r9.gl (pv 1))))) pss_nil) (
      pss_cons (ps_if (pt_cmpR op_eq (pv 0) pe_int (nomark _)) (pss_one (ps_ret (pe_ifExp (pt_val (pv 2)) (pe_mkK (Kls.toOk T.isf r10) hr rfl r10.gl (pv 1)) (pe_mkP (Kls.toOk T.isf r10) hr rfl r10.gl (pv 1))))) pss_nil) (
      pss_cons (ps_if (pt_cmpR op_eq (pv 0) pe_int (nomark _)) (pss_one (ps_ret (pe_ifExp (pt_val (pv 2)) (pe_mkK (Kls.toOk T.isf r11) hr rfl r11.gl (pv 1)) (pe_mkP (Kls.toOk T.isf r11) hr rfl r11.gl (pv 1))))) pss_nil) (
      pss_cons (ps_if (pt_cmpR op_eq (pv 0) pe_int (nomark _)) (pss_one (ps_ret (pe_ifExp (pt_val (pv 2)) (pe_mkK (Kls.toOk T.isf r12) hr rfl r12.gl (pv 1)) (pe_mkP (Kls.toOk T.isf r12) hr rfl r12.gl (pv 1))))) pss_nil) (
      pss_cons (ps_if (pt_cmpR op_eq (pv 0) pe_int (nomark _)) (pss_one (ps_ret (pe_ifExp (pt_val (pv 2)) (pe_mkK (Kls.toOk T.isf r13) hr rfl r13.gl (pv 1)) (pe_mkP (Kls.toOk T.isf r13) hr rfl r13.gl (pv 1))))) pss_nil) (
      pss_cons (ps_if (pt_cmpR op_eq (pv 0) pe_int (nomark _)) (pss_one (ps_ret (pe_ifExp (pt_val (pv 2)) (pe_mkK (Kls.toOk T.isf r14) hr rfl r14.gl (pv 1)) (pe_mkP (Kls.toOk T.isf r14) hr rfl r14.gl (pv 1))))) pss_nil) (
      pss_cons (ps_if (pt_cmpR op_eq (pv 0) pe_int (nomark _)) (pss_one (ps_ret (pe_ifExp (pt_val (pv 2)) (pe_mkK (Kls.toOk T.isf r15) hr rfl r15.gl (pv 1)) (pe_mkP (Kls.toOk T.isf r15) hr rfl r15.gl (pv 1))))) pss_nil) (
      pss_cons (ps_if (pt_cmpR op_eq (pv 0) pe_int (nomark _)) (pss_one (ps_ret (pe_ifExp (pt_val (pv 2)) (pe_mkK (Kls.toOk T.isf r16) hr rfl r16.gl (pv 1)) (pe_mkP (Kls.toOk T.isf r16) hr rfl r16.gl (pv 1))))) pss_nil) (
      pss_cons (ps_if (pt_cmpR op_eq (pv 0) pe_int (nomark _)) (pss_one (ps_ret (pe_ifExp (pt_val (pv 2)) (pe_mkK (Kls.toOk T.isf r17) hr rfl r17.gl (pv 1)) (pe_mkP (Kls.toOk T.isf r17) hr rfl r17.gl (pv 1))))) pss_nil) (
      pss_cons (ps_if (pt_cmpR op_eq (pv 0) pe_int (nomark _)) (pss_one (ps_ret (pe_ifExp (pt_val (pv 2)) (pe_mkK (Kls.toOk T.isf r18) hr rfl r18.gl (pv 1)) (pe_mkP (Kls.toOk T.isf r18) hr rfl r18.gl (pv 1))))) pss_nil) (
      pss_cons (ps_if (pt_cmpR op_eq (pv 0) pe_int (nomark _)) (pss_one (ps_ret (pe_ifExp (pt_val (pv 2)) (pe_mkK (Kls.toOk T.isf r19) hr rfl r19.gl (pv 1)) (pe_mkP (Kls.toOk T.isf r19) hr rfl r19.gl (pv 1))))) pss_nil) (
      pss_cons (ps_if (pt_cmpR op_eq (pv 0) pe_int (nomark _)) (pss_one (ps_ret (pe_ifExp (pt_val (pv 2)) (pe_mkK (Kls.toOk T.isf r20) hr rfl r20.gl (pv 1)) (pe_mkP (Kls.toOk T.isf r20) hr rfl r20.gl (pv 1))))) pss_nil) (
      pss_cons (ps_if (pt_cmpR op_eq (pv 0) pe_int (nomark _)) (pss_one (ps_ret (pe_ifExp (pt_val (pv 2)) (pe_mkK (Kls.toOk T.isf r21) hr rfl r21.gl (pv 1)) (pe_mkP (Kls.toOk T.isf r21) hr rfl r21.gl (pv 1))))) pss_nil) (
      pss_one (ps_ret pe_non)))))))))))))))))))))))), ?_⟩
    refine kind_if (fun e => ?_) (fun n0 => ?_)
    · have z : m = 0 := by omega
      subst z
      exact k
    refine kind_if (fun e => ?_) (fun n1 => ?_)
    · have z : m = 1 := by omega
      subst z
      exact k
    refine kind_if (fun e => ?_) (fun n2 => ?_)
    · have z : m = 2 := by omega
      subst z
      exact k
    refine kind_if (fun e => ?_) (fun n3 => ?_)
    · have z : m = 3 := by omega
      subst z
      exact k
    refine kind_if (fun e => ?_) (fun n4 => ?_)
    · have z : m = 4 := by omega
      subst z
      exact k
    refine kind_if (fun e => ?_) (fun n5 => ?_)
    · have z : m = 5 := by omega
      subst z
      exact k
    refine kind_if (fun e => ?_) (fun n6 => ?_)
    · have z : m = 6 := by omega
      subst z
      exact k
    refine kind_if (fun e => ?_) (fun n7 => ?_)
    · have z : m = 7 := by omega
      subst z
      exact k
    refine kind_if (fun e => ?_) (fun n8 => ?_)
    · have z : m = 8 := by omega
      subst z
      exact k
    refine kind_if (fun e => ?_) (fun n9 => ?_)
    · have z : m = 9 := by omega
      subst z
      exact k
    refine kind_if (fun e => ?_) (fun n10 => ?_)
    · have z : m = 10 := by omega
      subst z
      exact k
    refine kind_if (fun e => ?_) (fun n11 => ?_)
    · have z : m = 11 := by omega
      subst z
      exact k
    refine kind_if (fun e => ?_) (fun n12 => ?_)
    · have z : m = 12 := by omega
      subst z
      exact k
    refine kind_if (fun e => ?_) (fun n13 => ?_)
    · have z : m = 13 := by omega
      subst z
      exact k
    refine kind_if (fun e => ?_) (fun n14 => ?_)
    · have z : m = 14 := by omega
      subst z
      exact k
    refine kind_if (fun e => ?_) (fun n15 => ?_)
    · have z : m = 15 := by omega
      subst z
      exact k
    refine kind_if (fun e => ?_) (fun n16 => ?_)
    · have z : m = 16 := by omega
      subst z
      exact k
    refine kind_if (fun e => ?_) (fun n17 => ?_)
    · have z : m = 17 := by omega
      subst z
      exact k
    refine kind_if (fun e => ?_) (fun n18 => ?_)
    · have z : m = 18 := by omega
      subst z
      exact k
    refine kind_if (fun e => ?_) (fun n19 => ?_)
    · have z : m = 19 := by omega
      subst z
      exact k
    refine kind_if (fun e => ?_) (fun n20 => ?_)
    · have z : m = 20 := by omega
      subst z
      exact k
    refine kind_if (fun e => ?_) (fun n21 => ?_)
    · have z : m = 21 := by omega
      subst z
      exact k
    exact absurd hm (by omega)
end
end K1
namespace K1
open PySem PySem.Spec PyProof.Rows L2
/-! ### isinstance of one error and many classes -/
def tIsAll (K : PySem.W.Frag) (Ds : List Addr) : TA := fun σ H Q => ∃ (a C : Addr) (fs : List (Str × V)) (f : Addr → Bool), σ[0]? = some (some (.ref a)) ∧ ExcC K C ∧ ErrAt H a C fs ∧ (∀ D ∈ Ds, PySem.W.kitOne K (.ref C) (.ref D) = some (f D)) ∧ Q (Ds.map fun D => .bl (f D)) H
theorem pa_isN {X : Cx} : PA X [] (tIsAll X.K []) := by
  refine ⟨fun pos pins s σ H Q I h => ?_⟩
  obtain ⟨a, C, fs, f, hσ, E, er, hk, q⟩ := h
  exact pa_nil.run pos pins s σ H Q I q
theorem pa_isC {X : Cx} {x : Str} {D : Addr} {Ds : List Addr} {es : List Expr} {p1 p2 p3 p4 : Pos} (hm : X.mg x = some (.ref D)) (hr : PA X es (tIsAll X.K Ds)) (hi : X.mg "isinstance" = none) (hg : Gl X x := by rfl) (hg2 : Gl X "isinstance" := by rfl)
    (hN : X.N[0]? = some (PySem.Str.ofString "_law_e") := by rfl) (hv : Vis X.env.scope "_law_e" := by exact Or.inl rfl) (hd : (x == ("__debug__" : Str)) = false := by decide) :
    PA X (.Call (.Name "isinstance" p1) [.Name "_law_e" p2, .Name x p3] [] p4 :: es) (tIsAll X.K (D :: Ds)) := by
  have h1 := pa_cons (pe_callB (p := p1) (pos := p4) call_isErr hg2 hi (by decide +kernel) (pa_cons (pe_var (pos := p2) hN hv) (pa_cons (pe_glob (pos := p3) (v := .ref D) hg hm rfl hd) pa_nil))) hr
  refine ⟨fun pos pins s σ H Q I h => h1.run pos pins s σ H Q I ?_⟩
  obtain ⟨a, C, fs, f, hσ, E, er, hk, q⟩ := h
  exact ⟨_, hσ, a, C, fs, .ref D, .ref D, f D, rfl, E, er, fun u r => r, hk D List.mem_cons_self, a, C, fs, f, hσ, E, er, fun D' m => hk D' (List.mem_cons_of_mem _ m), q⟩
def csL (cs : Nat → Addr) (lo many : Nat) : List Addr := (List.range many).map fun i => cs (lo + i)
def spIs (K : PySem.W.Frag) (Ds : List Addr) : Sp := fun vs H Q _ => ∃ (a C : Addr) (fs : List (Str × V)) (f : Addr → Bool), vs = [.ref a] ∧ ExcC K C ∧ ErrAt H a C fs ∧ (∀ D ∈ Ds, PySem.W.kitOne K (.ref C) (.ref D) = some (f D)) ∧
  ∀ p, H p = none → Q (.ref p) (upd H p (.lst (Ds.map fun D => .bl (f D))))
/-- all classes by their names: 34 with given, 22 with index, 4 bare ones -/
structure All (K : PySem.W.Frag) (mg : Str → Option Value) (W : Addr) (cs fi : Nat → Addr) (fds : Nat → FuncData) : Prop where
  G : KT K mg W "given" nmG cs fi fds
  I : KT K mg W "index" nmI (fun i => cs (34 + i)) (fun i => fi (34 + i)) (fun i => fds (34 + i))
  B : ∀ i x, nmB[i]? = some x → mg x = some (.ref (cs (56 + i))) ∧ ErrC K (.ref W :: veT) (cs (56 + i)) ∧ PySem.W.excIn K (cs (56 + i)) He.veBase "ValueError.__new__" = true
  er : ∀ i, i < 60 → ErrC K (.ref W :: veT) (cs i)
  gW : mg "WindError" = some (.ref W)
  eW : ErrC K veT W
  xW : PySem.W.excIn K W He.veBase "ValueError.__new__" = true
  inj : ∀ i j, i < 60 → j < 60 → cs i = cs j → i = j
  neW : ∀ i, i < 60 → cs i ≠ W
  N : Nm mg
  ve : mg "ValueError" = none
  xc : mg "Exception" = none
  lk : mg "LookupError" = none
  ar : mg "ArithmeticError" = none
  rt : mg "RuntimeError" = none
  at_ : mg "AttributeError" = none
section
variable {P : Program} {w : World} {K : PySem.W.Frag} {mg : Str → Option Value} {base : Heap} {f fA fB : Addr} {fd fdA fdB : FuncData} {W : Addr} {cs fi : Nat → Addr} {fds : Nat → FuncData}
theorem bindsE {x : Str} {st : Stmt} (F : FunD K x x (defArgs st) (defBody st) (defScope st) [] [] f fd) (h : ∀ (kV doc pm : Value) (an : Option Addr) (cdv ct : Value) (us : List Value), us.length = (["_law_e"] : List Str).length → bindArgs (PySem.W.fnOf x x (defArgs st) (defBody st) (defScope st) .none kV doc pm an cdv ct) ⟨us, []⟩ = pure ((["_law_e"] : List Str).zip us)) : Binds K fd ["_law_e"] [] := F.bindsN h
theorem scGivenC : FnScope ["_law_e"] ["_law_e"] (defScope (top 73)) := ⟨rfl, rfl, rfl, by decide +kernel, rfl, by decide +kernel, by decide +kernel⟩
theorem okGivenC (F : FnP K "_law_given_classes" (top 73) f fd) (T : All K mg W cs fi fds) : FnOk P w K mg base CX0 1 f fd ["_law_e"] (spIs K (csL cs 0 34)) := by
  refine F.ok scGivenC (fun vs H Q E h => ?_) (fun cdv A outer s H vs Q E hr h => ?_)
  · obtain ⟨a, C, fs, g, rfl, _⟩ := h
    rfl
  · obtain ⟨a, C, fs, g, rfl, ec, er, hk, k⟩ := h
    have g0 : mg "InvalidFraction" = some (.ref (cs 0)) := (T.G.row 0 _ rfl).gl
    have g1 : mg "InvalidTime" = some (.ref (cs 1)) := (T.G.row 1 _ rfl).gl
    have g2 : mg "InvalidPoint" = some (.ref (cs 2)) := (T.G.row 2 _ rfl).gl
    have g3 : mg "InvalidDirection" = some (.ref (cs 3)) := (T.G.row 3 _ rfl).gl
    have g4 : mg "InvalidSide" = some (.ref (cs 4)) := (T.G.row 4 _ rfl).gl
    have g5 : mg "InvalidNormal" = some (.ref (cs 5)) := (T.G.row 5 _ rfl).gl
    have g6 : mg "InvalidPolygon" = some (.ref (cs 6)) := (T.G.row 6 _ rfl).gl
    have g7 : mg "InvalidFigure" = some (.ref (cs 7)) := (T.G.row 7 _ rfl).gl
    have g8 : mg "InvalidWater" = some (.ref (cs 8)) := (T.G.row 8 _ rfl).gl
    have g9 : mg "InvalidWind" = some (.ref (cs 9)) := (T.G.row 9 _ rfl).gl
    have g10 : mg "InvalidArc" = some (.ref (cs 10)) := (T.G.row 10 _ rfl).gl
    have g11 : mg "InvalidNote" = some (.ref (cs 11)) := (T.G.row 11 _ rfl).gl
    have g12 : mg "InvalidWeather" = some (.ref (cs 12)) := (T.G.row 12 _ rfl).gl
    have g13 : mg "InvalidNumber" = some (.ref (cs 13)) := (T.G.row 13 _ rfl).gl
    have g14 : mg "InvalidIndex" = some (.ref (cs 14)) := (T.G.row 14 _ rfl).gl
    have g15 : mg "InvalidOrder" = some (.ref (cs 15)) := (T.G.row 15 _ rfl).gl
    have g16 : mg "InvalidChannel" = some (.ref (cs 16)) := (T.G.row 16 _ rfl).gl
    have g17 : mg "InvalidForm" = some (.ref (cs 17)) := (T.G.row 17 _ rfl).gl
    have g18 : mg "InvalidWeights" = some (.ref (cs 18)) := (T.G.row 18 _ rfl).gl
    have g19 : mg "InvalidMover" = some (.ref (cs 19)) := (T.G.row 19 _ rfl).gl
    have g20 : mg "InvalidStarter" = some (.ref (cs 20)) := (T.G.row 20 _ rfl).gl
    have g21 : mg "InvalidName" = some (.ref (cs 21)) := (T.G.row 21 _ rfl).gl
    have g22 : mg "InvalidWish" = some (.ref (cs 22)) := (T.G.row 22 _ rfl).gl
    have g23 : mg "InvalidPhrase" = some (.ref (cs 23)) := (T.G.row 23 _ rfl).gl
    have g24 : mg "InIsle" = some (.ref (cs 24)) := (T.G.row 24 _ rfl).gl
    have g25 : mg "OutOfChannel" = some (.ref (cs 25)) := (T.G.row 25 _ rfl).gl
    have g26 : mg "NotAlong" = some (.ref (cs 26)) := (T.G.row 26 _ rfl).gl
    have g27 : mg "OffWater" = some (.ref (cs 27)) := (T.G.row 27 _ rfl).gl
    have g28 : mg "NoBearing" = some (.ref (cs 28)) := (T.G.row 28 _ rfl).gl
    have g29 : mg "OutOfPolygon" = some (.ref (cs 29)) := (T.G.row 29 _ rfl).gl
    have g30 : mg "NotAWorkshop" = some (.ref (cs 30)) := (T.G.row 30 _ rfl).gl
    have g31 : mg "TooMany" = some (.ref (cs 31)) := (T.G.row 31 _ rfl).gl
    have g32 : mg "UnknownName" = some (.ref (cs 32)) := (T.G.row 32 _ rfl).gl
    have g33 : mg "Same" = some (.ref (cs 33)) := (T.G.row 33 _ rfl).gl
    refine ⟨_, PSs.nox (pss_one (ps_ret (pe_lst (pa_isC g0 (pa_isC g1 (pa_isC g2 (pa_isC g3 (pa_isC g4 (pa_isC g5 (pa_isC g6 (pa_isC g7 (pa_isC g8 (pa_isC g9 (pa_isC g10 (pa_isC g11 (pa_isC g12 (pa_isC g13 (pa_isC g14 (pa_isC g15 (pa_isC g16 (pa_isC g17 (pa_isC g18 (pa_isC g19 (pa_isC g20 (pa_isC g21 (pa_isC g22 (pa_isC g23 (pa_isC g24 (pa_isC g25 (pa_isC g26 (pa_isC g27 (pa_isC g28 (pa_isC g29 (pa_isC g30 (pa_isC g31 (pa_isC g32 (pa_isC g33 (pa_isN) T.N.isi) T.N.isi) T.N.isi) T.N.isi) T.N.isi) T.N.isi) T.N.isi) T.N.isi) T.N.isi) T.N.isi) T.N.isi) T.N.isi) T.N.isi) T.N.isi) T.N.isi) T.N.isi) T.N.isi) T.N.isi) T.N.isi) T.N.isi) T.N.isi) T.N.isi) T.N.isi) T.N.isi) T.N.isi) T.N.isi) T.N.isi) T.N.isi) T.N.isi) T.N.isi) T.N.isi) T.N.isi) T.N.isi) T.N.isi)))), ?_⟩
    exact ⟨a, C, fs, g, rfl, ec, er, hk, (by show 34 ≤ sizeLine; decide), fun p hp => k p hp⟩
theorem scOtherC : FnScope ["_law_e"] ["_law_e"] (defScope (top 74)) := ⟨rfl, rfl, rfl, by decide +kernel, rfl, by decide +kernel, by decide +kernel⟩
theorem okOtherC (F : FnP K "_law_other_classes" (top 74) f fd) (T : All K mg W cs fi fds) : FnOk P w K mg base CX0 1 f fd ["_law_e"] (spIs K (csL cs 34 26)) := by
  refine F.ok scOtherC (fun vs H Q E h => ?_) (fun cdv A outer s H vs Q E hr h => ?_)
  · obtain ⟨a, C, fs, g, rfl, _⟩ := h
    rfl
  · obtain ⟨a, C, fs, g, rfl, ec, er, hk, k⟩ := h
    have g0 : mg "InvalidPoints" = some (.ref (cs (34 + 0))) := (T.I.row 0 _ rfl).gl
    have g1 : mg "InvalidPaces" = some (.ref (cs (34 + 1))) := (T.I.row 1 _ rfl).gl
    have g2 : mg "InvalidTacks" = some (.ref (cs (34 + 2))) := (T.I.row 2 _ rfl).gl
    have g3 : mg "InvalidHours" = some (.ref (cs (34 + 3))) := (T.I.row 3 _ rfl).gl
    have g4 : mg "InvalidPlaces" = some (.ref (cs (34 + 4))) := (T.I.row 4 _ rfl).gl
    have g5 : mg "InvalidCourse" = some (.ref (cs (34 + 5))) := (T.I.row 5 _ rfl).gl
    have g6 : mg "InvalidSails" = some (.ref (cs (34 + 6))) := (T.I.row 6 _ rfl).gl
    have g7 : mg "InvalidIsles" = some (.ref (cs (34 + 7))) := (T.I.row 7 _ rfl).gl
    have g8 : mg "InvalidRoute" = some (.ref (cs (34 + 8))) := (T.I.row 8 _ rfl).gl
    have g9 : mg "InvalidHeights" = some (.ref (cs (34 + 9))) := (T.I.row 9 _ rfl).gl
    have g10 : mg "InvalidMarks" = some (.ref (cs (34 + 10))) := (T.I.row 10 _ rfl).gl
    have g11 : mg "InvalidGates" = some (.ref (cs (34 + 11))) := (T.I.row 11 _ rfl).gl
    have g12 : mg "InvalidCrossing" = some (.ref (cs (34 + 12))) := (T.I.row 12 _ rfl).gl
    have g13 : mg "InvalidShores" = some (.ref (cs (34 + 13))) := (T.I.row 13 _ rfl).gl
    have g14 : mg "InvalidStarters" = some (.ref (cs (34 + 14))) := (T.I.row 14 _ rfl).gl
    have g15 : mg "InvalidMovers" = some (.ref (cs (34 + 15))) := (T.I.row 15 _ rfl).gl
    have g16 : mg "InvalidFlight" = some (.ref (cs (34 + 16))) := (T.I.row 16 _ rfl).gl
    have g17 : mg "InvalidFigures" = some (.ref (cs (34 + 17))) := (T.I.row 17 _ rfl).gl
    have g18 : mg "InvalidNotes" = some (.ref (cs (34 + 18))) := (T.I.row 18 _ rfl).gl
    have g19 : mg "InvalidTrips" = some (.ref (cs (34 + 19))) := (T.I.row 19 _ rfl).gl
    have g20 : mg "InUse" = some (.ref (cs (34 + 20))) := (T.I.row 20 _ rfl).gl
    have g21 : mg "Broken" = some (.ref (cs (34 + 21))) := (T.I.row 21 _ rfl).gl
    have g22 : mg "NoArea" = some (.ref (cs (56 + 0))) := (T.B 0 _ rfl).1
    have g23 : mg "NoFigureFits" = some (.ref (cs (56 + 1))) := (T.B 1 _ rfl).1
    have g24 : mg "NotSure" = some (.ref (cs (56 + 2))) := (T.B 2 _ rfl).1
    have g25 : mg "NothingToUndo" = some (.ref (cs (56 + 3))) := (T.B 3 _ rfl).1
    refine ⟨_, PSs.nox (pss_one (ps_ret (pe_lst (pa_isC g0 (pa_isC g1 (pa_isC g2 (pa_isC g3 (pa_isC g4 (pa_isC g5 (pa_isC g6 (pa_isC g7 (pa_isC g8 (pa_isC g9 (pa_isC g10 (pa_isC g11 (pa_isC g12 (pa_isC g13 (pa_isC g14 (pa_isC g15 (pa_isC g16 (pa_isC g17 (pa_isC g18 (pa_isC g19 (pa_isC g20 (pa_isC g21 (pa_isC g22 (pa_isC g23 (pa_isC g24 (pa_isC g25 (pa_isN) T.N.isi) T.N.isi) T.N.isi) T.N.isi) T.N.isi) T.N.isi) T.N.isi) T.N.isi) T.N.isi) T.N.isi) T.N.isi) T.N.isi) T.N.isi) T.N.isi) T.N.isi) T.N.isi) T.N.isi) T.N.isi) T.N.isi) T.N.isi) T.N.isi) T.N.isi) T.N.isi) T.N.isi) T.N.isi) T.N.isi)))), ?_⟩
    exact ⟨a, C, fs, g, rfl, ec, er, hk, (by show 26 ≤ sizeLine; decide), fun p hp => k p hp⟩
end
end K1
namespace K1
open PySem PySem.Spec PyProof.Rows L2
theorem has_ref {C D W : Addr} (n : D ≠ W) : (Value.ref C :: .ref W :: veT).contains (.ref D) = decide (D = C) := by
  have e1 : ((Value.ref D) == (Value.ref W)) = false := by
    refine Bool.eq_false_iff.mpr fun z => n ?_
    exact Value.ref.inj (eq_of_beq z)
  rw [List.contains_cons, List.contains_cons, e1, Bool.false_or, show veT.contains (Value.ref D) = false from rfl, Bool.or_false]
  by_cases e : D = C
  · subst e
    simp
  · rw [decide_eq_false e]
    refine Bool.eq_false_iff.mpr fun z => e ?_
    exact Value.ref.inj (eq_of_beq z)
theorem has_type {W : Addr} (T : String) : (Value.ref W :: veT).contains (.type T) = veT.contains (.type T) := by
  rw [List.contains_cons]
  rfl
/-- the answers of one error of the class number m -/
theorem csL_ans {cs : Nat → Addr} {W : Addr} {K : PySem.W.Frag} (er : ∀ i, i < 60 → ErrC K (.ref W :: veT) (cs i)) (neW : ∀ i, i < 60 → cs i ≠ W) {m lo many : Nat} (hm : m < 60) (hl : lo + many ≤ 60) :
    ∀ D ∈ csL cs lo many, PySem.W.kitOne K (.ref (cs m)) (.ref D) = some (decide (D = cs m)) := by
  intro D hD
  obtain ⟨i, hi, rfl⟩ := List.mem_map.mp hD
  have hi2 : lo + i < 60 := by
    have := List.mem_range.mp hi
    omega
  rw [(er m hm).kit (er _ hi2), has_ref (neW _ hi2)]
def tick (m lo many : Nat) : List Bool := (List.range many).map fun i => decide (lo + i = m)
theorem csL_tick {cs : Nat → Addr} (inj : ∀ i j, i < 60 → j < 60 → cs i = cs j → i = j) {m lo many : Nat} (hm : m < 60) (hl : lo + many ≤ 60) :
    ((csL cs lo many).map fun D => V.bl (decide (D = cs m))) = (tick m lo many).map V.bl := by
  unfold csL tick
  rw [List.map_map, List.map_map]
  refine List.map_congr_left fun i hi => ?_
  have h1 := List.mem_range.mp hi
  show V.bl (decide (cs (lo + i) = cs m)) = V.bl (decide (lo + i = m))
  by_cases e : lo + i = m
  · rw [decide_eq_true e, decide_eq_true (by rw [e])]
  · rw [decide_eq_false e, decide_eq_false fun z => e (inj _ _ (by omega) hm z)]
theorem tick_all : ∀ m : _root_.Fin 60, ((tick m 0 34 ++ tick m 34 26).countP fun b => b == true) = 1 ∧ (tick m 0 34 ++ tick m 34 26)[(m : Nat)]? = some true := by decide +kernel
def spAlone (cs : Nat → Addr) : Sp := fun vs H Q _ => ∃ (a m : Nat) (fs : List (Str × V)), vs = [.ref a, .int m] ∧ m < 60 ∧ ErrAt H a (cs m) fs ∧ ∀ H', Same H H' → Q (.bl true) H'
theorem errSame {H H' : Hp} {a C : Addr} {fs : List (Str × V)} (s : Same H H') (h : ErrAt H a C fs) : ErrAt H' a C fs := by
  rcases h with ⟨h, e⟩ | ⟨d, n, h, hd⟩
  · exact .inl ⟨s _ _ h, e⟩
  · exact .inr ⟨d, n, s _ _ h, s _ _ hd⟩
section
variable {P : Program} {w : World} {K : PySem.W.Frag} {mg : Str → Option Value} {base : Heap} {f fA fB : Addr} {fd fdA fdB : FuncData} {W : Addr} {cs fi : Nat → Addr} {fds : Nat → FuncData}
theorem scAlone : FnScope ["_law_e", "_law_at", "_law_told"] ["_law_e", "_law_at"] (defScope (top 75)) := ⟨rfl, rfl, rfl, by decide +kernel, rfl, by decide +kernel, by decide +kernel⟩
theorem bindsGivenC (F : FnP K "_law_given_classes" (top 73) f fd) : Binds K fd ["_law_e"] [] := F.bindsN fun _ _ _ _ _ _ us hl => match us, hl with | [_], _ => rfl
theorem bindsOtherC (F : FnP K "_law_other_classes" (top 74) f fd) : Binds K fd ["_law_e"] [] := F.bindsN fun _ _ _ _ _ _ us hl => match us, hl with | [_], _ => rfl
theorem bindsAlone (F : FnP K "_law_alone" (top 75) f fd) : Binds K fd ["_law_e", "_law_at"] [] := F.bindsN fun _ _ _ _ _ _ us hl => match us, hl with | [_, _], _ => rfl
theorem okAlone (F : FnP K "_law_alone" (top 75) f fd) (T : All K mg W cs fi fds) (FA : FnP K "_law_given_classes" (top 73) fA fdA) (gA : mg "_law_given_classes" = some (.ref fA)) (FB : FnP K "_law_other_classes" (top 74) fB fdB) (gB : mg "_law_other_classes" = some (.ref fB)) :
    FnOk P w K mg base CX0 2 f fd ["_law_e", "_law_at"] (spAlone cs) := by
  have GA : FnOk P w K mg base CX0 1 fA fdA ["_law_e"] (spIs K (csL cs 0 34)) := okGivenC FA T
  have GB : FnOk P w K mg base CX0 1 fB fdB ["_law_e"] (spIs K (csL cs 34 26)) := okOtherC FB T
  refine F.ok scAlone (fun vs H Q E h => ?_) (fun cdv A outer s H vs Q E hr h => ?_)
  · obtain ⟨a, m, fs, rfl, _⟩ := h
    rfl
  · obtain ⟨a, m, fs, rfl, hm, er, k⟩ := h
    have ii := T.N.isi
    refine ⟨_, PSs.nox (pss_cons (ps_set (i := 2) scAlone.nd rfl (.inl rfl) (pe_op op_cat (pe_call GA hr rfl gA FA.kp (bindsGivenC FA) .nil pass0 (pa_cons (pv 0) pa_nil)) (pe_call GB hr rfl gB FB.kp (bindsOtherC FB) .nil pass0 (pa_cons (pv 0) pa_nil))))
      (pss_cons (ps_if (PW.pt (pw_or (pt_not (pt_val (pe_callB call_isErr (by rfl) ii (by decide +kernel) (pa_cons (pv 0) (pa_cons (pe_glob (v := .ref W) rfl T.gW rfl) pa_nil)))))
          (pw_or (pt_not (pt_val (pe_callB call_isErr (by rfl) ii (by decide +kernel) (pa_cons (pv 0) (pa_cons (pe_bltn (v := .ty "ValueError") (by rfl) T.ve (by decide +kernel) rfl) pa_nil)))))
          (pw_or1 (pt_not (pt_val (pe_callB call_isErr (by rfl) ii (by decide +kernel) (pa_cons (pv 0) (pa_cons (pe_bltn (v := .ty "Exception") (by rfl) T.xc (by decide +kernel) rfl) pa_nil)))))))))
        (pss_one (ps_ret pe_bl)) pss_nil)
      (pss_cons (ps_if (PW.pt (pw_or (pt_val (pe_callB call_isErr (by rfl) ii (by decide +kernel) (pa_cons (pv 0) (pa_cons (pe_bltn (v := .ty "LookupError") (by rfl) T.lk (by decide +kernel) rfl) pa_nil))))
          (pw_or (pt_val (pe_callB call_isErr (by rfl) ii (by decide +kernel) (pa_cons (pv 0) (pa_cons (pe_bltn (v := .ty "ArithmeticError") (by rfl) T.ar (by decide +kernel) rfl) pa_nil))))
          (pw_or1 (pt_val (pe_callB call_isErr (by rfl) ii (by decide +kernel) (pa_cons (pv 0) (pa_cons (pe_bltn (v := .ty "RuntimeError") (by rfl) T.rt (by decide +kernel) rfl) pa_nil))))))))
        (pss_one (ps_ret pe_bl)) pss_nil)
      (pss_one (ps_ret (pe_and (pe_not (pe_callB call_isErr (by rfl) ii (by decide +kernel) (pa_cons (pv 0) (pa_cons (pe_bltn (v := .ty "AttributeError") (by rfl) T.at_ (by decide +kernel) rfl) pa_nil))))
        (pe_and (pe_cmpR op_eq (pe_bm PySem.F.plainAttrs_list PySem.F.slot_list_count PySem.F.type_list_count mt_countB (pv 2) (pa_cons pe_bl pa_nil)) pe_int (nomark _))
        (pe_one (pe_cmpR op_isBl (pe_ix ix_list (pv 2) (pv 1) (fun _ _ => rfl)) pe_bl (nomark _)))))))))), ?_⟩
    have hC := T.er m hm
    have a1 := csL_ans T.er T.neW (m := m) (lo := 0) (many := 34) hm (by decide)
    have a2 := csL_ans T.er T.neW (m := m) (lo := 34) (many := 26) hm (by decide)
    have t1 := csL_tick T.inj (m := m) (lo := 0) (many := 34) hm (by decide)
    have t2 := csL_tick T.inj (m := m) (lo := 34) (many := 26) hm (by decide)
    refine ⟨_, rfl, a, cs m, fs, fun D => decide (D = cs m), rfl, hC.ec, er, a1, fun p1 h1 => ?_⟩
    have s1 := sameNew (o := .lst ((csL cs 0 34).map fun D => V.bl (decide (D = cs m)))) h1
    refine ⟨_, rfl, a, cs m, fs, fun D => decide (D = cs m), rfl, hC.ec, errSame s1 er, a2, fun p2 h2 => ?_⟩
    have s2 := s1.trans (sameNew (o := .lst ((csL cs 34 26).map fun D => V.bl (decide (D = cs m)))) h2)
    have z1 : ((csL cs 0 34).map fun D => V.bl (decide (D = cs m))).length = 34 := by rw [t1]; simp [tick]
    have z2 : ((csL cs 34 26).map fun D => V.bl (decide (D = cs m))).length = 26 := by rw [t2]; simp [tick]
    refine ⟨p1, p2, _, _, rfl, rfl, sameNew h2 _ _ upd_same, upd_same, Nat.le_trans (Nat.le_of_eq (congr (congrArg _ z1) z2)) (by decide), fun p3 h3 => ?_⟩
    have s3 := s2.trans (sameNew (o := .lst (((csL cs 0 34).map fun D => V.bl (decide (D = cs m))) ++ ((csL cs 34 26).map fun D => V.bl (decide (D = cs m))))) h3)
    have e3 := errSame s3 er
    have hl : ∃ bs : List Bool, (((csL cs 0 34).map fun D => V.bl (decide (D = cs m))) ++ ((csL cs 34 26).map fun D => V.bl (decide (D = cs m)))) = bs.map V.bl ∧ (bs.countP fun b => b == true) = 1 ∧ bs[m]? = some true := by
      refine ⟨tick m 0 34 ++ tick m 34 26, ?_, (tick_all ⟨m, hm⟩).1, (tick_all ⟨m, hm⟩).2⟩
      rw [t1, t2, List.map_append]
    obtain ⟨bs, eb, cb, ab⟩ := hl
    have gt : ∀ {T : String}, PySem.W.kitMeta T = true → PySem.W.kitOne K (.ref (cs m)) (.type T) = some (veT.contains (.type T)) := fun {T} q => by
      rw [hC.kitT q, has_type]
    have kW : PySem.W.kitOne K (.ref (cs m)) (.ref W) = some true := by
      rw [hC.kit T.eW]
      simp
    have kV : PySem.W.kitOne K (.ref (cs m)) (.type "ValueError") = some true := (gt (by decide +kernel)).trans (by decide +kernel)
    have kX : PySem.W.kitOne K (.ref (cs m)) (.type "Exception") = some true := (gt (by decide +kernel)).trans (by decide +kernel)
    have kL : PySem.W.kitOne K (.ref (cs m)) (.type "LookupError") = some false := (gt (by decide +kernel)).trans (by decide +kernel)
    have kA : PySem.W.kitOne K (.ref (cs m)) (.type "ArithmeticError") = some false := (gt (by decide +kernel)).trans (by decide +kernel)
    have kR : PySem.W.kitOne K (.ref (cs m)) (.type "RuntimeError") = some false := (gt (by decide +kernel)).trans (by decide +kernel)
    have kT : PySem.W.kitOne K (.ref (cs m)) (.type "AttributeError") = some false := (gt (by decide +kernel)).trans (by decide +kernel)
    have hT : ∀ {H0 : Hp}, SqL K (upd H0 p3 (.lst (((csL cs 0 34).map fun D => V.bl (decide (D = cs m))) ++ ((csL cs 34 26).map fun D => V.bl (decide (D = cs m)))))) p3 (bs.map V.bl) := fun {H0} => SqL.of (Eq.trans upd_same (by rw [eb]))
    have am : (bs.map V.bl)[m]? = some (V.bl true) := by rw [List.getElem?_map, ab]; rfl
    refine ⟨_, rfl, a, cs m, fs, _, _, true, rfl, hC.ec, e3, fun u r => r, kW, true, rfl, ?_⟩
    refine iteF ⟨_, rfl, a, cs m, fs, _, .type "ValueError", true, rfl, hC.ec, e3, fun u r => r, kV, true, rfl, ?_⟩
    refine iteF ⟨_, rfl, a, cs m, fs, _, .type "Exception", true, rfl, hC.ec, e3, fun u r => r, kX, true, rfl, ?_⟩
    refine iteF ?_
    refine ⟨_, rfl, a, cs m, fs, _, .type "LookupError", false, rfl, hC.ec, e3, fun u r => r, kL, false, rfl, ?_⟩
    refine iteF ⟨_, rfl, a, cs m, fs, _, .type "ArithmeticError", false, rfl, hC.ec, e3, fun u r => r, kA, false, rfl, ?_⟩
    refine iteF ⟨_, rfl, a, cs m, fs, _, .type "RuntimeError", false, rfl, hC.ec, e3, fun u r => r, kR, false, rfl, ?_⟩
    refine iteF ?_
    refine ⟨_, rfl, a, cs m, fs, _, .type "AttributeError", false, rfl, hC.ec, e3, fun u r => r, kT, false, rfl, true, rfl, ?_⟩
    refine iteT ⟨_, rfl, .inl ⟨rfl, _, hT⟩, p3, bs, true, rfl, rfl, hT, rfl, _, rfl, ?_⟩
    have ec : decide (V.int ((bs.countP fun b => b == true : Nat) : Int) = V.int 1) = true := by
      rw [cb]
      rfl
    show (if decide (V.int ((bs.countP fun b => b == true : Nat) : Int) = V.int 1) = true then _ else _)
    rw [ec]
    refine iteT ⟨_, rfl, _, rfl, p3, _, _, _, rfl, rfl, hT, atI_nat am, true, true, rfl, rfl, ?_⟩
    exact k _ s3
end
end K1
namespace K1
open PySem PySem.Spec PyProof.Rows L2
theorem lk_self (f : Str) (v : V) : List.lookup f [(f, v)] = some v := by simp [List.lookup]
theorem excH_same {H : Hp} {a d C : Addr} {f : Str} {v : V} (ha : H a = none) (hd : H d = none) : Same H (excH H a d C f v) := fun b o e => by
  unfold excH
  rw [upd_ne (ne_of_none e ha), upd_ne (ne_of_none e hd), upd_ne (ne_of_none e ha)]
  exact e
theorem excH_err {H : Hp} {a d C : Addr} {f : Str} {v : V} (n : d ≠ a) : ErrAt (excH H a d C f v) a C [(f, v)] := by
  refine .inr ⟨d, n, upd_same, ?_⟩
  unfold excH
  rw [upd_ne n, upd_same]
def spBare (cs : Nat → Addr) : Sp := fun vs H Q _ => ∃ m : Nat, vs = [.int m] ∧ m < 4 ∧ ∀ a H', Same H H' → ErrAt H' a (cs (56 + m)) [] → Q (.ref a) H'
section
variable {P : Program} {w : World} {K : PySem.W.Frag} {mg : Str → Option Value} {base : Heap} {f fA fB : Addr} {fd fdA fdB : FuncData} {W : Addr} {cs fi : Nat → Addr} {fds : Nat → FuncData}
theorem scBare : FnScope ["_law_at"] ["_law_at"] (defScope (top 72)) := ⟨rfl, rfl, rfl, by decide +kernel, rfl, by decide +kernel, by decide +kernel⟩
theorem okBare (F : FnP K "_law_bare_kind" (top 72) f fd) (T : All K mg W cs fi fds) : FnOk P w K mg base CX0 1 f fd ["_law_at"] (spBare cs) := by
  refine F.ok scBare (fun vs H Q E h => ?_) (fun cdv A outer s H vs Q E hr h => ?_)
  · obtain ⟨m, rfl, _⟩ := h
    rfl
  · obtain ⟨m, rfl, hm, k⟩ := h
    obtain ⟨g0, e0, x0⟩ := T.B 0 "NoArea" rfl
    obtain ⟨g1, e1, x1⟩ := T.B 1 "NoFigureFits" rfl
    obtain ⟨g2, e2, x2⟩ := T.B 2 "NotSure" rfl
    obtain ⟨g3, e3, x3⟩ := T.B 3 "NothingToUndo" rfl
    refine ⟨_, PSs.nox (pss_one (ps_ret (pe_ix ix_list (pe_lst (pa_cons (pe_mk0 PySem.F.excBase_ValueError x0 g0 e0.kp rfl) (pa_cons (pe_mk0 PySem.F.excBase_ValueError x1 g1 e1.kp rfl) (pa_cons (pe_mk0 PySem.F.excBase_ValueError x2 g2 e2.kp rfl) (pa_cons (pe_mk0 PySem.F.excBase_ValueError x3 g3 e3.kp rfl) pa_nil))))) (pv 0) (fun _ _ => rfl)))), ?_⟩
    intro a0 h0 a1 h1 a2 h2 a3 h3
    refine ⟨by show 4 ≤ sizeLine; decide, fun p hp => ?_⟩
    have C5 := sameNew (o := .lst [V.ref a0, V.ref a1, V.ref a2, V.ref a3]) hp
    have C4 := Same.trans (sameNew (o := exo a3 (cs (56 + 3)) none) h3) C5
    have C3 := Same.trans (sameNew (o := exo a2 (cs (56 + 2)) none) h2) C4
    have C2 := Same.trans (sameNew (o := exo a1 (cs (56 + 1)) none) h1) C3
    have C1 := Same.trans (sameNew (o := exo a0 (cs (56 + 0)) none) h0) C2
    match m, hm with
    | 0, _ => exact ⟨_, rfl, p, _, _, _, rfl, rfl, SqL.of upd_same, rfl, k a0 _ C1 (.inl ⟨C2 _ _ upd_same, rfl⟩)⟩
    | 1, _ => exact ⟨_, rfl, p, _, _, _, rfl, rfl, SqL.of upd_same, rfl, k a1 _ C1 (.inl ⟨C3 _ _ upd_same, rfl⟩)⟩
    | 2, _ => exact ⟨_, rfl, p, _, _, _, rfl, rfl, SqL.of upd_same, rfl, k a2 _ C1 (.inl ⟨C4 _ _ upd_same, rfl⟩)⟩
    | 3, _ => exact ⟨_, rfl, p, _, _, _, rfl, rfl, SqL.of upd_same, rfl, k a3 _ C1 (.inl ⟨C5 _ _ upd_same, rfl⟩)⟩
end
/-! ### each class keeps what it is given -/
def spEach : Sp := fun vs H Q _ => ∃ (p : Addr) (b : Bool), vs = [.ref p, .bl b] ∧ SrcAt H p ∧ ∀ H', But p H H' → SrcAt H' p → Q (.bl true) H'
section
variable {P : Program} {w : World} {K : PySem.W.Frag} {mg : Str → Option Value} {base : Heap} {f fW f1 f2 fA : Addr} {fd fdW fd1 fd2 fdA : FuncData} {W : Addr} {cs fi : Nat → Addr} {fds : Nat → FuncData}
theorem bindsKind {x : Str} {st : Stmt} (F : FunD K x x (defArgs st) (defBody st) (defScope st) [] [] f fd) (h : ∀ (kV doc pm : Value) (an : Option Addr) (cdv ct : Value) (us : List Value), us.length = 3 → bindArgs (PySem.W.fnOf x x (defArgs st) (defBody st) (defScope st) .none kV doc pm an cdv ct) ⟨us, []⟩ = pure ((["_law_at", "_law_worth_here", "_law_named"] : List Str).zip us)) :
    Binds K fd ["_law_at", "_law_worth_here", "_law_named"] [] := F.bindsN h
theorem scGR : FnScope ["_law_source_here", "_law_named", "_law_at", "_law_worth_here", "_law_kept", "_law_e"] ["_law_source_here", "_law_named"] (defScope (top 77)) := ⟨rfl, rfl, rfl, by decide +kernel, rfl, by decide +kernel, by decide +kernel⟩
theorem okGR (F : FnP K "_law_given_right" (top 77) f fd) (T : All K mg W cs fi fds)
    (GW : FnOk P w K mg base CX0 4 fW fdW ["_law_source_here"] (spWorth K)) (kW : PySem.W.keepIn K (.ref fW) = true) (gW : mg "_law_worth" = some (.ref fW)) (bW : Binds K fdW ["_law_source_here"] [])
    (G1 : FnOk P w K mg base CX0 3 f1 fd1 ["_law_at", "_law_worth_here", "_law_named"] (spKind "given" cs 0 17)) (k1 : PySem.W.keepIn K (.ref f1) = true) (g1 : mg "_law_first_kind" = some (.ref f1)) (b1 : Binds K fd1 ["_law_at", "_law_worth_here", "_law_named"] [])
    (G2 : FnOk P w K mg base CX0 3 f2 fd2 ["_law_at", "_law_worth_here", "_law_named"] (spKind "given" cs 17 17)) (k2 : PySem.W.keepIn K (.ref f2) = true) (g2 : mg "_law_second_kind" = some (.ref f2)) (b2 : Binds K fd2 ["_law_at", "_law_worth_here", "_law_named"] [])
    (GA : FnOk P w K mg base CX0 2 fA fdA ["_law_e", "_law_at"] (spAlone cs)) (kA : PySem.W.keepIn K (.ref fA) = true) (gA : mg "_law_alone" = some (.ref fA)) (bA : Binds K fdA ["_law_e", "_law_at"] []) :
    FnG P w K mg base CX0 5 f fd ["_law_source_here", "_law_named"] spEach := by
  refine fnG_of F scGR (fun vs H Q E h => ?_) (fun cdv A outer s H vs Q E hgd hr h => ?_)
  · obtain ⟨p, b, rfl, _⟩ := h
    rfl
  · obtain ⟨p, b, rfl, hs, k⟩ := h
    have hr3 : Room 3 _ := hr.mono (by decide)
    have hr2 : Room 2 _ := hr.mono (by decide)
    have hu := hr.units
    have rp := T.N.repr
    refine ⟨_, PSs.nox (pss_cons (ps_for PassesOwn.never rfl (pi_range1 rfl T.N.range (pa_cons pe_int pa_nil)) (pg_name (i := 2) scGR.nd rfl (Or.inl rfl))
        (pss_cons (ps_set (i := 3) scGR.nd rfl (.inl rfl) (pe_call GW hr rfl gW kW bW .nil pass0 (pa_cons (pv 0) pa_nil)))
        (pss_cons (ps_set (i := 4) scGR.nd rfl (.inl rfl) (pe_callB (call_reprD hgd hu) (by rfl) rp (by decide +kernel) (pa_cons (pv 3) pa_nil)))
        (pss_cons (ps_set (i := 5) scGR.nd rfl (.inl rfl) (pe_ifExp (pt_cmpR op_lt (pv 2) pe_int (nomark _))
          (pe_call G1 hr3 rfl g1 k1 b1 .nil pass0 (pa_cons (pv 2) (pa_cons (pv 3) (pa_cons (pv 1) pa_nil))))
          (pe_call G2 hr3 rfl g2 k2 b2 .nil pass0 (pa_cons (pe_op op_sub (pv 2) pe_int) (pa_cons (pv 3) (pa_cons (pv 1) pa_nil))))))
        (pss_one (ps_if (PW.pt (pw_or (pt_cmpR op_ne (pe_callB (call_reprD hgd hu) (by rfl) rp (by decide +kernel) (pa_cons (pe_errF (pv 5)) pa_nil)) (pv 4) (nomark _))
          (pw_or (pt_cmpR op_ne (pe_callB (call_reprD hgd hu) (by rfl) rp (by decide +kernel) (pa_cons (pv 3) pa_nil)) (pv 4) (nomark _))
          (pw_or1 (pt_not (pt_val (pe_call GA hr2 rfl gA kA bA .nil pass0 (pa_cons (pv 5) (pa_cons (pv 2) pa_nil)))))))))
          (pss_one (ps_ret pe_bl)) pss_nil))))))
      (pss_one (ps_ret pe_bl))), ?_⟩
    refine ⟨34, rfl, by decide, by decide, for_range (lo := 0) (n := 34) (fun i σ H' => ∃ v2 v3 v4 v5 : Option V, σ = [some (.ref p), some (.bl b), v2, v3, v4, v5] ∧ But p H H' ∧ SrcAt H' p)
      ⟨none, none, none, none, rfl, But.refl, hs⟩ ?_ ?_⟩
    · rintro i σ H' hi ⟨v2, v3, v4, v5, rfl, bb, ss⟩
      rw [Int.zero_add]
      refine ⟨_, rfl, p, rfl, ss, fun v d H1 b1 s1 wd => ?_⟩
      have wd1 := wd.mono Same.undel
      refine ⟨_, rfl, v, d, rfl, wd1.sh, wd1.ok, wd1.dp, wd1.sz, ?_⟩
      obtain ⟨x, hx⟩ : ∃ x, nmG[i]? = some x := ⟨_, List.getElem?_eq_getElem (show i < nmG.length from hi)⟩
      have hno := (T.G.row i x hx).no
      refine ⟨_, rfl, i, 17, rfl, rfl, _, rfl, ite2 (fun hlt => ?_) (fun hge => ?_)⟩
      · have hlt2 : i < 17 := by
          have z := of_decide_eq_true hlt
          omega
        refine ⟨_, rfl, _, rfl, _, rfl, i, v, b, rfl, hlt2, fun a da ha hda hne => ?_⟩
        rw [Nat.zero_add]
        have sE := excH_same (C := cs (i)) (f := "given") (v := v) ha hda
        have eE := excH_err (H := H1) (C := cs (i)) (f := "given") (v := v) hne
        have wd2 := wd1.mono sE
        have hC := T.er (i) (by omega)
        have hlk := lk_self "given" v
        refine ⟨_, rfl, a, cs (i), _, v, rfl, hC.ec, hno, eE, hlk, v, d, rfl, wd2.sh, wd2.ok, wd2.dp, wd2.sz, _, rfl, rfl, _, rfl, iteNS rfl ?_⟩
        refine ⟨_, rfl, v, d, rfl, wd2.sh, wd2.ok, wd2.dp, wd2.sz, _, rfl, rfl, _, rfl, iteNS rfl ?_⟩
        refine ⟨_, rfl, _, rfl, a, i, _, rfl, by omega, eE, fun H3 s3 => ⟨true, rfl, iteF ?_⟩⟩
        exact ⟨_, _, _, _, rfl, bb.trans (b1.trans (Same.but (Same.trans sE s3))), Same.src s3 (Same.src sE s1)⟩
      · have hge2 : 17 ≤ i := by
          have z : ¬ ((i : Int) < 17) := fun z => hge (decide_eq_true z)
          omega
        obtain ⟨j, rfl⟩ := Nat.exists_eq_add_of_le hge2
        refine ⟨_, rfl, _, 17, rfl, rfl, _, rfl, _, rfl, j, v, b, ?_, by omega, fun a da ha hda hne => ?_⟩
        · have z : (((17 + j : Nat) : Int) - 17) = (j : Int) := by omega
          show [V.int (((17 + j : Nat) : Int) - 17), v, V.bl b] = _
          rw [z]
        · have sE := excH_same (C := cs (17 + j)) (f := "given") (v := v) ha hda
          have eE := excH_err (H := H1) (C := cs (17 + j)) (f := "given") (v := v) hne
          have wd2 := wd1.mono sE
          have hC := T.er (17 + j) (by omega)
          have hlk := lk_self "given" v
          refine ⟨_, rfl, a, cs (17 + j), _, v, rfl, hC.ec, hno, eE, hlk, v, d, rfl, wd2.sh, wd2.ok, wd2.dp, wd2.sz, _, rfl, rfl, _, rfl, iteNS rfl ?_⟩
          refine ⟨_, rfl, v, d, rfl, wd2.sh, wd2.ok, wd2.dp, wd2.sz, _, rfl, rfl, _, rfl, iteNS rfl ?_⟩
          refine ⟨_, rfl, _, rfl, a, 17 + j, _, rfl, by omega, eE, fun H3 s3 => ⟨true, rfl, iteF ?_⟩⟩
          exact ⟨_, _, _, _, rfl, bb.trans (b1.trans (Same.but (Same.trans sE s3))), Same.src s3 (Same.src sE s1)⟩
    · rintro σ H' ⟨v2, v3, v4, v5, rfl, bb, ss⟩
      exact k H' bb ss
end
end K1
namespace K1
open PySem PySem.Spec PyProof.Rows L2
section
variable {P : Program} {w : World} {K : PySem.W.Frag} {mg : Str → Option Value} {base : Heap} {f fW f1 fA fB fC fD : Addr} {fd fdW fd1 fdA fdB fdC fdD : FuncData} {W : Addr} {cs fi : Nat → Addr} {fds : Nat → FuncData}
theorem scIR : FnScope ["_law_source_here", "_law_named", "_law_at", "_law_worth_here", "_law_kept", "_law_e"] ["_law_source_here", "_law_named"] (defScope (top 78)) := ⟨rfl, rfl, rfl, by decide +kernel, rfl, by decide +kernel, by decide +kernel⟩
theorem okIR (F : FnP K "_law_index_right" (top 78) f fd) (T : All K mg W cs fi fds)
    (GW : FnOk P w K mg base CX0 4 fW fdW ["_law_source_here"] (spWorth K)) (kW : PySem.W.keepIn K (.ref fW) = true) (gW : mg "_law_worth" = some (.ref fW)) (bW : Binds K fdW ["_law_source_here"] [])
    (G1 : FnOk P w K mg base CX0 3 f1 fd1 ["_law_at", "_law_worth_here", "_law_named"] (spKind "index" (fun i => cs (34 + i)) 0 22)) (k1 : PySem.W.keepIn K (.ref f1) = true) (g1 : mg "_law_third_kind" = some (.ref f1)) (b1 : Binds K fd1 ["_law_at", "_law_worth_here", "_law_named"] [])
    (GA : FnOk P w K mg base CX0 2 fA fdA ["_law_e", "_law_at"] (spAlone cs)) (kA : PySem.W.keepIn K (.ref fA) = true) (gA : mg "_law_alone" = some (.ref fA)) (bA : Binds K fdA ["_law_e", "_law_at"] []) :
    FnG P w K mg base CX0 5 f fd ["_law_source_here", "_law_named"] spEach := by
  refine fnG_of F scIR (fun vs H Q E h => ?_) (fun cdv A outer s H vs Q E hgd hr h => ?_)
  · obtain ⟨p, b, rfl, _⟩ := h
    rfl
  · obtain ⟨p, b, rfl, hs, k⟩ := h
    have hr3 : Room 3 _ := hr.mono (by decide)
    have hr2 : Room 2 _ := hr.mono (by decide)
    have hu := hr.units
    have rp := T.N.repr
    refine ⟨_, PSs.nox (pss_cons (ps_for PassesOwn.never rfl (pi_range1 rfl T.N.range (pa_cons pe_int pa_nil)) (pg_name (i := 2) scIR.nd rfl (Or.inl rfl))
        (pss_cons (ps_set (i := 3) scIR.nd rfl (.inl rfl) (pe_call GW hr rfl gW kW bW .nil pass0 (pa_cons (pv 0) pa_nil)))
        (pss_cons (ps_set (i := 4) scIR.nd rfl (.inl rfl) (pe_callB (call_reprD hgd hu) (by rfl) rp (by decide +kernel) (pa_cons (pv 3) pa_nil)))
        (pss_cons (ps_set (i := 5) scIR.nd rfl (.inl rfl) (pe_call G1 hr3 rfl g1 k1 b1 .nil pass0 (pa_cons (pv 2) (pa_cons (pv 3) (pa_cons (pv 1) pa_nil)))))
        (pss_one (ps_if (PW.pt (pw_or (pt_cmpR op_ne (pe_callB (call_reprD hgd hu) (by rfl) rp (by decide +kernel) (pa_cons (pe_errF (pv 5)) pa_nil)) (pv 4) (nomark _))
          (pw_or (pt_cmpR op_ne (pe_callB (call_reprD hgd hu) (by rfl) rp (by decide +kernel) (pa_cons (pv 3) pa_nil)) (pv 4) (nomark _))
          (pw_or1 (pt_not (pt_val (pe_call GA hr2 rfl gA kA bA .nil pass0 (pa_cons (pv 5) (pa_cons (pe_op op_add pe_int (pv 2)) pa_nil)))))))))
          (pss_one (ps_ret pe_bl)) pss_nil))))))
      (pss_one (ps_ret pe_bl))), ?_⟩
    refine ⟨22, rfl, by decide, by decide, for_range (lo := 0) (n := 22) (fun i σ H' => ∃ v2 v3 v4 v5 : Option V, σ = [some (.ref p), some (.bl b), v2, v3, v4, v5] ∧ But p H H' ∧ SrcAt H' p)
      ⟨none, none, none, none, rfl, But.refl, hs⟩ ?_ ?_⟩
    · rintro i σ H' hi ⟨v2, v3, v4, v5, rfl, bb, ss⟩
      rw [Int.zero_add]
      refine ⟨_, rfl, p, rfl, ss, fun v d H1 b1 s1 wd => ?_⟩
      have wd1 := wd.mono Same.undel
      refine ⟨_, rfl, v, d, rfl, wd1.sh, wd1.ok, wd1.dp, wd1.sz, ?_⟩
      obtain ⟨x, hx⟩ : ∃ x, nmI[i]? = some x := ⟨_, List.getElem?_eq_getElem (show i < nmI.length from hi)⟩
      have hno := (T.I.row i x hx).no
      refine ⟨_, rfl, _, rfl, _, rfl, i, v, b, rfl, hi, fun a da ha hda hne => ?_⟩
      rw [Nat.zero_add]
      have sE := excH_same (C := cs (34 + i)) (f := "index") (v := v) ha hda
      have eE := excH_err (H := H1) (C := cs (34 + i)) (f := "index") (v := v) hne
      have wd2 := wd1.mono sE
      have hC := T.er (34 + i) (by omega)
      have hlk := lk_self "index" v
      refine ⟨_, rfl, a, cs (34 + i), _, v, rfl, hC.ec, hno, eE, hlk, v, d, rfl, wd2.sh, wd2.ok, wd2.dp, wd2.sz, _, rfl, rfl, _, rfl, iteNS rfl ?_⟩
      refine ⟨_, rfl, v, d, rfl, wd2.sh, wd2.ok, wd2.dp, wd2.sz, _, rfl, rfl, _, rfl, iteNS rfl ?_⟩
      refine ⟨_, rfl, _, rfl, 34, i, rfl, rfl, a, 34 + i, _, ?_, by omega, eE, fun H3 s3 => ⟨true, rfl, iteF ?_⟩⟩
      · show [V.ref a, V.int (34 + (i : Int))] = _
        have z : (34 + (i : Int)) = ((34 + i : Nat) : Int) := by omega
        rw [z]
      · exact ⟨_, _, _, _, rfl, bb.trans (b1.trans (Same.but (Same.trans sE s3))), Same.src s3 (Same.src sE s1)⟩
    · rintro σ H' ⟨v2, v3, v4, v5, rfl, bb, ss⟩
      exact k H' bb ss
/-! ### the classes without attributes -/
def spBR : Sp := fun vs H Q _ => vs = [] ∧ ∀ H', Same H H' → Q (.bl true) H'
theorem scBR : FnScope ["_law_at", "_law_e"] [] (defScope (top 79)) := ⟨rfl, rfl, rfl, by decide +kernel, rfl, by decide +kernel, by decide +kernel⟩
theorem csL_none {cs : Nat → Addr} {W : Addr} {K : PySem.W.Frag} (eW : ErrC K veT W) (er : ∀ i, i < 60 → ErrC K (.ref W :: veT) (cs i)) (neW : ∀ i, i < 60 → cs i ≠ W) {lo many : Nat} (hl : lo + many ≤ 60) :
    ∀ D ∈ csL cs lo many, PySem.W.kitOne K (.ref W) (.ref D) = some false := by
  intro D hD
  obtain ⟨i, hi, rfl⟩ := List.mem_map.mp hD
  have hi2 : lo + i < 60 := by
    have := List.mem_range.mp hi
    omega
  rw [eW.kit (er _ hi2)]
  have e1 : ((Value.ref (cs (lo + i))) == (Value.ref W)) = false := by
    refine Bool.eq_false_iff.mpr fun z => neW _ hi2 ?_
    exact Value.ref.inj (eq_of_beq z)
  rw [List.contains_cons, e1, Bool.false_or]
  rfl
theorem okBR (F : FnP K "_law_bare_right" (top 79) f fd) (T : All K mg W cs fi fds)
    (GB : FnOk P w K mg base CX0 1 fB fdB ["_law_at"] (spBare cs)) (kB : PySem.W.keepIn K (.ref fB) = true) (gB : mg "_law_bare_kind" = some (.ref fB)) (bB : Binds K fdB ["_law_at"] [])
    (GC : FnOk P w K mg base CX0 1 fC fdC ["_law_e"] (spIs K (csL cs 0 34))) (kC : PySem.W.keepIn K (.ref fC) = true) (gC : mg "_law_given_classes" = some (.ref fC)) (bC : Binds K fdC ["_law_e"] [])
    (GD : FnOk P w K mg base CX0 1 fD fdD ["_law_e"] (spIs K (csL cs 34 26))) (kD : PySem.W.keepIn K (.ref fD) = true) (gD : mg "_law_other_classes" = some (.ref fD)) (bD : Binds K fdD ["_law_e"] [])
    (GA : FnOk P w K mg base CX0 2 fA fdA ["_law_e", "_law_at"] (spAlone cs)) (kA : PySem.W.keepIn K (.ref fA) = true) (gA : mg "_law_alone" = some (.ref fA)) (bA : Binds K fdA ["_law_e", "_law_at"] []) :
    FnOk P w K mg base CX0 3 f fd [] spBR := by
  refine F.ok scBR (fun vs H Q E h => ?_) (fun cdv A outer s H vs Q E hr h => ?_)
  · obtain ⟨rfl, _⟩ := h
    rfl
  · obtain ⟨rfl, k⟩ := h
    have hr1 : Room 1 _ := hr.mono (by decide)
    have ii := T.N.isi
    refine ⟨_, PSs.nox (pss_cons (ps_for PassesOwn.never rfl (pi_range1 rfl T.N.range (pa_cons pe_int pa_nil)) (pg_name (i := 0) scBR.nd rfl (Or.inl rfl))
        (pss_one (ps_if (pt_not (pt_val (pe_call GA hr rfl gA kA bA .nil pass0 (pa_cons (pe_call GB hr1 rfl gB kB bB .nil pass0 (pa_cons (pv 0) pa_nil)) (pa_cons (pe_op op_add pe_int (pv 0)) pa_nil)))))
          (pss_one (ps_ret pe_bl)) pss_nil)))
      (pss_cons (ps_set (i := 1) scBR.nd rfl (.inl rfl) (pe_mk0 PySem.F.excBase_ValueError T.xW T.gW T.eW.kp rfl))
      (pss_one (ps_ret (pe_and (pe_callB call_isErr (by rfl) ii (by decide +kernel) (pa_cons (pv 1) (pa_cons (pe_bltn (v := .ty "ValueError") (by rfl) T.ve (by decide +kernel) rfl) pa_nil)))
        (pe_one (pe_cmpR op_eq (pe_bm PySem.F.plainAttrs_list PySem.F.slot_list_count PySem.F.type_list_count mt_countB
          (pe_op op_cat (pe_call GC hr1 rfl gC kC bC .nil pass0 (pa_cons (pv 1) pa_nil)) (pe_call GD hr1 rfl gD kD bD .nil pass0 (pa_cons (pv 1) pa_nil))) (pa_cons pe_bl pa_nil)) pe_int (nomark _)))))))), ?_⟩
    refine ⟨4, rfl, by decide, by decide, for_range (lo := 0) (n := 4) (fun i σ H' => ∃ v0 : Option V, σ = [v0, none] ∧ Same H H') ⟨none, rfl, Same.refl H⟩ ?_ ?_⟩
    · rintro i σ H' hi ⟨v0, rfl, ss⟩
      rw [Int.zero_add]
      refine ⟨_, rfl, i, rfl, hi, fun a H1 s1 ea => ?_⟩
      refine ⟨_, rfl, 56, i, rfl, rfl, a, 56 + i, _, ?_, by omega, ea, fun H3 s3 => ⟨true, rfl, iteF ?_⟩⟩
      · show [V.ref a, V.int (56 + (i : Int))] = _
        have z : (56 + (i : Int)) = ((56 + i : Nat) : Int) := by omega
        rw [z]
      · exact ⟨_, rfl, ss.trans (Same.trans s1 s3)⟩
    · rintro σ H' ⟨v0, rfl, ss⟩
      intro a ha
      have s0 := sameNew (o := exo a W none) ha
      have e0 : ErrAt (upd H' a (exo a W none)) a W [] := .inl ⟨upd_same, rfl⟩
      have kV : PySem.W.kitOne K (.ref W) (.type "ValueError") = some true := (T.eW.kitT (by decide +kernel)).trans (by decide +kernel)
      have n1 := csL_none T.eW T.er T.neW (lo := 0) (many := 34) (by decide)
      have n2 := csL_none T.eW T.er T.neW (lo := 34) (many := 26) (by decide)
      refine ⟨_, rfl, a, W, [], _, .type "ValueError", true, rfl, T.eW.ec, e0, fun u r => r, kV, true, rfl, ?_⟩
      refine iteT ⟨_, rfl, a, W, [], fun _ => false, rfl, T.eW.ec, e0, n1, fun p1 h1 => ?_⟩
      have s1 := Same.trans s0 (sameNew (o := .lst ((csL cs 0 34).map fun _ => V.bl false)) h1)
      refine ⟨_, rfl, a, W, [], fun _ => false, rfl, T.eW.ec, errSame (sameNew h1) e0, n2, fun p2 h2 => ?_⟩
      have s2 := Same.trans s1 (sameNew (o := .lst ((csL cs 34 26).map fun _ => V.bl false)) h2)
      have z1 : ((csL cs 0 34).map fun _ => V.bl false).length = 34 := by simp [csL]
      have z2 : ((csL cs 34 26).map fun _ => V.bl false).length = 26 := by simp [csL]
      have eb : (((csL cs 0 34).map fun _ => V.bl false) ++ ((csL cs 34 26).map fun _ => V.bl false)) = (List.replicate 60 false).map V.bl := by
        rw [List.map_const', List.map_const', List.map_replicate, List.replicate_append_replicate]
        simp [csL]
      refine ⟨p1, p2, _, _, rfl, rfl, sameNew h2 _ _ upd_same, upd_same, Nat.le_trans (Nat.le_of_eq (congr (congrArg _ z1) z2)) (by decide), fun p3 h3 => ?_⟩
      have s3 := Same.trans s2 (sameNew (o := .lst (((csL cs 0 34).map fun _ => V.bl false) ++ ((csL cs 34 26).map fun _ => V.bl false))) h3)
      have hT : ∀ {H0 : Hp}, SqL K (upd H0 p3 (.lst (((csL cs 0 34).map fun _ => V.bl false) ++ ((csL cs 34 26).map fun _ => V.bl false)))) p3 ((List.replicate 60 false).map V.bl) := fun {H0} => SqL.of (Eq.trans upd_same (by rw [eb]))
      refine ⟨.inl ⟨rfl, _, hT⟩, p3, List.replicate 60 false, true, rfl, rfl, hT, rfl, ?_⟩
      have ec : decide (V.int (((List.replicate 60 false).countP fun b => b == true : Nat) : Int) = V.int 0) = true := by decide
      show Q (V.bl (decide (V.int (((List.replicate 60 false).countP fun b => b == true : Nat) : Int) = V.int 0))) _
      rw [ec]
      exact k _ (ss.trans s3)
end
end K1
namespace K1
open PySem PySem.Spec PyProof.Rows L2
/-! ### raised ones are caught by their bases -/
def spCaught (K : PySem.W.Frag) : Sp := fun vs H Q _ => ∃ (v : V) (d : PyData), vs = [v] ∧ Worth K H v d ∧ ∀ q H', Same H H' → H q = none → H' q = some (.lst [.str d.shown, .str d.shown]) → Q (.ref q) H'
theorem free_of {H H' : Hp} {a : Addr} (s : Same H H') (h : H' a = none) : H a = none := by
  cases q : H a with
  | none => rfl
  | some o =>
    rw [s _ _ q] at h
    cases h
theorem excH_dict {H : Hp} {a d C : Addr} {f : Str} {v : V} (n : d ≠ a) : excH H a d C f v d = some (exd d [(f, v)]) := by
  unfold excH
  rw [upd_ne n, upd_same]
theorem delE_same {H : Hp} {a d C : Addr} {f : Str} {v : V} (ha : H a = none) (hd : H d = none) : Same H (delH (excH H a d C f v) a) := fun b o e => by
  rw [delH_ne (ne_of_none e ha)]
  exact excH_same ha hd b o e
theorem delE_dict {H : Hp} {a d C : Addr} {f : Str} {v : V} (n : d ≠ a) : delH (excH H a d C f v) a d = some (exd d [(f, v)]) := by
  rw [delH_ne n]
  exact excH_dict n
section
variable {P : Program} {w : World} {K : PySem.W.Frag} {mg : Str → Option Value} {base : Heap} {f : Addr} {fd : FuncData} {W : Addr} {cs fi : Nat → Addr} {fds : Nat → FuncData}
def tErrY (K : PySem.W.Frag) (H0 : Hp) (te : TE) : L2.St → Hp → XK → Prop := fun σ H Q => te σ H fun x H1 => ∃ (a C d : Addr) (fs : List (Str × V)), x = .ref a ∧ d ≠ a ∧ H1 a = some (exo a C (some d)) ∧ H1 d = some (exd d fs) ∧ Fr0 H0 a ∧ OexC K C ∧ Q (.ref C) (some d) (delH H1 a)
theorem pmk_errY {X : Cx} {e : Expr} {te : TE} (hx : X.ex = []) (he : PE X e te) : PMk X e (tErrY X.K X.H_0 te) := by
  intro pins s σ H Q I h
  refine wpAny_mono (he.run pins s σ H _ I h) (fun u sA hu => ?_) fun _ _ z => z
  obtain ⟨v, H1, I1, r1, a, C, d, fs, rfl, dne, ha, hd, h0, oe, q⟩ := hu
  cases r1
  obtain ⟨t, ho⟩ := exo_at I1.hok ha
  obtain ⟨G, gs, ga, J⟩ := I1.untrack ha h0 hx
  exact ⟨a, _, _, { sA with heap := G }, delH H1 a, .ref C, some d, rfl, J, gs, ga, ho, ⟨rfl, rfl⟩, rfl, rfl, delH_same, rfl, I1.bare, raises_own oe.exC oe.tyC, q⟩
def tThrow (K : PySem.W.Frag) (H0 : Hp) (C : Addr) (f : Str) (W' : WX) : TS := fun _ σ H => tErrY K H0 (tMk C f (tVar 0)) σ H fun cls d H' => W' cls d σ H'
def tTell (K : PySem.W.Frag) (D : Addr) (f : Str) (a : Addr) (cls : Value) (d : Option Addr) : TE := tBM K "list" (rAppend) (tVar 1) (tCons (tIf (tB (tCB (rIsCau K a cls d) (tCons (tVar 2) (tCons (tC (.ref D)) tNil)))) (tCB (rRepr K) (tCons (tCauF a cls d K f (tVar 2)) tNil)) (tC (.str "another class"))) tNil)
theorem scCaught : FnScope ["_law_worth_here", "_law_found", "raised"] ["_law_worth_here"] (defScope (top 80)) := ⟨rfl, rfl, rfl, by decide +kernel, rfl, by decide +kernel, by decide +kernel⟩
theorem okCaught (F : FnP K "_law_caught" (top 80) f fd) (T : All K mg W cs fi fds) : FnG P w K mg base CX0 3 f fd ["_law_worth_here"] (spCaught K) := by
  refine fnG_of F scCaught (fun vs H Q E h => ?_) (fun cdv A outer s H vs Q E hgd hr h => ?_)
  · obtain ⟨v, d, rfl, _⟩ := h
    rfl
  · obtain ⟨v, d, rfl, wd, k⟩ := h
    have hu := hr.units
    have ii := T.N.isi
    have rp := T.N.repr
    have rw9 := T.G.row 9 "InvalidWind" rfl
    have rw21 := T.I.row 21 "Broken" rfl
    have suite1 : ∀ {Y : Cx} {a : Addr} {oe : Obj} {cls : Value} {d : Option Addr} {pn : List (Addr × Obj)}, Zc cls d oe → Y.A.units + 64 < cLine → (Y.suite a ((a, oe) :: pn)).A.units + 64 < cLine := fun {Y a oe cls d pn} _ h => h
    refine ⟨_, PSs.nox (pss_cons (ps_set (i := 1) scCaught.nd rfl (.inl rfl) (pe_lst pa_nil))
      (pss_cons (ps_try_as (i := 2) (c := .ref W) (tb := tThrow K H (cs 9) "given") (ts := fun a cls d => tDrop (tTell K (cs 9) "given" a cls d)) (Wout := fun _ _ _ _ => False) rfl rfl scCaught.nd rfl rfl ⟨rfl, by decide, .inl T.gW⟩ takes0
        (fun W' pn xe tk _ => pss_one (by exact (ps_raise rfl tk (pmk_errY rfl (pe_mkP (Kls.toOk T.G.isf rw9) hr rfl rw9.gl (pv 0))))))
        (fun a oe cls d pn hz hf => pss_one (ps_expr (by exact (pe_bm PySem.F.plainAttrs_list PySem.F.slot_list_append PySem.F.type_list_append mt_append (pv 1) (pa_cons
          (pe_ifExp (pt_val (pe_callB (call_isCau hz hf) (by rfl) ii (by decide +kernel) (pa_cons (pv 2) (pa_cons (pe_glob (v := .ref (cs 9)) rfl rw9.gl rfl) pa_nil))))
            (pe_callB (call_reprD hgd hu) (by rfl) rp (by decide +kernel) (pa_cons (pe_cauF hz hf (pv 2)) pa_nil)) pe_str) pa_nil)))))
      )
      (pss_cons (ps_try_as (i := 2) (c := .ref (cs (34 + 21))) (tb := tThrow K H (cs (34 + 21)) "index") (ts := fun a cls d => tDrop (tTell K W "index" a cls d)) (Wout := fun _ _ _ _ => False) rfl rfl scCaught.nd rfl rfl ⟨rfl, by decide, .inl rw21.gl⟩ takes0
        (fun W' pn xe tk _ => pss_one (by exact (ps_raise rfl tk (pmk_errY rfl (pe_mkK (Kls.toOk T.I.isf rw21) hr rfl rw21.gl (pv 0))))))
        (fun a oe cls d pn hz hf => pss_one (ps_expr (by exact (pe_bm PySem.F.plainAttrs_list PySem.F.slot_list_append PySem.F.type_list_append mt_append (pv 1) (pa_cons
          (pe_ifExp (pt_val (pe_callB (call_isCau hz hf) (by rfl) ii (by decide +kernel) (pa_cons (pv 2) (pa_cons (pe_glob (v := .ref W) rfl T.gW rfl) pa_nil))))
            (pe_callB (call_reprD hgd hu) (by rfl) rp (by decide +kernel) (pa_cons (pe_cauF hz hf (pv 2)) pa_nil)) pe_str) pa_nil)))))
      )
      (pss_one (ps_ret (pv 1)))))), ?_⟩
    have e9 := T.er 9 (by decide)
    have e55 := T.er (34 + 21) (by decide)
    refine ⟨Nat.zero_le _, fun q hq => ?_⟩
    have s0 := sameNew (o := .lst []) hq
    have wd0 := wd.mono s0
    refine ⟨_, rfl, fun a e ha he hne => ⟨a, cs 9, e, _, rfl, hne, upd_same, excH_dict hne, fr0_none (free_of s0 ha), e9.oex, true, ?_, fun _ x hx => ?_, fun z => Bool.noConfusion z⟩⟩
    · refine (e9.exm T.eW).trans ?_
      simp
    have s1 := delE_same (C := cs 9) (f := "given") (v := v) ha he
    have wd1 := wd0.mono s1
    have q1 := s1 _ _ (upd_same (H := H) (a := q) (o := .lst []))
    refine ⟨_, rfl, .inl ⟨rfl, _, SqL.of q1⟩, ?_⟩
    refine ⟨_, rfl, cs 9, e, _, _, _, true, rfl, rfl, rfl, e9.ec, delE_dict hne, fun u r => r, ?_, true, rfl, iteT ?_⟩
    · rw [e9.kit e9]
      simp
    refine ⟨_, rfl, cs 9, e, _, v, rfl, rfl, rfl, e9.ec, rw9.no, delE_dict hne, lk_self "given" v, v, d, rfl, wd1.sh, wd1.ok, wd1.dp, wd1.sz, q, _, _, rfl, rfl, q1, by show 0 < sizeLine; decide, ?_⟩
    have sB : Same H (upd (delH (excH (upd H q (.lst [])) a e (cs 9) "given" v) a) q (.lst ([] ++ [V.str d.shown]))) := fun b o ee => by
      rw [upd_ne (ne_of_none ee hq)]
      exact s1 _ _ (s0 _ _ ee)
    have wdB := wd.mono sB
    have qB : (upd (delH (excH (upd H q (.lst [])) a e (cs 9) "given" v) a) q (.lst ([] ++ [V.str d.shown]))) q = some (.lst ([] ++ [V.str d.shown])) := upd_same
    generalize upd (delH (excH (upd H q (.lst [])) a e (cs 9) "given" v) a) q (.lst ([] ++ [V.str d.shown])) = HB at sB wdB qB ⊢
    refine ⟨_, rfl, fun a2 e2 ha2 he2 hne2 => ⟨a2, cs (34 + 21), e2, _, rfl, hne2, upd_same, excH_dict hne2, fr0_none (free_of sB ha2), e55.oex, true, ?_, fun _ y hy => ?_, fun z => Bool.noConfusion z⟩⟩
    · refine (e55.exm e55).trans ?_
      simp
    have s2 := delE_same (C := cs (34 + 21)) (f := "index") (v := v) ha2 he2
    have wd2 := wdB.mono s2
    have q2 := s2 _ _ qB
    refine ⟨_, rfl, .inl ⟨rfl, _, SqL.of q2⟩, ?_⟩
    refine ⟨_, rfl, cs (34 + 21), e2, _, _, _, true, rfl, rfl, rfl, e55.ec, delE_dict hne2, fun u r => r, ?_, true, rfl, iteT ?_⟩
    · rw [e55.kit T.eW]
      simp
    refine ⟨_, rfl, cs (34 + 21), e2, _, v, rfl, rfl, rfl, e55.ec, rw21.no, delE_dict hne2, lk_self "index" v, v, d, rfl, wd2.sh, wd2.ok, wd2.dp, wd2.sz, q, _, _, rfl, rfl, q2, by show 1 < sizeLine; decide, ?_⟩
    refine ⟨_, rfl, k q _ (fun b o ee => ?_) hq upd_same⟩
    rw [upd_ne (ne_of_none ee hq)]
    exact s2 _ _ (sB _ _ ee)
theorem bindsCaught (F : FnP K "_law_caught" (top 80) f fd) : Binds K fd ["_law_worth_here"] [] := F.bindsN fun _ _ _ _ _ _ us hl => match us, hl with | [_], _ => rfl
end
end K1
namespace K1
open PySem PySem.Spec PyProof.Rows L2
/-! ### one round, and the law -/
def spRight : Sp := fun vs H Q _ => ∃ p : Addr, vs = [.ref p] ∧ SrcAt H p ∧ ∀ H', But p H H' → Q (.bl true) H'
def spLaw (K : PySem.W.Frag) : Sp := fun vs H Q _ => ∃ (a : Addr) (ns : List Int), vs = [.ref a] ∧ SqL K H a (ns.map V.int) ∧ ns.length ≤ 63 ∧ ∀ H', Same H H' → Q (.bl true) H'
section
variable {P : Program} {w : World} {K : PySem.W.Frag} {mg : Str → Option Value} {base : Heap} {f fD fG fI fW fB fC fR fS fO : Addr} {fd fdD fdG fdI fdW fdB fdC fdR fdS fdO : FuncData} {W : Addr} {cs fi : Nat → Addr} {fds : Nat → FuncData}
theorem scRight : FnScope ["_law_source_here", "_law_named", "_law_worth_here"] ["_law_source_here"] (defScope (top 81)) := ⟨rfl, rfl, rfl, by decide +kernel, rfl, by decide +kernel, by decide +kernel⟩
theorem scLaw : FnScope ["_law_script", "_law_turn"] ["_law_script"] (defScope (top 82)) := ⟨rfl, rfl, rfl, by decide +kernel, rfl, by decide +kernel, by decide +kernel⟩
theorem okRight (F : FnP K "_law_right" (top 81) f fd) (N : Nm mg)
    (GD : FnOk P w K mg base CX0 1 fD fdD ["_law_source_here", "_law_many"] spDraw) (kD : PySem.W.keepIn K (.ref fD) = true) (gD : mg "_law_draw" = some (.ref fD)) (bD : Binds K fdD ["_law_source_here", "_law_many"] [])
    (GG : FnG P w K mg base CX0 5 fG fdG ["_law_source_here", "_law_named"] spEach) (kG : PySem.W.keepIn K (.ref fG) = true) (gG : mg "_law_given_right" = some (.ref fG)) (bG : Binds K fdG ["_law_source_here", "_law_named"] [])
    (GI : FnG P w K mg base CX0 5 fI fdI ["_law_source_here", "_law_named"] spEach) (kI : PySem.W.keepIn K (.ref fI) = true) (gI : mg "_law_index_right" = some (.ref fI)) (bI : Binds K fdI ["_law_source_here", "_law_named"] [])
    (GW : FnOk P w K mg base CX0 4 fW fdW ["_law_source_here"] (spWorth K)) (kW : PySem.W.keepIn K (.ref fW) = true) (gW : mg "_law_worth" = some (.ref fW)) (bW : Binds K fdW ["_law_source_here"] [])
    (GB : FnOk P w K mg base CX0 3 fB fdB [] spBR) (kB : PySem.W.keepIn K (.ref fB) = true) (gB : mg "_law_bare_right" = some (.ref fB)) (bB : Binds K fdB [] [])
    (GC : FnG P w K mg base CX0 3 fC fdC ["_law_worth_here"] (spCaught K)) (kC : PySem.W.keepIn K (.ref fC) = true) (gC : mg "_law_caught" = some (.ref fC)) (bC : Binds K fdC ["_law_worth_here"] []) :
    FnG P w K mg base CX0 6 f fd ["_law_source_here"] spRight := by
  refine fnG_of F scRight (fun vs H Q E h => ?_) (fun cdv A outer s H vs Q E hgd hr h => ?_)
  · obtain ⟨p, rfl, _⟩ := h
    rfl
  · obtain ⟨p, rfl, hs, k⟩ := h
    have hr4 : Room 4 _ := hr.mono (by decide)
    have hr3 : Room 3 _ := hr.mono (by decide)
    have hr1 : Room 1 _ := hr.mono (by decide)
    have hu := hr.units
    have rp := N.repr
    refine ⟨_, PSs.nox (pss_cons (ps_set (i := 1) scRight.nd rfl (.inl rfl) (pe_cmpR op_eq (pe_call GD hr1 rfl gD kD bD .nil pass0 (pa_cons (pv 0) (pa_cons pe_int pa_nil))) pe_int (nomark _)))
      (pss_cons (ps_if (PW.pt (pw_or (pt_not (pt_val (pe_callG GG hgd hr rfl gG kG bG (pa_cons (pv 0) (pa_cons (pv 1) pa_nil)))))
          (pw_or1 (pt_not (pt_val (pe_callG GI hgd hr rfl gI kI bI (pa_cons (pv 0) (pa_cons (pe_not (pv 1)) pa_nil))))))))
        (pss_one (ps_ret pe_bl)) pss_nil)
      (pss_cons (ps_set (i := 2) scRight.nd rfl (.inl rfl) (pe_call GW hr4 rfl gW kW bW .nil pass0 (pa_cons (pv 0) pa_nil)))
      (pss_one (ps_ret (pe_and (pe_call0 GB hr3 rfl gB kB bB .nil pass0)
        (pe_one (pe_cmpR (op_eqV hu) (pe_callG GC hgd hr3 rfl gC kC bC (pa_cons (pv 2) pa_nil))
          (pe_lst (pa_cons (pe_callB (call_reprD hgd hu) (by rfl) rp (by decide +kernel) (pa_cons (pv 2) pa_nil)) (pa_cons (pe_callB (call_reprD hgd hu) (by rfl) rp (by decide +kernel) (pa_cons (pv 2) pa_nil)) pa_nil))) (nomark _))))))))), ?_⟩
    refine ⟨_, rfl, p, 2, rfl, hs, by decide, by decide, fun x H1 x0 x1 b1 s1 => ?_⟩
    refine ⟨rfl, ?_⟩
    generalize decide (V.int x = V.int 1) = b
    refine ⟨_, rfl, _, rfl, p, b, rfl, s1, fun H2 b2 s2 => ⟨true, rfl, iteF ⟨_, rfl, _, rfl, b, rfl, ?_⟩⟩⟩
    refine ⟨p, !b, rfl, s2, fun H3 b3 s3 => ⟨true, rfl, iteF ?_⟩⟩
    refine ⟨_, rfl, p, rfl, s3, fun v d H4 b4 s4 wd => ?_⟩
    have wd4 := wd.mono Same.undel
    refine ⟨rfl, fun H5 s5 => ⟨true, rfl, iteT ?_⟩⟩
    have wd5 := wd4.mono s5
    refine ⟨_, rfl, v, d, rfl, wd5, fun q H6 s6 hq at6 => ?_⟩
    have wd6 := wd5.mono s6
    refine ⟨_, rfl, v, d, rfl, wd6.sh, wd6.ok, wd6.dp, wd6.sz, _, rfl, v, d, rfl, wd6.sh, wd6.ok, wd6.dp, wd6.sz, by show 2 ≤ sizeLine; decide, fun r hr6 => ?_⟩
    have s7 := sameNew (o := .lst [V.str d.shown, V.str d.shown]) hr6
    refine ⟨1, by decide, .inl ⟨q, r, _, _, rfl, rfl, SqL.of (s7 _ _ at6), SqL.of upd_same, .cons (.inl ⟨rfl, rfl⟩) (.cons (.inl ⟨rfl, rfl⟩) .nil)⟩, ?_⟩
    exact k _ (b1.trans (b2.trans (b3.trans (b4.trans (Same.but (s5.trans (s6.trans s7)))))))
theorem bindsRight (F : FnP K "_law_right" (top 81) f fd) : Binds K fd ["_law_source_here"] [] := F.bindsN fun _ _ _ _ _ _ us hl => match us, hl with | [_], _ => rfl
theorem okLaw (F : FnP K "law" (top 82) f fd) (N : Nm mg)
    (GO : FnOk P w K mg base CX0 1 fO fdO ["_law_script"] (spRounds K)) (kO : PySem.W.keepIn K (.ref fO) = true) (gO : mg "_law_rounds" = some (.ref fO)) (bO : Binds K fdO ["_law_script"] [])
    (GS : FnOk P w K mg base CX0 1 fS fdS ["_law_script", "_law_turn"] (spSource K)) (kS : PySem.W.keepIn K (.ref fS) = true) (gS : mg "_law_source" = some (.ref fS)) (bS : Binds K fdS ["_law_script", "_law_turn"] [])
    (GR : FnG P w K mg base CX0 6 fR fdR ["_law_source_here"] spRight) (kR : PySem.W.keepIn K (.ref fR) = true) (gR : mg "_law_right" = some (.ref fR)) (bR : Binds K fdR ["_law_source_here"] []) :
    FnG P w K mg base CX0 7 f fd ["_law_script"] (spLaw K) := by
  refine fnG_of F scLaw (fun vs H Q E h => ?_) (fun cdv A outer s H vs Q E hgd hr h => ?_)
  · obtain ⟨a, ns, rfl, _⟩ := h
    rfl
  · obtain ⟨a, ns, rfl, hS, hn, k⟩ := h
    have hr1 : Room 1 _ := hr.mono (by decide)
    refine ⟨_, PSs.nox (pss_cons (ps_for PassesOwn.never rfl (pi_range1 rfl N.range (pa_cons (pe_call GO hr1 rfl gO kO bO .nil pass0 (pa_cons (pv 0) pa_nil)) pa_nil)) (pg_name (i := 1) scLaw.nd rfl (Or.inl rfl))
        (pss_one (ps_if (pt_not (pt_val (pe_callG GR hgd hr rfl gR kR bR (pa_cons (pe_call GS hr1 rfl gS kS bS .nil pass0 (pa_cons (pv 0) (pa_cons (pv 1) pa_nil))) pa_nil))))
          (pss_one (ps_ret pe_bl)) pss_nil)))
      (pss_one (ps_ret pe_bl))), ?_⟩
    refine ⟨_, rfl, a, ns, rfl, hS, hn, fun t t0 t1 => ?_⟩
    obtain ⟨n, rfl⟩ := Int.eq_ofNat_of_zero_le (show 0 ≤ t by omega)
    refine ⟨_, rfl, by omega, by omega, for_range (lo := 0) (n := n) (fun i σ H' => ∃ v1 : Option V, σ = [some (.ref a), v1] ∧ Same H H')
      ⟨none, rfl, Same.refl _⟩ ?_ ?_⟩
    · rintro i σ H' hi ⟨v1, rfl, ss⟩
      rw [Int.zero_add]
      refine ⟨_, rfl, _, rfl, a, ns, _, rfl, ss.seq hS, hn, by omega, by omega, fun p H1 s1 hp sp => ?_⟩
      refine ⟨p, rfl, sp, fun H2 b2 => ⟨true, rfl, iteF ?_⟩⟩
      refine ⟨_, rfl, fun b o e => ?_⟩
      have e1 := ss _ _ e
      exact b2 _ _ (ne_of_none e1 hp) (s1 _ _ e1)
    · rintro σ H' ⟨v1, rfl, ss⟩
      exact k H' ss
end
end K1
namespace K1
open PySem PySem.Spec PyProof.Rows L2
/-! ### the five runs as one -/
def fn : List He.DefD := fnP ++ fnQ
def ob (s : PySem.W.SharedT) : AlQ := obsQ fa fn ex (HandSHeadRun.getT s)
theorem ob_eq (s : PySem.W.SharedT) : ob s = (hookQ fa fn ex).obs s.abs := obsQ_eq (HandSHeadRun.getT_eq s)
theorem onK_eq {α : Type} (f : PySem.W.Frag → α) (s : PySem.W.SharedT) : onK f s = f (He.frG (HandSHeadRun.getT s) (asQ (HandSHeadRun.getT s))) := by
  unfold onK
  rw [evL_eq, evK_eq]
theorem join {β γ : Type} {o : Option PySem.W.SharedT} {p : PySem.W.SharedT → β} {q : PySem.W.SharedT → γ} {x : β} {y : γ} (h1 : o.map (fun s => (p s, q s, ())) = some (x, y, ())) (h2 : o.map (onK ex) = some true) (h3 : o.map (onK faB) = some true)
    (h4 : o.map (onK (fnB fnP)) = some (true, fnP.map He.DefD.val)) (h5 : o.map (onK (fnB fnQ)) = some (true, fnQ.map He.DefD.val)) : o.map (fun s => (p s, q s, ob s)) = some (x, y, (true, He.valD fn)) := by
  cases o with
  | none => cases h1
  | some s =>
    rw [Option.map_some] at h1 h2 h3 h4 h5 ⊢
    have e1 := Option.some.inj h1
    have e2 := Option.some.inj h2
    have e3 := Option.some.inj h3
    have e4 := Option.some.inj h4
    have e5 := Option.some.inj h5
    rw [onK_eq] at e2 e3 e4 e5
    have ep : p s = x := congrArg (fun z => z.1) e1
    have eq : q s = y := congrArg (fun z => z.2.1) e1
    unfold ob
    rw [obsQ_is, ep, eq, e2]
    generalize He.frG (HandSHeadRun.getT s) (asQ (HandSHeadRun.getT s)) = K at e3 e4 e5 ⊢
    have a4 : (fnP.all fun d => d.ok K) = true := congrArg (fun z => z.1) e4
    have a5 : (fnQ.all fun d => d.ok K) = true := congrArg (fun z => z.1) e5
    have b4 : (fnP.map fun d => He.fnW K d.at_) = fnP.map He.DefD.val := congrArg (fun z => z.2) e4
    have b5 : (fnQ.map fun d => He.fnW K d.at_) = fnQ.map He.DefD.val := congrArg (fun z => z.2) e5
    have e3' : (fa.all fun f => f.ok K) = true := e3
    have e6 : He.obsD fa fn K = He.valD fn := by
      show ((fa.all fun f => f.ok K) && fn.all fun d => d.ok K, fn.map fun d => He.fnW K d.at_) = (true, fn.map He.DefD.val)
      unfold fn
      rw [List.all_append, List.map_append, List.map_append, e3', a4, a5, b4, b5]
      rfl
    rw [e6]
theorem run (w : World) : HandSHeadRun.RunEq R (PySem.W.view R.prog [82]) (hookQ fa fn ex) ob 16000 loose w := fun os =>
  join (run1 w os) (run2 w os) (run3 w os) (run4 w os) (run5 w os)
/-! ### the facts -/
theorem apart_ne : ∀ {l : List Addr}, apartB l = true → ∀ {i j : Nat} {a b : Addr}, i < j → l[i]? = some a → l[j]? = some b → a ≠ b
  | [], _, _, _, _, _, _, h, _ => by cases h
  | c :: r, h, i, j, a, b, hij, hi, hj => by
    obtain ⟨h1, h2⟩ := He.ba (show (r.all (fun b => !(Nat.beq c b)) && apartB r) = true from h)
    cases j with
    | zero => omega
    | succ j =>
      rw [List.getElem?_cons_succ] at hj
      cases i with
      | zero =>
        have e : c = a := Option.some.inj hi
        have z := List.all_eq_true.mp h1 b (List.mem_of_getElem? hj)
        intro q
        rw [e, q] at z
        have z2 : Nat.beq b b = true := Nat.beq_refl b
        rw [z2] at z
        cases z
      | succ i =>
        rw [List.getElem?_cons_succ] at hi
        exact apart_ne h2 (by omega) hi hj
section
variable {K : PySem.W.Frag} {h : Heap} {mg : Str → Option Value}
def Wa (K : PySem.W.Frag) : Addr := He.ga K "WindError"
def csA (K : PySem.W.Frag) (i : Nat) : Addr := He.ga K (nmA.getD i Str.empty)
def fiA (K : PySem.W.Frag) (i : Nat) : Addr := He.ma K (csA K i) "__init__"
theorem exAll (hx : ex K = true) : ErrC K veT (Wa K) ∧ (∀ x ∈ nmA, ErrC K (.ref (Wa K) :: veT) (He.ga K x)) ∧ (∀ x ∈ nmG, iniB K "given" x = true) ∧ (∀ x ∈ nmI, iniB K "index" x = true) ∧ apartB (Wa K :: nmA.map (He.ga K)) = true := by
  unfold ex at hx
  obtain ⟨h0, hx⟩ := He.ba hx
  obtain ⟨h1, hx⟩ := He.ba hx
  obtain ⟨h2, hx⟩ := He.ba hx
  obtain ⟨h3, h4⟩ := He.ba hx
  rw [evL_eq] at h4
  have sp : PySem.W.specialIn K (.builtin "object.__class__") "__get__" = some (some (.builtin "getset_descriptor.__get__")) := rfl
  have tk : PySem.W.takesIn K (.builtin "object.__class__") = some true := by rfl
  exact ⟨errB_ok (by rfl) sp tk h0, fun x hm => errB_ok (by rfl) sp tk (List.all_eq_true.mp h1 x hm), List.all_eq_true.mp h2, List.all_eq_true.mp h3, h4⟩
theorem iniRow (X : K.In h) (G : h.Ns mainGlobals mg) (hx : ex K = true) {f x qu : Str} {i : Nat} (hm : x ∈ nmA) (hi : iniB K f x = true) (hg : (He.Fa.glo x).ok K = true)
    (hd : ∃ fd, FunD K "__init__" qu (defArgs (inClass (top i) 0)) (defBody (inClass (top i) 0)) (defScope (inClass (top i) 0)) [] [] (He.ma K (He.ga K x) "__init__") fd) (sh : IniShape f (defArgs (inClass (top i) 0)) (defBody (inClass (top i) 0)) (defScope (inClass (top i) 0))) :
    ∃ fd, Kls K mg (Wa K) f x (He.ga K x) (He.ma K (He.ga K x) "__init__") fd := by
  obtain ⟨fd, F⟩ := hd
  obtain ⟨_, hA, _, _, _⟩ := exAll hx
  obtain ⟨c1, c⟩ := He.ba (show (He.eqO (PySem.W.findIn K (.ref (He.ga K x)) "__init__") (some (some (.ref (He.ma K (He.ga K x) "__init__")))) && (decide (PySem.W.typeIn K (.ref (He.ma K (He.ga K x) "__init__")) = some (.type "function")) && He.eqO (PySem.W.findIn K (.ref (He.ga K x)) f) (some none))) = true from hi)
  obtain ⟨c2, c3⟩ := He.ba c
  exact ⟨fd, hA x hm, He.glo_ok X G hg, He.eqO_ok c1, of_decide_eq_true c2, He.eqO_ok c3, _, _, _, _, F, sh⟩
theorem rowG (X : K.In h) (G : h.Ns mainGlobals mg) (hx : ex K = true) (c : He.SaysD fa fn K) : ∀ (i : Nat) (x : Str), nmG[i]? = some x → ∃ fd, Kls K mg (Wa K) "given" x (He.ga K x) (He.ma K (He.ga K x) "__init__") fd := by
  obtain ⟨_, _, hG, hI, _⟩ := exAll hx
  have mA : ∀ x ∈ nmG, x ∈ nmA := fun x hm => List.mem_append_left _ hm
  intro i x hi
  have hm := List.mem_of_getElem? hi
  match i, hi with
  | 0, rfl => exact iniRow X G hx (i := 2) (mA _ hm) (hG _ hm) (c.fact 1 (f := .glo "InvalidFraction") rfl) (c.def_ 20 (d := dIni 2 "InvalidFraction" "InvalidFraction.__init__") rfl) ⟨⟨_, _, rfl⟩, ⟨_, _, _, _, rfl⟩, rfl⟩
  | 1, rfl => exact iniRow X G hx (i := 3) (mA _ hm) (hG _ hm) (c.fact 2 (f := .glo "InvalidTime") rfl) (c.def_ 21 (d := dIni 3 "InvalidTime" "InvalidTime.__init__") rfl) ⟨⟨_, _, rfl⟩, ⟨_, _, _, _, rfl⟩, rfl⟩
  | 2, rfl => exact iniRow X G hx (i := 4) (mA _ hm) (hG _ hm) (c.fact 3 (f := .glo "InvalidPoint") rfl) (c.def_ 22 (d := dIni 4 "InvalidPoint" "InvalidPoint.__init__") rfl) ⟨⟨_, _, rfl⟩, ⟨_, _, _, _, rfl⟩, rfl⟩
  | 3, rfl => exact iniRow X G hx (i := 5) (mA _ hm) (hG _ hm) (c.fact 4 (f := .glo "InvalidDirection") rfl) (c.def_ 23 (d := dIni 5 "InvalidDirection" "InvalidDirection.__init__") rfl) ⟨⟨_, _, rfl⟩, ⟨_, _, _, _, rfl⟩, rfl⟩
  | 4, rfl => exact iniRow X G hx (i := 6) (mA _ hm) (hG _ hm) (c.fact 5 (f := .glo "InvalidSide") rfl) (c.def_ 24 (d := dIni 6 "InvalidSide" "InvalidSide.__init__") rfl) ⟨⟨_, _, rfl⟩, ⟨_, _, _, _, rfl⟩, rfl⟩
  | 5, rfl => exact iniRow X G hx (i := 7) (mA _ hm) (hG _ hm) (c.fact 6 (f := .glo "InvalidNormal") rfl) (c.def_ 25 (d := dIni 7 "InvalidNormal" "InvalidNormal.__init__") rfl) ⟨⟨_, _, rfl⟩, ⟨_, _, _, _, rfl⟩, rfl⟩
  | 6, rfl => exact iniRow X G hx (i := 8) (mA _ hm) (hG _ hm) (c.fact 7 (f := .glo "InvalidPolygon") rfl) (c.def_ 26 (d := dIni 8 "InvalidPolygon" "InvalidPolygon.__init__") rfl) ⟨⟨_, _, rfl⟩, ⟨_, _, _, _, rfl⟩, rfl⟩
  | 7, rfl => exact iniRow X G hx (i := 9) (mA _ hm) (hG _ hm) (c.fact 8 (f := .glo "InvalidFigure") rfl) (c.def_ 27 (d := dIni 9 "InvalidFigure" "InvalidFigure.__init__") rfl) ⟨⟨_, _, rfl⟩, ⟨_, _, _, _, rfl⟩, rfl⟩
  | 8, rfl => exact iniRow X G hx (i := 10) (mA _ hm) (hG _ hm) (c.fact 9 (f := .glo "InvalidWater") rfl) (c.def_ 28 (d := dIni 10 "InvalidWater" "InvalidWater.__init__") rfl) ⟨⟨_, _, rfl⟩, ⟨_, _, _, _, rfl⟩, rfl⟩
  | 9, rfl => exact iniRow X G hx (i := 11) (mA _ hm) (hG _ hm) (c.fact 10 (f := .glo "InvalidWind") rfl) (c.def_ 29 (d := dIni 11 "InvalidWind" "InvalidWind.__init__") rfl) ⟨⟨_, _, rfl⟩, ⟨_, _, _, _, rfl⟩, rfl⟩
  | 10, rfl => exact iniRow X G hx (i := 12) (mA _ hm) (hG _ hm) (c.fact 11 (f := .glo "InvalidArc") rfl) (c.def_ 30 (d := dIni 12 "InvalidArc" "InvalidArc.__init__") rfl) ⟨⟨_, _, rfl⟩, ⟨_, _, _, _, rfl⟩, rfl⟩
  | 11, rfl => exact iniRow X G hx (i := 13) (mA _ hm) (hG _ hm) (c.fact 12 (f := .glo "InvalidNote") rfl) (c.def_ 31 (d := dIni 13 "InvalidNote" "InvalidNote.__init__") rfl) ⟨⟨_, _, rfl⟩, ⟨_, _, _, _, rfl⟩, rfl⟩
  | 12, rfl => exact iniRow X G hx (i := 14) (mA _ hm) (hG _ hm) (c.fact 13 (f := .glo "InvalidWeather") rfl) (c.def_ 32 (d := dIni 14 "InvalidWeather" "InvalidWeather.__init__") rfl) ⟨⟨_, _, rfl⟩, ⟨_, _, _, _, rfl⟩, rfl⟩
  | 13, rfl => exact iniRow X G hx (i := 15) (mA _ hm) (hG _ hm) (c.fact 14 (f := .glo "InvalidNumber") rfl) (c.def_ 33 (d := dIni 15 "InvalidNumber" "InvalidNumber.__init__") rfl) ⟨⟨_, _, rfl⟩, ⟨_, _, _, _, rfl⟩, rfl⟩
  | 14, rfl => exact iniRow X G hx (i := 16) (mA _ hm) (hG _ hm) (c.fact 15 (f := .glo "InvalidIndex") rfl) (c.def_ 34 (d := dIni 16 "InvalidIndex" "InvalidIndex.__init__") rfl) ⟨⟨_, _, rfl⟩, ⟨_, _, _, _, rfl⟩, rfl⟩
  | 15, rfl => exact iniRow X G hx (i := 17) (mA _ hm) (hG _ hm) (c.fact 16 (f := .glo "InvalidOrder") rfl) (c.def_ 35 (d := dIni 17 "InvalidOrder" "InvalidOrder.__init__") rfl) ⟨⟨_, _, rfl⟩, ⟨_, _, _, _, rfl⟩, rfl⟩
  | 16, rfl => exact iniRow X G hx (i := 18) (mA _ hm) (hG _ hm) (c.fact 17 (f := .glo "InvalidChannel") rfl) (c.def_ 36 (d := dIni 18 "InvalidChannel" "InvalidChannel.__init__") rfl) ⟨⟨_, _, rfl⟩, ⟨_, _, _, _, rfl⟩, rfl⟩
  | 17, rfl => exact iniRow X G hx (i := 19) (mA _ hm) (hG _ hm) (c.fact 18 (f := .glo "InvalidForm") rfl) (c.def_ 37 (d := dIni 19 "InvalidForm" "InvalidForm.__init__") rfl) ⟨⟨_, _, rfl⟩, ⟨_, _, _, _, rfl⟩, rfl⟩
  | 18, rfl => exact iniRow X G hx (i := 20) (mA _ hm) (hG _ hm) (c.fact 19 (f := .glo "InvalidWeights") rfl) (c.def_ 38 (d := dIni 20 "InvalidWeights" "InvalidWeights.__init__") rfl) ⟨⟨_, _, rfl⟩, ⟨_, _, _, _, rfl⟩, rfl⟩
  | 19, rfl => exact iniRow X G hx (i := 21) (mA _ hm) (hG _ hm) (c.fact 20 (f := .glo "InvalidMover") rfl) (c.def_ 39 (d := dIni 21 "InvalidMover" "InvalidMover.__init__") rfl) ⟨⟨_, _, rfl⟩, ⟨_, _, _, _, rfl⟩, rfl⟩
  | 20, rfl => exact iniRow X G hx (i := 22) (mA _ hm) (hG _ hm) (c.fact 21 (f := .glo "InvalidStarter") rfl) (c.def_ 40 (d := dIni 22 "InvalidStarter" "InvalidStarter.__init__") rfl) ⟨⟨_, _, rfl⟩, ⟨_, _, _, _, rfl⟩, rfl⟩
  | 21, rfl => exact iniRow X G hx (i := 23) (mA _ hm) (hG _ hm) (c.fact 22 (f := .glo "InvalidName") rfl) (c.def_ 41 (d := dIni 23 "InvalidName" "InvalidName.__init__") rfl) ⟨⟨_, _, rfl⟩, ⟨_, _, _, _, rfl⟩, rfl⟩
  | 22, rfl => exact iniRow X G hx (i := 24) (mA _ hm) (hG _ hm) (c.fact 23 (f := .glo "InvalidWish") rfl) (c.def_ 42 (d := dIni 24 "InvalidWish" "InvalidWish.__init__") rfl) ⟨⟨_, _, rfl⟩, ⟨_, _, _, _, rfl⟩, rfl⟩
  | 23, rfl => exact iniRow X G hx (i := 25) (mA _ hm) (hG _ hm) (c.fact 24 (f := .glo "InvalidPhrase") rfl) (c.def_ 43 (d := dIni 25 "InvalidPhrase" "InvalidPhrase.__init__") rfl) ⟨⟨_, _, rfl⟩, ⟨_, _, _, _, rfl⟩, rfl⟩
  | 24, rfl => exact iniRow X G hx (i := 26) (mA _ hm) (hG _ hm) (c.fact 25 (f := .glo "InIsle") rfl) (c.def_ 44 (d := dIni 26 "InIsle" "InIsle.__init__") rfl) ⟨⟨_, _, rfl⟩, ⟨_, _, _, _, rfl⟩, rfl⟩
  | 25, rfl => exact iniRow X G hx (i := 27) (mA _ hm) (hG _ hm) (c.fact 26 (f := .glo "OutOfChannel") rfl) (c.def_ 45 (d := dIni 27 "OutOfChannel" "OutOfChannel.__init__") rfl) ⟨⟨_, _, rfl⟩, ⟨_, _, _, _, rfl⟩, rfl⟩
  | 26, rfl => exact iniRow X G hx (i := 28) (mA _ hm) (hG _ hm) (c.fact 27 (f := .glo "NotAlong") rfl) (c.def_ 46 (d := dIni 28 "NotAlong" "NotAlong.__init__") rfl) ⟨⟨_, _, rfl⟩, ⟨_, _, _, _, rfl⟩, rfl⟩
  | 27, rfl => exact iniRow X G hx (i := 29) (mA _ hm) (hG _ hm) (c.fact 28 (f := .glo "OffWater") rfl) (c.def_ 47 (d := dIni 29 "OffWater" "OffWater.__init__") rfl) ⟨⟨_, _, rfl⟩, ⟨_, _, _, _, rfl⟩, rfl⟩
  | 28, rfl => exact iniRow X G hx (i := 30) (mA _ hm) (hG _ hm) (c.fact 29 (f := .glo "NoBearing") rfl) (c.def_ 48 (d := dIni 30 "NoBearing" "NoBearing.__init__") rfl) ⟨⟨_, _, rfl⟩, ⟨_, _, _, _, rfl⟩, rfl⟩
  | 29, rfl => exact iniRow X G hx (i := 31) (mA _ hm) (hG _ hm) (c.fact 30 (f := .glo "OutOfPolygon") rfl) (c.def_ 49 (d := dIni 31 "OutOfPolygon" "OutOfPolygon.__init__") rfl) ⟨⟨_, _, rfl⟩, ⟨_, _, _, _, rfl⟩, rfl⟩
  | 30, rfl => exact iniRow X G hx (i := 32) (mA _ hm) (hG _ hm) (c.fact 31 (f := .glo "NotAWorkshop") rfl) (c.def_ 50 (d := dIni 32 "NotAWorkshop" "NotAWorkshop.__init__") rfl) ⟨⟨_, _, rfl⟩, ⟨_, _, _, _, rfl⟩, rfl⟩
  | 31, rfl => exact iniRow X G hx (i := 33) (mA _ hm) (hG _ hm) (c.fact 32 (f := .glo "TooMany") rfl) (c.def_ 51 (d := dIni 33 "TooMany" "TooMany.__init__") rfl) ⟨⟨_, _, rfl⟩, ⟨_, _, _, _, rfl⟩, rfl⟩
  | 32, rfl => exact iniRow X G hx (i := 34) (mA _ hm) (hG _ hm) (c.fact 33 (f := .glo "UnknownName") rfl) (c.def_ 52 (d := dIni 34 "UnknownName" "UnknownName.__init__") rfl) ⟨⟨_, _, rfl⟩, ⟨_, _, _, _, rfl⟩, rfl⟩
  | 33, rfl => exact iniRow X G hx (i := 35) (mA _ hm) (hG _ hm) (c.fact 34 (f := .glo "Same") rfl) (c.def_ 53 (d := dIni 35 "Same" "Same.__init__") rfl) ⟨⟨_, _, rfl⟩, ⟨_, _, _, _, rfl⟩, rfl⟩
  | n + 34, hi => cases hi
theorem rowI (X : K.In h) (G : h.Ns mainGlobals mg) (hx : ex K = true) (c : He.SaysD fa fn K) : ∀ (i : Nat) (x : Str), nmI[i]? = some x → ∃ fd, Kls K mg (Wa K) "index" x (He.ga K x) (He.ma K (He.ga K x) "__init__") fd := by
  obtain ⟨_, _, hG, hI, _⟩ := exAll hx
  have mA : ∀ x ∈ nmI, x ∈ nmA := fun x hm => List.mem_append_right _ (List.mem_append_left _ hm)
  intro i x hi
  have hm := List.mem_of_getElem? hi
  match i, hi with
  | 0, rfl => exact iniRow X G hx (i := 36) (mA _ hm) (hI _ hm) (c.fact 35 (f := .glo "InvalidPoints") rfl) (c.def_ 54 (d := dIni 36 "InvalidPoints" "InvalidPoints.__init__") rfl) ⟨⟨_, _, rfl⟩, ⟨_, _, _, _, rfl⟩, rfl⟩
  | 1, rfl => exact iniRow X G hx (i := 37) (mA _ hm) (hI _ hm) (c.fact 36 (f := .glo "InvalidPaces") rfl) (c.def_ 55 (d := dIni 37 "InvalidPaces" "InvalidPaces.__init__") rfl) ⟨⟨_, _, rfl⟩, ⟨_, _, _, _, rfl⟩, rfl⟩
  | 2, rfl => exact iniRow X G hx (i := 38) (mA _ hm) (hI _ hm) (c.fact 37 (f := .glo "InvalidTacks") rfl) (c.def_ 56 (d := dIni 38 "InvalidTacks" "InvalidTacks.__init__") rfl) ⟨⟨_, _, rfl⟩, ⟨_, _, _, _, rfl⟩, rfl⟩
  | 3, rfl => exact iniRow X G hx (i := 39) (mA _ hm) (hI _ hm) (c.fact 38 (f := .glo "InvalidHours") rfl) (c.def_ 57 (d := dIni 39 "InvalidHours" "InvalidHours.__init__") rfl) ⟨⟨_, _, rfl⟩, ⟨_, _, _, _, rfl⟩, rfl⟩
  | 4, rfl => exact iniRow X G hx (i := 40) (mA _ hm) (hI _ hm) (c.fact 39 (f := .glo "InvalidPlaces") rfl) (c.def_ 58 (d := dIni 40 "InvalidPlaces" "InvalidPlaces.__init__") rfl) ⟨⟨_, _, rfl⟩, ⟨_, _, _, _, rfl⟩, rfl⟩
  | 5, rfl => exact iniRow X G hx (i := 41) (mA _ hm) (hI _ hm) (c.fact 40 (f := .glo "InvalidCourse") rfl) (c.def_ 59 (d := dIni 41 "InvalidCourse" "InvalidCourse.__init__") rfl) ⟨⟨_, _, rfl⟩, ⟨_, _, _, _, rfl⟩, rfl⟩
  | 6, rfl => exact iniRow X G hx (i := 42) (mA _ hm) (hI _ hm) (c.fact 41 (f := .glo "InvalidSails") rfl) (c.def_ 60 (d := dIni 42 "InvalidSails" "InvalidSails.__init__") rfl) ⟨⟨_, _, rfl⟩, ⟨_, _, _, _, rfl⟩, rfl⟩
  | 7, rfl => exact iniRow X G hx (i := 43) (mA _ hm) (hI _ hm) (c.fact 42 (f := .glo "InvalidIsles") rfl) (c.def_ 61 (d := dIni 43 "InvalidIsles" "InvalidIsles.__init__") rfl) ⟨⟨_, _, rfl⟩, ⟨_, _, _, _, rfl⟩, rfl⟩
  | 8, rfl => exact iniRow X G hx (i := 44) (mA _ hm) (hI _ hm) (c.fact 43 (f := .glo "InvalidRoute") rfl) (c.def_ 62 (d := dIni 44 "InvalidRoute" "InvalidRoute.__init__") rfl) ⟨⟨_, _, rfl⟩, ⟨_, _, _, _, rfl⟩, rfl⟩
  | 9, rfl => exact iniRow X G hx (i := 45) (mA _ hm) (hI _ hm) (c.fact 44 (f := .glo "InvalidHeights") rfl) (c.def_ 63 (d := dIni 45 "InvalidHeights" "InvalidHeights.__init__") rfl) ⟨⟨_, _, rfl⟩, ⟨_, _, _, _, rfl⟩, rfl⟩
  | 10, rfl => exact iniRow X G hx (i := 46) (mA _ hm) (hI _ hm) (c.fact 45 (f := .glo "InvalidMarks") rfl) (c.def_ 64 (d := dIni 46 "InvalidMarks" "InvalidMarks.__init__") rfl) ⟨⟨_, _, rfl⟩, ⟨_, _, _, _, rfl⟩, rfl⟩
  | 11, rfl => exact iniRow X G hx (i := 47) (mA _ hm) (hI _ hm) (c.fact 46 (f := .glo "InvalidGates") rfl) (c.def_ 65 (d := dIni 47 "InvalidGates" "InvalidGates.__init__") rfl) ⟨⟨_, _, rfl⟩, ⟨_, _, _, _, rfl⟩, rfl⟩
  | 12, rfl => exact iniRow X G hx (i := 48) (mA _ hm) (hI _ hm) (c.fact 47 (f := .glo "InvalidCrossing") rfl) (c.def_ 66 (d := dIni 48 "InvalidCrossing" "InvalidCrossing.__init__") rfl) ⟨⟨_, _, rfl⟩, ⟨_, _, _, _, rfl⟩, rfl⟩
  | 13, rfl => exact iniRow X G hx (i := 49) (mA _ hm) (hI _ hm) (c.fact 48 (f := .glo "InvalidShores") rfl) (c.def_ 67 (d := dIni 49 "InvalidShores" "InvalidShores.__init__") rfl) ⟨⟨_, _, rfl⟩, ⟨_, _, _, _, rfl⟩, rfl⟩
  | 14, rfl => exact iniRow X G hx (i := 50) (mA _ hm) (hI _ hm) (c.fact 49 (f := .glo "InvalidStarters") rfl) (c.def_ 68 (d := dIni 50 "InvalidStarters" "InvalidStarters.__init__") rfl) ⟨⟨_, _, rfl⟩, ⟨_, _, _, _, rfl⟩, rfl⟩
  | 15, rfl => exact iniRow X G hx (i := 51) (mA _ hm) (hI _ hm) (c.fact 50 (f := .glo "InvalidMovers") rfl) (c.def_ 69 (d := dIni 51 "InvalidMovers" "InvalidMovers.__init__") rfl) ⟨⟨_, _, rfl⟩, ⟨_, _, _, _, rfl⟩, rfl⟩
  | 16, rfl => exact iniRow X G hx (i := 52) (mA _ hm) (hI _ hm) (c.fact 51 (f := .glo "InvalidFlight") rfl) (c.def_ 70 (d := dIni 52 "InvalidFlight" "InvalidFlight.__init__") rfl) ⟨⟨_, _, rfl⟩, ⟨_, _, _, _, rfl⟩, rfl⟩
  | 17, rfl => exact iniRow X G hx (i := 53) (mA _ hm) (hI _ hm) (c.fact 52 (f := .glo "InvalidFigures") rfl) (c.def_ 71 (d := dIni 53 "InvalidFigures" "InvalidFigures.__init__") rfl) ⟨⟨_, _, rfl⟩, ⟨_, _, _, _, rfl⟩, rfl⟩
  | 18, rfl => exact iniRow X G hx (i := 54) (mA _ hm) (hI _ hm) (c.fact 53 (f := .glo "InvalidNotes") rfl) (c.def_ 72 (d := dIni 54 "InvalidNotes" "InvalidNotes.__init__") rfl) ⟨⟨_, _, rfl⟩, ⟨_, _, _, _, rfl⟩, rfl⟩
  | 19, rfl => exact iniRow X G hx (i := 55) (mA _ hm) (hI _ hm) (c.fact 54 (f := .glo "InvalidTrips") rfl) (c.def_ 73 (d := dIni 55 "InvalidTrips" "InvalidTrips.__init__") rfl) ⟨⟨_, _, rfl⟩, ⟨_, _, _, _, rfl⟩, rfl⟩
  | 20, rfl => exact iniRow X G hx (i := 56) (mA _ hm) (hI _ hm) (c.fact 55 (f := .glo "InUse") rfl) (c.def_ 74 (d := dIni 56 "InUse" "InUse.__init__") rfl) ⟨⟨_, _, rfl⟩, ⟨_, _, _, _, rfl⟩, rfl⟩
  | 21, rfl => exact iniRow X G hx (i := 57) (mA _ hm) (hI _ hm) (c.fact 56 (f := .glo "Broken") rfl) (c.def_ 75 (d := dIni 57 "Broken" "Broken.__init__") rfl) ⟨⟨_, _, rfl⟩, ⟨_, _, _, _, rfl⟩, rfl⟩
  | n + 22, hi => cases hi
end
end K1
namespace K1
open PySem PySem.Spec PyProof.Rows L2
section
variable {P : Program} {w : World} {K : PySem.W.Frag} {h : Heap} {mg : Str → Option Value}
theorem atA {i : Nat} (hi : i < 60) : ∃ x, nmA[i]? = some x ∧ nmA.getD i Str.empty = x ∧ x ∈ nmA := by
  have hl : i < nmA.length := hi
  refine ⟨nmA[i], List.getElem?_eq_getElem hl, ?_, List.getElem_mem hl⟩
  rw [List.getD_eq_getElem?_getD, List.getElem?_eq_getElem hl]
  rfl
theorem getA {i : Nat} {x : Str} (e : nmA[i]? = some x) : nmA.getD i Str.empty = x := by
  rw [List.getD_eq_getElem?_getD, e]
  rfl
theorem nG {i : Nat} {x : Str} (e : nmG[i]? = some x) : i < 34 ∧ nmA.getD i Str.empty = x := by
  have hl : i < nmG.length := (List.getElem?_eq_some_iff.mp e).1
  exact ⟨hl, getA ((List.getElem?_append_left hl).trans e)⟩
theorem nI {i : Nat} {x : Str} (e : nmI[i]? = some x) : nmA.getD (34 + i) Str.empty = x := by
  have hl : i < nmI.length := (List.getElem?_eq_some_iff.mp e).1
  refine getA ?_
  unfold nmA
  rw [List.getElem?_append_right (show nmG.length ≤ 34 + i from Nat.le_add_right 34 i), show 34 + i - nmG.length = i from Nat.add_sub_cancel_left 34 i]
  exact (List.getElem?_append_left hl).trans e
theorem nB {i : Nat} {x : Str} (e : nmB[i]? = some x) : nmA.getD (56 + i) Str.empty = x := by
  refine getA ?_
  unfold nmA
  rw [List.getElem?_append_right (show nmG.length ≤ 56 + i from Nat.le_trans (by decide : 34 ≤ 56) (Nat.le_add_right 56 i)), List.getElem?_append_right (show nmI.length ≤ 56 + i - nmG.length by show 22 ≤ 56 + i - 34; omega)]
  rw [show 56 + i - nmG.length - nmI.length = i by show 56 + i - 34 - 22 = i; omega]
  exact e
theorem allFacts (X : K.In h) (G : h.Ns mainGlobals mg) (hx : ex K = true) (c : He.SaysD fa fn K) : ∃ fds : Nat → FuncData, All K mg (Wa K) (csA K) (fiA K) fds := by
  obtain ⟨hW, hA, _, _, hap⟩ := exAll hx
  obtain ⟨fd0, _⟩ := c.def_ 19 (d := dDef 82 "law") rfl
  have pG : ∀ i : Nat, ∃ fd, ∀ x, nmG[i]? = some x → Kls K mg (Wa K) "given" x (He.ga K x) (He.ma K (He.ga K x) "__init__") fd := fun i => by
    cases q : nmG[i]? with
    | none => exact ⟨fd0, fun x z => nomatch z⟩
    | some y =>
      obtain ⟨fd, k⟩ := rowG X G hx c i y q
      exact ⟨fd, fun x z => by cases z; exact k⟩
  have pI : ∀ i : Nat, ∃ fd, ∀ x, nmI[i]? = some x → Kls K mg (Wa K) "index" x (He.ga K x) (He.ma K (He.ga K x) "__init__") fd := fun i => by
    cases q : nmI[i]? with
    | none => exact ⟨fd0, fun x z => nomatch z⟩
    | some y =>
      obtain ⟨fd, k⟩ := rowI X G hx c i y q
      exact ⟨fd, fun x z => by cases z; exact k⟩
  obtain ⟨fG, hG⟩ := Classical.axiomOfChoice pG
  obtain ⟨fI, hI⟩ := Classical.axiomOfChoice pI
  have at1 : ∀ i, i < 60 → (Wa K :: nmA.map (He.ga K))[i + 1]? = some (csA K i) := fun i hi => by
    obtain ⟨x, e1, e2, _⟩ := atA hi
    rw [List.getElem?_cons_succ, List.getElem?_map, e1]
    unfold csA
    rw [e2]
    rfl
  refine ⟨fun i => if i < 34 then fG i else fI (i - 34), ⟨⟨.inl rfl, fun i x e => ?_⟩, ⟨.inr rfl, fun i x e => ?_⟩, fun i x e => ?_, fun i hi => ?_, He.glo_ok X G (c.fact 0 (f := .glo "WindError") rfl), hW, (He.exc_ok (c.fact 102 (f := .exc "WindError") rfl)).1, fun i j hi hj e => ?_, fun i hi => ?_, ?_, He.free_ok X G (c.fact 92 (f := .free "ValueError") rfl), He.free_ok X G (c.fact 93 (f := .free "Exception") rfl), He.free_ok X G (c.fact 94 (f := .free "LookupError") rfl), He.free_ok X G (c.fact 95 (f := .free "ArithmeticError") rfl), He.free_ok X G (c.fact 96 (f := .free "RuntimeError") rfl), He.free_ok X G (c.fact 97 (f := .free "AttributeError") rfl)⟩⟩
  · obtain ⟨hl, z⟩ := nG e
    show Kls K mg (Wa K) "given" x (He.ga K (nmA.getD i Str.empty)) (He.ma K (He.ga K (nmA.getD i Str.empty)) "__init__") (if i < 34 then fG i else fI (i - 34))
    rw [z, if_pos hl]
    exact hG i x e
  · have z := nI e
    show Kls K mg (Wa K) "index" x (He.ga K (nmA.getD (34 + i) Str.empty)) (He.ma K (He.ga K (nmA.getD (34 + i) Str.empty)) "__init__") (if 34 + i < 34 then fG (34 + i) else fI (34 + i - 34))
    rw [z, if_neg (by omega), Nat.add_sub_cancel_left]
    exact hI i x e
  · have z := nB e
    show mg x = some (.ref (He.ga K (nmA.getD (56 + i) Str.empty))) ∧ ErrC K (.ref (Wa K) :: veT) (He.ga K (nmA.getD (56 + i) Str.empty)) ∧ PySem.W.excIn K (He.ga K (nmA.getD (56 + i) Str.empty)) He.veBase "ValueError.__new__" = true
    rw [z]
    have hm : x ∈ nmA := List.mem_append_right _ (List.mem_append_right _ (List.mem_of_getElem? e))
    match i, e with
    | 0, rfl => exact ⟨He.glo_ok X G (c.fact 57 (f := .glo "NoArea") rfl), hA _ hm, (He.exc_ok (c.fact 98 (f := .exc "NoArea") rfl)).1⟩
    | 1, rfl => exact ⟨He.glo_ok X G (c.fact 58 (f := .glo "NoFigureFits") rfl), hA _ hm, (He.exc_ok (c.fact 99 (f := .exc "NoFigureFits") rfl)).1⟩
    | 2, rfl => exact ⟨He.glo_ok X G (c.fact 59 (f := .glo "NotSure") rfl), hA _ hm, (He.exc_ok (c.fact 100 (f := .exc "NotSure") rfl)).1⟩
    | 3, rfl => exact ⟨He.glo_ok X G (c.fact 60 (f := .glo "NothingToUndo") rfl), hA _ hm, (He.exc_ok (c.fact 101 (f := .exc "NothingToUndo") rfl)).1⟩
    | n + 4, e => cases e
  · obtain ⟨x, _, e2, hm⟩ := atA hi
    unfold csA
    rw [e2]
    exact hA x hm
  · rcases Nat.lt_trichotomy i j with q | q | q
    · exact absurd e (apart_ne hap (Nat.succ_lt_succ q) (at1 i hi) (at1 j hj))
    · exact q
    · exact absurd e.symm (apart_ne hap (Nat.succ_lt_succ q) (at1 j hj) (at1 i hi))
  · exact fun z => apart_ne hap (Nat.succ_pos i) rfl (at1 i hi) z.symm
  · exact ⟨He.free_ok X G (c.fact 81 (f := .free "int") rfl), He.free_ok X G (c.fact 82 (f := .free "abs") rfl), He.free_ok X G (c.fact 83 (f := .free "len") rfl), He.free_ok X G (c.fact 84 (f := .free "max") rfl), He.free_ok X G (c.fact 85 (f := .free "min") rfl), He.free_ok X G (c.fact 86 (f := .free "divmod") rfl), He.free_ok X G (c.fact 87 (f := .free "tuple") rfl), He.free_ok X G (c.fact 88 (f := .free "list") rfl), He.free_ok X G (c.fact 89 (f := .free "repr") rfl), He.free_ok X G (c.fact 90 (f := .free "range") rfl), He.free_ok X G (c.fact 91 (f := .free "isinstance") rfl)⟩
theorem lawFacts (X : K.In h) (G : h.Ns mainGlobals mg) {f : Addr} (hfa : mg "law" = some (.ref f)) (hx : ex K = true) (c : He.SaysD fa fn K) :
    ∃ fd : FuncData, (∀ (s : Shared) (v : Value), BindsTo s fd ⟨[v], []⟩ [("_law_script", v)]) ∧ ∀ base : Heap, K.In base → base.Ns mainGlobals mg → FnG P w K mg base CX0 7 f fd ["_law_script"] (spLaw K) := by
  obtain ⟨fds, T⟩ := allFacts X G hx c
  obtain ⟨fd_law_source, F_law_source⟩ := c.def_ 0 (d := dDef 63 "_law_source") rfl
  have F_law_source : FnP K "_law_source" (top 63) (He.ga K "_law_source") fd_law_source := F_law_source
  have g_law_source : mg "_law_source" = some (.ref (He.ga K "_law_source")) := He.glo_ok X G (c.fact 61 (f := .glo "_law_source") rfl)
  obtain ⟨fd_law_rounds, F_law_rounds⟩ := c.def_ 1 (d := dDef 64 "_law_rounds") rfl
  have F_law_rounds : FnP K "_law_rounds" (top 64) (He.ga K "_law_rounds") fd_law_rounds := F_law_rounds
  have g_law_rounds : mg "_law_rounds" = some (.ref (He.ga K "_law_rounds")) := He.glo_ok X G (c.fact 62 (f := .glo "_law_rounds") rfl)
  obtain ⟨fd_law_draw, F_law_draw⟩ := c.def_ 2 (d := dDef 65 "_law_draw") rfl
  have F_law_draw : FnP K "_law_draw" (top 65) (He.ga K "_law_draw") fd_law_draw := F_law_draw
  have g_law_draw : mg "_law_draw" = some (.ref (He.ga K "_law_draw")) := He.glo_ok X G (c.fact 63 (f := .glo "_law_draw") rfl)
  obtain ⟨fd_law_pick, F_law_pick⟩ := c.def_ 3 (d := dDef 66 "_law_pick") rfl
  have F_law_pick : FnP K "_law_pick" (top 66) (He.ga K "_law_pick") fd_law_pick := F_law_pick
  have g_law_pick : mg "_law_pick" = some (.ref (He.ga K "_law_pick")) := He.glo_ok X G (c.fact 64 (f := .glo "_law_pick") rfl)
  obtain ⟨fd_law_least, F_law_least⟩ := c.def_ 4 (d := dDef 67 "_law_least") rfl
  have F_law_least : FnP K "_law_least" (top 67) (He.ga K "_law_least") fd_law_least := F_law_least
  have g_law_least : mg "_law_least" = some (.ref (He.ga K "_law_least")) := He.glo_ok X G (c.fact 65 (f := .glo "_law_least") rfl)
  obtain ⟨fd_law_spot, F_law_spot⟩ := c.def_ 5 (d := dDef 68 "_law_spot") rfl
  have F_law_spot : FnP K "_law_spot" (top 68) (He.ga K "_law_spot") fd_law_spot := F_law_spot
  have g_law_spot : mg "_law_spot" = some (.ref (He.ga K "_law_spot")) := He.glo_ok X G (c.fact 66 (f := .glo "_law_spot") rfl)
  obtain ⟨fd_law_first_kind, F_law_first_kind⟩ := c.def_ 6 (d := dDef 69 "_law_first_kind") rfl
  have F_law_first_kind : FnP K "_law_first_kind" (top 69) (He.ga K "_law_first_kind") fd_law_first_kind := F_law_first_kind
  have g_law_first_kind : mg "_law_first_kind" = some (.ref (He.ga K "_law_first_kind")) := He.glo_ok X G (c.fact 67 (f := .glo "_law_first_kind") rfl)
  obtain ⟨fd_law_second_kind, F_law_second_kind⟩ := c.def_ 7 (d := dDef 70 "_law_second_kind") rfl
  have F_law_second_kind : FnP K "_law_second_kind" (top 70) (He.ga K "_law_second_kind") fd_law_second_kind := F_law_second_kind
  have g_law_second_kind : mg "_law_second_kind" = some (.ref (He.ga K "_law_second_kind")) := He.glo_ok X G (c.fact 68 (f := .glo "_law_second_kind") rfl)
  obtain ⟨fd_law_third_kind, F_law_third_kind⟩ := c.def_ 8 (d := dDef 71 "_law_third_kind") rfl
  have F_law_third_kind : FnP K "_law_third_kind" (top 71) (He.ga K "_law_third_kind") fd_law_third_kind := F_law_third_kind
  have g_law_third_kind : mg "_law_third_kind" = some (.ref (He.ga K "_law_third_kind")) := He.glo_ok X G (c.fact 69 (f := .glo "_law_third_kind") rfl)
  obtain ⟨fd_law_bare_kind, F_law_bare_kind⟩ := c.def_ 9 (d := dDef 72 "_law_bare_kind") rfl
  have F_law_bare_kind : FnP K "_law_bare_kind" (top 72) (He.ga K "_law_bare_kind") fd_law_bare_kind := F_law_bare_kind
  have g_law_bare_kind : mg "_law_bare_kind" = some (.ref (He.ga K "_law_bare_kind")) := He.glo_ok X G (c.fact 70 (f := .glo "_law_bare_kind") rfl)
  obtain ⟨fd_law_given_classes, F_law_given_classes⟩ := c.def_ 10 (d := dDef 73 "_law_given_classes") rfl
  have F_law_given_classes : FnP K "_law_given_classes" (top 73) (He.ga K "_law_given_classes") fd_law_given_classes := F_law_given_classes
  have g_law_given_classes : mg "_law_given_classes" = some (.ref (He.ga K "_law_given_classes")) := He.glo_ok X G (c.fact 71 (f := .glo "_law_given_classes") rfl)
  obtain ⟨fd_law_other_classes, F_law_other_classes⟩ := c.def_ 11 (d := dDef 74 "_law_other_classes") rfl
  have F_law_other_classes : FnP K "_law_other_classes" (top 74) (He.ga K "_law_other_classes") fd_law_other_classes := F_law_other_classes
  have g_law_other_classes : mg "_law_other_classes" = some (.ref (He.ga K "_law_other_classes")) := He.glo_ok X G (c.fact 72 (f := .glo "_law_other_classes") rfl)
  obtain ⟨fd_law_alone, F_law_alone⟩ := c.def_ 12 (d := dDef 75 "_law_alone") rfl
  have F_law_alone : FnP K "_law_alone" (top 75) (He.ga K "_law_alone") fd_law_alone := F_law_alone
  have g_law_alone : mg "_law_alone" = some (.ref (He.ga K "_law_alone")) := He.glo_ok X G (c.fact 73 (f := .glo "_law_alone") rfl)
  obtain ⟨fd_law_worth, F_law_worth⟩ := c.def_ 13 (d := dDef 76 "_law_worth") rfl
  have F_law_worth : FnP K "_law_worth" (top 76) (He.ga K "_law_worth") fd_law_worth := F_law_worth
  have g_law_worth : mg "_law_worth" = some (.ref (He.ga K "_law_worth")) := He.glo_ok X G (c.fact 74 (f := .glo "_law_worth") rfl)
  obtain ⟨fd_law_given_right, F_law_given_right⟩ := c.def_ 14 (d := dDef 77 "_law_given_right") rfl
  have F_law_given_right : FnP K "_law_given_right" (top 77) (He.ga K "_law_given_right") fd_law_given_right := F_law_given_right
  have g_law_given_right : mg "_law_given_right" = some (.ref (He.ga K "_law_given_right")) := He.glo_ok X G (c.fact 75 (f := .glo "_law_given_right") rfl)
  obtain ⟨fd_law_index_right, F_law_index_right⟩ := c.def_ 15 (d := dDef 78 "_law_index_right") rfl
  have F_law_index_right : FnP K "_law_index_right" (top 78) (He.ga K "_law_index_right") fd_law_index_right := F_law_index_right
  have g_law_index_right : mg "_law_index_right" = some (.ref (He.ga K "_law_index_right")) := He.glo_ok X G (c.fact 76 (f := .glo "_law_index_right") rfl)
  obtain ⟨fd_law_bare_right, F_law_bare_right⟩ := c.def_ 16 (d := dDef 79 "_law_bare_right") rfl
  have F_law_bare_right : FnP K "_law_bare_right" (top 79) (He.ga K "_law_bare_right") fd_law_bare_right := F_law_bare_right
  have g_law_bare_right : mg "_law_bare_right" = some (.ref (He.ga K "_law_bare_right")) := He.glo_ok X G (c.fact 77 (f := .glo "_law_bare_right") rfl)
  obtain ⟨fd_law_caught, F_law_caught⟩ := c.def_ 17 (d := dDef 80 "_law_caught") rfl
  have F_law_caught : FnP K "_law_caught" (top 80) (He.ga K "_law_caught") fd_law_caught := F_law_caught
  have g_law_caught : mg "_law_caught" = some (.ref (He.ga K "_law_caught")) := He.glo_ok X G (c.fact 78 (f := .glo "_law_caught") rfl)
  obtain ⟨fd_law_right, F_law_right⟩ := c.def_ 18 (d := dDef 81 "_law_right") rfl
  have F_law_right : FnP K "_law_right" (top 81) (He.ga K "_law_right") fd_law_right := F_law_right
  have g_law_right : mg "_law_right" = some (.ref (He.ga K "_law_right")) := He.glo_ok X G (c.fact 79 (f := .glo "_law_right") rfl)
  obtain ⟨fdlaw, Flaw⟩ := c.def_ 19 (d := dDef 82 "law") rfl
  have Flaw : FnP K "law" (top 82) (He.ga K "law") fdlaw := Flaw
  have glaw : mg "law" = some (.ref (He.ga K "law")) := He.glo_ok X G (c.fact 80 (f := .glo "law") rfl)
  have ef := hfa.symm.trans glaw
  cases ef
  have b := FunD.bindsA (ps := ["_law_script"]) Flaw fun _ _ _ _ _ _ us hl => match us, hl with | [_], _ => rfl
  refine ⟨fdlaw, fun s v => b s [v] rfl, fun base _ _ => ?_⟩
  have D : Dr K mg _ _ _ _ _ _ := ⟨F_law_draw, F_law_pick, F_law_least, g_law_draw, g_law_pick, g_law_least, T.N⟩
  have oW : FnOk P w K mg base CX0 4 _ _ ["_law_source_here"] (spWorth K) := okWorth F_law_worth D F_law_spot g_law_spot
  have bW := bindsWorth F_law_worth
  have b3 : ∀ {x : Str} {st : Stmt} {f : Addr} {fd : FuncData} (F : FnP K x st f fd), (∀ (kV doc pm : Value) (an : Option Addr) (cdv ct : Value) (us : List Value), us.length = 3 → bindArgs (PySem.W.fnOf x x (defArgs st) (defBody st) (defScope st) .none kV doc pm an cdv ct) ⟨us, []⟩ = pure ((["_law_at", "_law_worth_here", "_law_named"] : List Str).zip us)) → Binds K fd ["_law_at", "_law_worth_here", "_law_named"] [] := fun F h => bindsKind F h
  have bk1 := bindsKind F_law_first_kind fun _ _ _ _ _ _ us hl => match us, hl with | [_, _, _], _ => rfl
  have bk2 := bindsKind F_law_second_kind fun _ _ _ _ _ _ us hl => match us, hl with | [_, _, _], _ => rfl
  have bk3 := bindsKind F_law_third_kind fun _ _ _ _ _ _ us hl => match us, hl with | [_, _, _], _ => rfl
  have bE1 : Binds K _ ["_law_source_here", "_law_named"] [] := F_law_given_right.bindsN fun _ _ _ _ _ _ us hl => match us, hl with | [_, _], _ => rfl
  have bE2 : Binds K _ ["_law_source_here", "_law_named"] [] := F_law_index_right.bindsN fun _ _ _ _ _ _ us hl => match us, hl with | [_, _], _ => rfl
  have bB : Binds K _ ["_law_at"] [] := F_law_bare_kind.bindsN fun _ _ _ _ _ _ us hl => match us, hl with | [_], _ => rfl
  have bR0 : Binds K _ [] [] := F_law_bare_right.bindsN fun _ _ _ _ _ _ us hl => match us, hl with | [], _ => rfl
  have bO : Binds K _ ["_law_script"] [] := F_law_rounds.bindsN fun _ _ _ _ _ _ us hl => match us, hl with | [_], _ => rfl
  have bS : Binds K _ ["_law_script", "_law_turn"] [] := F_law_source.bindsN fun _ _ _ _ _ _ us hl => match us, hl with | [_, _], _ => rfl
  have oD : FnOk P w K mg base CX0 1 _ _ ["_law_source_here", "_law_many"] spDraw := okDraw F_law_draw T.N
  have o1 : FnOk P w K mg base CX0 3 _ _ ["_law_at", "_law_worth_here", "_law_named"] (spKind "given" (csA K) 0 17) := okFirst F_law_first_kind T.G
  have o2 : FnOk P w K mg base CX0 3 _ _ ["_law_at", "_law_worth_here", "_law_named"] (spKind "given" (csA K) 17 17) := okSecond F_law_second_kind T.G
  have o3 : FnOk P w K mg base CX0 3 _ _ ["_law_at", "_law_worth_here", "_law_named"] (spKind "index" (fun i => csA K (34 + i)) 0 22) := okThird F_law_third_kind T.I
  have oC : FnOk P w K mg base CX0 1 _ _ ["_law_e"] (spIs K (csL (csA K) 0 34)) := okGivenC F_law_given_classes T
  have oC2 : FnOk P w K mg base CX0 1 _ _ ["_law_e"] (spIs K (csL (csA K) 34 26)) := okOtherC F_law_other_classes T
  have oA : FnOk P w K mg base CX0 2 _ _ ["_law_e", "_law_at"] (spAlone (csA K)) := okAlone F_law_alone T F_law_given_classes g_law_given_classes F_law_other_classes g_law_other_classes
  have oB : FnOk P w K mg base CX0 1 _ _ ["_law_at"] (spBare (csA K)) := okBare F_law_bare_kind T
  have oG : FnG P w K mg base CX0 5 _ _ ["_law_source_here", "_law_named"] spEach := okGR F_law_given_right T oW F_law_worth.kp g_law_worth bW o1 F_law_first_kind.kp g_law_first_kind bk1 o2 F_law_second_kind.kp g_law_second_kind bk2 oA F_law_alone.kp g_law_alone (bindsAlone F_law_alone)
  have oI : FnG P w K mg base CX0 5 _ _ ["_law_source_here", "_law_named"] spEach := okIR F_law_index_right T oW F_law_worth.kp g_law_worth bW o3 F_law_third_kind.kp g_law_third_kind bk3 oA F_law_alone.kp g_law_alone (bindsAlone F_law_alone)
  have oBR : FnOk P w K mg base CX0 3 _ _ [] spBR := okBR F_law_bare_right T oB F_law_bare_kind.kp g_law_bare_kind bB oC F_law_given_classes.kp g_law_given_classes (bindsGivenC F_law_given_classes) oC2 F_law_other_classes.kp g_law_other_classes (bindsOtherC F_law_other_classes) oA F_law_alone.kp g_law_alone (bindsAlone F_law_alone)
  have oCa : FnG P w K mg base CX0 3 _ _ ["_law_worth_here"] (spCaught K) := okCaught F_law_caught T
  have oRi : FnG P w K mg base CX0 6 _ _ ["_law_source_here"] spRight := okRight F_law_right T.N oD F_law_draw.kp g_law_draw (bindsDraw F_law_draw) oG F_law_given_right.kp g_law_given_right bE1 oI F_law_index_right.kp g_law_index_right bE2 oW F_law_worth.kp g_law_worth bW oBR F_law_bare_right.kp g_law_bare_right bR0 oCa F_law_caught.kp g_law_caught (bindsCaught F_law_caught)
  exact okLaw Flaw T.N (okRounds F_law_rounds T.N) F_law_rounds.kp g_law_rounds bO (okSource F_law_source T.N) F_law_source.kp g_law_source bS oRi F_law_right.kp g_law_right (bindsRight F_law_right)
end
end K1
open PySem PySem.W PySem.Calls PyProof.Rows
theorem PySem.Challenge.cw_windfigure_k01_classes_of_errors_holds : PySem.Challenge.rw_windfigure_k01_classes_of_errors.Holds := by
  w_on; o_law
  refine HandSHeadRun.head_any (r := OpenLaw.row PySem.Challenge.rw_windfigure_k01_classes_of_errors) (q := view (OpenLaw.row PySem.Challenge.rw_windfigure_k01_classes_of_errors).prog [82]) (H := K1.hookQ K1.fa K1.fn K1.ex) (ob := K1.ob) (M := 16000) (loose := K1.loose) (d := HandSHeadRun.topDef (OpenLaw.row PySem.Challenge.rw_windfigure_k01_classes_of_errors).prog 82) (kwd := []) K1.ob_eq
    (by kernel_rfl) (fun s => by kernel_rfl) K1.run (by kernel_rfl) (by kernel_rfl) (by kernel_rfl) (by rfl) (by first | assumption | decide +kernel) (by decide +kernel) ⟨rfl, rfl, rfl, rfl, rfl, by decide +kernel⟩ ?hw ?hc
  case hw => w_witness2
  case hc =>
    refine K1.walkG (l := PySem.Challenge.rw_windfigure_k01_classes_of_errors) (n := 63) (k := 7) (x := "_law_script") rfl (by decide) (by kernel_rfl) ⟨rfl, by decide, by decide⟩ ?F
    intro w mg fa h Y G hmg0
    obtain ⟨K, KX, hx, c⟩ := Y
    have hmg : mg ("law" : PySem.Str) = some (.ref fa) := by
      have e : (HandSHeadRun.topDef (OpenLaw.row PySem.Challenge.rw_windfigure_k01_classes_of_errors).prog 82).name = ("law" : PySem.Str) := by kernel_rfl
      rw [← e]
      exact hmg0
    obtain ⟨fd, hb, hF⟩ := K1.lawFacts (P := (PySem.Challenge.rw_windfigure_k01_classes_of_errors).prog) (w := w) KX G hmg hx c
    exact ⟨K, fd, K1.spLaw K, KX, hb, fun H a ns hl _ _ hS => ⟨a, ns, rfl, hS, hl, fun _ _ => rfl⟩, hF⟩
