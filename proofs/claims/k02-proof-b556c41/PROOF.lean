import PyProof.Rows.All
import Wide.All
import OpenK.AllK
import Wide.FinOn
import HandS.Head0
import HandS.Head1
import HandS.Head2
import HandS.HeadHook1
import HandS.HeadHook2
import HandS.HeadHook4
import HandS.Base
import HandS.Call
import HandS.List
import HandS.Defaults
import HandS.Comp
import HandS.Head3
import HandS.EndBits
import HandS.Words
import HandS.NoneIn
import HandS.Wide
import HandS.Gcd
import HandS.IsInst
import HandS.TupLe
import HandS.TupAny
import KE.DataEq
import PyProof.MaxThree
import HandS.WideBits
import HandS.Style
import HandS.TupSets
import HandS.SetBool
import HandS.SortRule
import KE.GoesMore
import KE.KMathG
import HandS.Iter
import HandS.Zip
import KE.GoesEnum
import PySem.Challenge.RW_windfigure_k02_whole_points_and_directio
set_option Elab.async false
set_option linter.all false
set_option maxRecDepth 100000
set_option maxHeartbeats 0
namespace K1
open PySem PySem.Spec PyProof.Rows L2
/-! ### a Hook that looks at what the globals reach, and no further -/
def refsQ (o : Obj) : List Addr := match o.data with
  | .dict es _ => es.toList.flatMap fun e => He.refV e.val
  | .cls cd => [cd.ns]
  | .func fd => He.refV fd.code
  | .seq its _ => its.toList.flatMap He.refV
  | _ => []
def stepQ (g : Addr → Option Obj) : List Addr → List Addr
  | [] => []
  | a :: r => (match g a with
    | some o => refsQ o
    | none => []) ++ stepQ g r
def asQ (g : Addr → Option Obj) : List Addr :=
  mainGlobals :: (stepQ g [mainGlobals] ++ (stepQ g (stepQ g [mainGlobals]) ++ (stepQ g (stepQ g (stepQ g [mainGlobals])) ++ stepQ g (stepQ g (stepQ g (stepQ g [mainGlobals]))))))
/-- a list of addresses, each one reckoned, then k -/
def evL {α : Type} : List Addr → (List Addr → α) → α
  | [], k => k []
  | a :: r, k => HandSHeadRun.frNat a fun a => evL r fun r => k (a :: r)
theorem evL_eq {α : Type} : ∀ (l : List Addr) (k : List Addr → α), evL l k = k l
  | [], _ => rfl
  | a :: r, k => by
    show HandSHeadRun.frNat a (fun a => evL r fun r => k (a :: r)) = k (a :: r)
    rw [HandSHeadRun.frNat_eq, evL_eq r]
/-- the fragment, entry by entry, then k -/
def evK {α : Type} (g : Addr → Option Obj) : List Addr → (PySem.W.Frag → α) → α
  | [], k => k []
  | a :: r, k => match g a with
    | some o => evK g r fun K => k ((a, o) :: K)
    | none => evK g r k
theorem evK_eq {α : Type} (g : Addr → Option Obj) : ∀ (l : List Addr) (k : PySem.W.Frag → α), evK g l k = k (He.frG g l)
  | [], _ => rfl
  | a :: r, k => by
    unfold evK He.frG
    rw [List.filterMap_cons]
    cases h : g a with
    | none =>
      show evK g r k = _
      rw [evK_eq g r]
      rfl
    | some o =>
      show evK g r (fun K => k ((a, o) :: K)) = _
      rw [evK_eq g r]
      rfl
abbrev AlQ : Type := Bool × He.AlD
def obsQ (fa : List He.Fa) (fn : List He.DefD) (ex : PySem.W.Frag → Bool) (g : Addr → Option Obj) : AlQ :=
  evL (asQ g) fun l => evK g l fun K => (ex K, He.obsD fa fn K)
theorem obsQ_is {fa : List He.Fa} {fn : List He.DefD} {ex : PySem.W.Frag → Bool} {g : Addr → Option Obj} : obsQ fa fn ex g = (ex (He.frG g (asQ g)), He.obsD fa fn (He.frG g (asQ g))) := by
  unfold obsQ
  rw [evL_eq, evK_eq]
def hookQ (fa : List He.Fa) (fn : List He.DefD) (ex : PySem.W.Frag → Bool) : PySem.W.Hook where
  α := AlQ
  obs := fun s => obsQ fa fn ex s.heap.get?
  val := fun _ => (true, He.valD fn)
  says := fun _ h => ∃ K : PySem.W.Frag, K.In h ∧ ex K = true ∧ He.SaysD fa fn K
  of := fun _ _ e => by
    rw [obsQ_is] at e
    exact ⟨_, He.frG_in, congrArg Prod.fst e, congrArg Prod.snd e⟩
  keeps := fun _ _ _ ⟨K, hK, c⟩ k => ⟨K, PySem.W.Frag.In.keeps hK k, c⟩
theorem obsQ_eq {fa : List He.Fa} {fn : List He.DefD} {ex : PySem.W.Frag → Bool} {g : Addr → Option Obj} {s : Shared} (h : ∀ a, g a = s.heap.get? a) : obsQ fa fn ex g = (hookQ fa fn ex).obs s := by
  have e : g = s.heap.get? := funext h
  rw [e] <;> rfl
end K1
namespace PL
open PySem PySem.Spec PyProof.Rows L2
/-! ### defs that ask for repr: called where no repr is under way -/
structure FnG (P : Program) (w : World) (K : PySem.W.Frag) (mg : Str → Option Value) (base : Heap) (CX : CXT) (k : Nat) (f : Addr) (fd : FuncData) (ps : List Str) (sp : Sp) : Prop where
  len : ∀ vs H Q E, sp vs H Q E → vs.length = ps.length
  run : ∀ (A : Around) (outer : List Env) (s : Shared) (H : Hp) (args : Args) (us : List Value) (vs : List V) (Q : VK) (E : XK), A.guards = some [] → Room k A → Env0 P w K mg base A outer s H → BindsTo s fd args (ps.zip us) → Vals vs us →
    sp vs H Q E → codeAny (model P w) A (.call (.ref f) args) (CR CX outer P w H s Q E) s
section
variable {P : Program} {w : World} {K : PySem.W.Frag} {mg : Str → Option Value} {base : Heap}
theorem fnG_of {CX : CXT} {k : Nat} {f : Addr} {nm qu : Str} {pars : Arguments} {bd : List Stmt} {sc : Scope} {dvs : List V} {kws : List (Str × V)} {fd : FuncData} {N ps : List Str} {sp : Sp}
    (F : FunD K nm qu pars bd sc dvs kws f fd) (S : FnScope N ps sc) (len : ∀ vs H Q E, sp vs H Q E → vs.length = ps.length)
    (body : ∀ (cdv : Value) (A : Around) (outer : List Env) (s : Shared) (H : Hp) (vs : List V) (Q : VK) (E : XK), (cxOf CX P w K mg base N qu sc f cdv A outer s H E).A.guards = some [] →
      Room k (A.deeper (envOfC qu sc s.heap.objs.size f cdv)) → sp vs H Q E →
      ∃ t, PSs (cxOf CX P w K mg base N qu sc f cdv A outer s H E) bd t ∧ t { nx := fun _ H' => Q .non H', rt := Q } (start N vs) H) : FnG P w K mg base CX (k + 1) f fd ps sp := by
  obtain ⟨oc, od, dV, kV, doc, pm, an, cdv, ct, osl, rfl, lk, hcd, _, _⟩ := F.ex
  refine ⟨len, fun A outer s H args us vs Q E hgd hr e0 hb r hsp => ?_⟩
  have hl := len _ _ _ _ hsp
  have kin : K.In s.heap := e0.mod.kin.keeps fun b o e => (e0.bs b o e).1
  have nol : s.heap.NoLimit := e0.mod.nolimit.keeps fun b o e => (e0.bs b o e).1
  have kinds : ∀ y ∈ ps.zip us, sc.names.lookup y.1 = some .local ∨ (sc.names.lookup y.1 = some .cell ∧ ((cellsFrom (s.heap.objs.size + 1) sc.names []).lookup y.1).isSome = true) := by
    rintro ⟨n, v⟩ hy
    rcases S.par n (List.of_mem_zip hy).1 with q | q
    · exact .inl q
    · exact .inr ⟨q, PySem.W.cellsFrom_some _ _ _ (.inl q)⟩
  refine codeAny_call_function hr.depth (kin _ _ lk) rfl S.co S.gen rfl (PySem.W.codeRec_of kin hcd) (hb _ _ _ _ ?_)
  refine wpAny_newFunctionEnv_cells S.kind kinds fun env he sB x => ?_
  subst he
  refine ⟨nol.keeps x.toInCall.keep, codeAny_func ?_⟩
  obtain ⟨t, ht, hq⟩ := body cdv A outer s H vs Q E hgd (hr.deeper _) hsp
  have I : Inv (cxOf CX P w K mg base N qu sc f cdv A outer s H E) [] (start N vs) H sB := inv_start S hr.hd e0 hl r x
  refine wpAny_mono (ht.run [] sB (start N vs) H _ I hq) (fun fl s' hs => ?_) fun e s' hs => hs
  have fin : ∀ {σ' : L2.St} {H' : Hp} {v : V} {u : Value}, Inv (cxOf CX P w K mg base N qu sc f cdv A outer s H E) [] σ' H' s' → RelV v u → Q v H' → CE outer P w H s Q u s' :=
    fun {_ H' v _} J rv q => ⟨v, H', J.os, J.bare, J.base, J.hok, rv, q⟩
  cases fl with
  | ret u =>
    obtain ⟨v, σ', H', J, rv, q⟩ := hs
    exact fin J rv q
  | next =>
    obtain ⟨σ', H', J, q⟩ := hs
    exact fin (v := V.non) (u := Value.none) J rfl q
  | brk =>
    obtain ⟨_, _, _, q⟩ := hs
    exact q.elim
  | cont =>
    obtain ⟨_, _, _, q⟩ := hs
    exact q.elim
end
section
variable {X : Cx} {k : Nat} {f : Addr} {fd : FuncData} {ps : List Str} {sp : Sp} {x : Str} {p pos : Pos} {e : Expr} {es : List Expr} {t : TA}
theorem runG {pins : List (Addr × Obj)} {σ : L2.St} {H : Hp} {s : Shared} {Q : VK} {us : List Value} {vs : List V} (F : FnG X.prog X.w X.K X.mg X.base CX0 k f fd ps sp) (hgd : X.A.guards = some []) (hr : Room k X.A) (hb : Binds X.K fd ps [])
    (I : Inv X pins σ H s) (r : Vals vs us) (h : sp vs H Q E0) : wpAny (model X.prog X.w) X.A (call (.ref f) us) (EP X pins σ Q) X.xe s := by
  have hl : us.length = ps.length := by rw [← r.length]; exact F.len _ _ _ _ h
  have b := hb s us I.kIn (by rw [List.append_nil]; exact hl)
  rw [List.append_nil] at b
  refine wpAny_call (codeAny_mono (F.run X.A X.stack s H ⟨us, []⟩ us vs Q E0 hgd hr I.env0 b r h) fun r s' hq => ?_)
  cases r with
  | error e => exact hq.elim
  | ok fl =>
    cases fl with
    | ret u => exact I.after hq
    | next => exact hq.elim
    | brk => exact hq.elim
    | cont => exact hq.elim
theorem pe_callG (F : FnG X.prog X.w X.K X.mg X.base CX0 k f fd ps sp) (hgd : X.A.guards = some []) (hr : Room k X.A) (hg : Gl X x) (hm : X.mg x = some (.ref f)) (hk : PySem.W.keepIn X.K (.ref f) = true) (hb : Binds X.K fd ps [])
    (ha : PA X (e :: es) t) (hdb : (x == ("__debug__" : Str)) = false := by decide) (he : starEach (e :: es) X.env = (false, eval e X.env) :: starEach es X.env := by rfl) (hpl : (backTo pos (starEach es X.env)).any (·.1) = false := by rfl) :
    PE X (.Call (.Name x p) (e :: es) [] pos) (tCall sp [] E0 t) := by
  refine ⟨fun pins s σ H Q I h => ?_⟩
  refine wpAny_Call_Name_kw (ld_glob I hg hm ?_ hdb)
  refine PySem.W.callWith_K (h₀ := X.base) I.ok.mod.kin hk (thn (ha.run pos pins s σ H _ I h) fun us sA ⟨vs, H1, I1, r, q⟩ => ⟨I1.kIn, ?_⟩) he hpl
  have q2 : sp (vs ++ []) H1 Q E0 := q
  rw [List.append_nil] at q2
  exact runG F hgd hr hb I1 r q2
end
/-! ### repr of data -/
/-- v shows as d in H: data of any depth, or an empty dict -/
def Shows (K : PySem.W.Frag) (H : Hp) (v : V) (d : PyData) : Prop := Dp K H v d ∨ ∃ a, v = .ref a ∧ d = .dict [] ∧ H a = some (.dK [])
def rRepr (K : PySem.W.Frag) : List V → Hp → VK → Prop := fun xs H Q => ∃ (v : V) (d : PyData), xs = [v] ∧ Shows K H v d ∧ d.showable = true ∧ d.depth ≤ 60 ∧ d.shown.length ≤ sizeLine ∧ Q (.str d.shown) H
theorem dp_noDict {K : PySem.W.Frag} {H : Hp} : (∀ (d : PyData) (v : V), Dp K H v d → d.hasDict = false) ∧ ∀ (ds : List PyData) (vs : List V), DpAll K H vs ds → PyData.hasDictAll ds = false := by
  have key : ∀ (n : Nat), (∀ (d : PyData) (v : V), sizeOf d ≤ n → Dp K H v d → d.hasDict = false) ∧ ∀ (ds : List PyData) (vs : List V), sizeOf ds ≤ n → DpAll K H vs ds → PyData.hasDictAll ds = false := by
    intro n
    induction n with
    | zero =>
      refine ⟨fun d v hz _ => ?_, fun ds vs hz _ => ?_⟩
      · cases d <;> simp at hz <;> omega
      · cases ds <;> simp at hz <;> omega
    | succ n ih =>
      refine ⟨fun d v hz h => ?_, fun ds vs hz h => ?_⟩
      · cases h with
        | non => rfl
        | bl b => rfl
        | int i => rfl
        | str x => rfl
        | lst hs ha =>
          rename_i ds
          unfold PyData.hasDict
          exact ih.2 _ _ (by simp at hz; omega) ha
        | tup hs ha =>
          rename_i ds
          unfold PyData.hasDict
          exact ih.2 _ _ (by simp at hz; omega) ha
      · cases h with
        | nil => rfl
        | cons h1 h2 =>
          unfold PyData.hasDictAll
          rw [ih.1 _ _ (by simp at hz; omega) h1, ih.2 _ _ (by simp at hz; omega) h2]
          rfl
  exact ⟨fun d v h => (key _).1 d v (Nat.le_refl _) h, fun ds vs h => (key _).2 ds vs (Nat.le_refl _) h⟩
theorem call_reprD {X : Cx} (hgd : X.A.guards = some []) (hu : X.A.units + 64 < cLine) : CallR X (.builtin "repr") (rRepr X.K) := by
  intro pins s σ H xs us Q I r h
  obtain ⟨v, d, rfl, hd, hs, hdp, hz, q⟩ := h
  obtain ⟨u, rfl, ru⟩ := vals1 r
  rcases hd with hd | ⟨a, rfl, rfl, ha⟩
  · obtain ⟨as, rd⟩ := Dp.reads I d v u hd ru
    have hnd := dp_noDict.1 d v hd
    cases rd with
    | none => exact PySem.P.repr_of_none ⟨.str _, H, I.tok _, ⟨_, rfl⟩, q⟩
    | bool b => exact PySem.P.repr_of_bool ⟨.str _, H, I.tok _, ⟨_, rfl⟩, by cases b <;> exact q⟩
    | int i t => exact PySem.P.repr_of_int (by simpa [PyData.showable] using hs) ⟨.str _, H, I.tok _, ⟨_, rfl⟩, q⟩
    | str x t => exact PySem.P.repr_of_str ⟨.str _, H, I.tok _, ⟨_, rfl⟩, q⟩ hz
    | list h1 h2 h3 h4 => exact repr_of_reads' (Reads.list h1 h2 h3 h4) hs (fun z => by rw [hnd] at z; cases z) hgd (by omega) (fun _ _ e => e) (fun h' t' tk kp => ⟨.str _, H, I.kept kp, ⟨_, rfl⟩, q⟩) hz
    | tuple h1 h2 h3 h4 => exact repr_of_reads' (Reads.tuple h1 h2 h3 h4) hs (fun z => by rw [hnd] at z; cases z) hgd (by omega) (fun _ _ e => e) (fun h' t' tk kp => ⟨.str _, H, I.kept kp, ⟨_, rfl⟩, q⟩) hz
    | dict h1 h2 h3 h4 h5 => exact absurd hnd (by simp [PyData.hasDict])
  · obtain rfl : u = Value.ref a := ru
    obtain ⟨_, hsm, vs, kv, hdo⟩ := I.hok a _ ha
    cases kv
    obtain ⟨o, es, ep, ho, hex, hdat, hes, hpr, _⟩ := hdo
    have he : es.toList = [] := by
      generalize es.toList = l at hpr
      cases hpr
      rfl
    have rd : Reads s.heap (.ref a) (.dict []) (a :: [] ++ []) := by
      refine Reads.dict ho hex.1 hdat ?_ ?_
      · rw [he]; exact ReadsAll.nil
      · rw [he]; exact ReadsAll.nil
    exact repr_of_reads' rd hs (fun _ z => by
      have z2 : sysModules = a := by simpa using z
      rw [z2] at hsm
      simp at hsm) hgd (by omega) (fun _ _ e => e) (fun h' t' tk kp => ⟨.str _, H, I.kept kp, ⟨_, rfl⟩, q⟩) hz
/-! ### the law's own head, its def asking for repr -/
theorem callLawG {P : Program} {w : World} {K : PySem.W.Frag} {mg mb : Str → Option Value} {k : Nat} {fa a : Addr} {fd : FuncData} {x : Str} {sp : Sp} {sB : Shared} {vs : List Value} {ns : List Int}
    (kin : K.In sB.heap) (hns : sB.heap.Ns mainGlobals mg) (hbn : sB.heap.Ns builtinsNs mb) (hbb : ∀ x : Str, x ≠ "__name__" → mb x = bootBuiltins x) (nol : sB.heap.NoLimit) (hgen : sB.gens = #[])
    (hobj : sB.heap.get? a = some { cls := .type "list", data := .seq vs.toArray }) (hints : IntsAre vs ns) (hlen : ns.length ≤ sizeLine) (hr : Room k callerA)
    (F : ∀ base : Heap, K.In base → base.Ns mainGlobals mg → FnG P w K mg base CX0 k fa fd [x] sp) (hbind : ∀ (s : Shared) (u : Value), BindsTo s fd ⟨[u], []⟩ [(x, u)])
    (hsp : ∀ H : Hp, Only H → SqL K H a (ns.map V.int) → sp [.ref a] H (fun v _ => v = .bl true) E0) :
    codeAny (model P w) callerA (.call (.ref fa) ⟨[.ref a], []⟩) (fun r s' => r = .ok (.ret (.bool true)) ∧ OldK sB.heap s'.heap ∧ s'.os = sB.os ∧ AllBare s'.gens) sB := by
  have rv := vals_ints hints
  have lenV := hints.length
  have main : ∀ H : Hp, Only H → SqL K H a (ns.map V.int) → HOk P w H sB.heap → (∀ b, H b ≠ none → b = a) → (H a ≠ none → K.lookup a = none) →
      codeAny (model P w) callerA (.call (.ref fa) ⟨[.ref a], []⟩) (fun r s' => r = .ok (.ret (.bool true)) ∧ OldK sB.heap s'.heap ∧ s'.os = sB.os ∧ AllBare s'.gens) sB := by
    intro H only seq hok onlyA noK
    have hid : ∀ {b : Addr} {o : Obj}, sB.heap.get? b = some o → H b = none → (hidT sB.heap H).get? b = some o := fun e n => hidT_get e n
    have noD : ∀ {b : Addr} {o : Obj} {es : Array DictEntry} {ep : Nat}, sB.heap.get? b = some o → o.data = .dict es ep → H b = none := by
      intro b o es ep e d
      cases q : H b with
      | none => rfl
      | some u =>
        have e' : b = a := onlyA b (by rw [q]; simp)
        subst e'
        rw [hobj] at e
        cases e
        have d' : Data.seq vs.toArray _ = Data.dict es ep := d
        cases d'
    have nsOf : ∀ {b : Addr} {m : Str → Option Value}, sB.heap.Ns b m → (hidT sB.heap H).Ns b m := fun {_ _} ⟨o, es, ep, e, d, r⟩ => ⟨o, es, ep, hid e (noD e d), d, r⟩
    have kinB : K.In (hidT sB.heap H) := by
      intro b o e
      refine hid (kin b o e) ?_
      cases q : H b with
      | none => rfl
      | some u =>
        have e' : b = a := onlyA b (by rw [q]; simp)
        subst e'
        rw [noK (by rw [q]; simp)] at e
        cases e
    obtain ⟨mc, l1, l2⟩ := nol
    have hM : Mod K mg (hidT sB.heap H) := ⟨kinB, nsOf hns, ⟨mb, nsOf hbn, hbb⟩, ⟨mc, nsOf l1, l2⟩⟩
    have en : Env0 P w K mg (hidT sB.heap H) callerA [] sB H := ⟨rfl, hM, fun b o e => of_hidT e, Nat.le_of_eq (hidT_size _ _), trivial, fun b hb => absurd (show b ∈ ([] : List Addr) from hb) (by simp), hok, .of_eq hgen⟩
    refine codeAny_mono ((F _ kinB (nsOf hns)).run callerA [] sB H ⟨[.ref a], []⟩ [.ref a] [.ref a] _ _ rfl hr en (hbind sB (.ref a)) (.cons rfl .nil) (hsp H only seq)) fun r s' h => ?_
    cases r with
    | error e => exact h.elim
    | ok fl =>
      cases fl with
      | next => exact h.elim
      | brk => exact h.elim
      | cont => exact h.elim
      | ret u =>
        obtain ⟨v, H', os, bare, un, hok', r', q⟩ := h
        have q' : v = .bl true := q
        subst q'
        obtain rfl : u = Value.bool true := r'
        refine ⟨rfl, OldK.of_keep fun b o e => ?_, os, bare⟩
        cases q : H b with
        | none => exact un.keep b o e q (fun z => absurd (show b ∈ ([] : List Addr) from z) (by simp)) (by simp)
        | some u =>
          rcases only b with z | ⟨ob, xs, z⟩
          · rw [q] at z
            cases z
          · have z2 := un.frzs b ob _ z
            obtain ⟨e1, _⟩ := hok b _ z
            obtain ⟨e2, _⟩ := hok' b _ z2
            rw [e] at e1
            cases e1
            exact e2
  cases hk : K.lookup a with
  | some o =>
    have e := kin a o hk
    rw [hobj] at e
    cases e
    exact main (fun _ => none) (fun _ => .inl rfl) (.inr ⟨_, vs.toArray, _, hk, rfl, rfl, rfl, by rw [List.size_toArray, lenV]; exact hlen, by simpa using rv⟩) (fun b u z => by
      have z' : (none : Option HO) = some u := z
      cases z') (fun b z => absurd rfl z) fun z => absurd rfl z
  | none =>
    refine main (fun b => if b = a then some (.frz { cls := .type "list", data := .seq vs.toArray } (.lst (ns.map V.int))) else none) (fun b => ?_) (.inl (.inr ⟨{ cls := .type "list", data := .seq vs.toArray }, if_pos rfl⟩)) (fun b u z => ?_) (fun b z => ?_) fun _ => hk
    · by_cases hb : b = a
      · exact .inr ⟨_, _, if_pos hb⟩
      · exact .inl (if_neg hb)
    · by_cases hb : b = a
      · have z' := (if_pos hb).symm.trans z
        cases z'
        subst hb
        exact ⟨hobj, by rw [List.length_map]; exact hlen, vs, _, rv, hobj⟩
      · have z' := (if_neg hb).symm.trans z
        cases z'
    · by_cases hb : b = a
      · exact hb
      · exact absurd (if_neg hb) z
theorem walkG {l : PySem.W.OpenLaw} {n k : Nat} {q : Program} {loose : List Str} {XP : (Str → Option Value) → Heap → Prop} {YP : World → Heap → Prop} {d : DefRec} {x : Str}
    (hn : l.most = some n) (hn2 : n ≤ sizeLine) (hdf : d.params.defaults = []) (hr : Room k callerA)
    (F : ∀ (w : World) (mg : Str → Option Value) (fa : Addr) (h : Heap), YP w h → h.Ns mainGlobals mg → mg d.name = some (.ref fa) →
      ∃ (K : PySem.W.Frag) (fd : FuncData) (sp : Sp), K.In h ∧ (∀ (s : Shared) (u : Value), BindsTo s fd ⟨[u], []⟩ [(x, u)]) ∧
        (∀ (H : Hp) (a : Addr) (ns : List Int), ns.length ≤ n → (∀ z ∈ ns, Builtin.Int.intBits z ≤ 1048576) → Only H → SqL K H a (ns.map V.int) → sp [.ref a] H (fun v _ => v = .bl true) E0) ∧
        ∀ base : Heap, K.In base → base.Ns mainGlobals mg → FnG l.prog w K mg base CX0 k fa fd [x] sp) :
    PySem.W.WalkO q loose XP YP l.row.toRowW d [] (fun f vs => PySem.call f vs) := by
  refine Att.attach_callB hn hdf fun w sA sB mg mb fa o pm cd doc a vs ns G Y ho hd hcd hmg hobj hints hlen hbits hgen => ?_
  obtain ⟨K, fd, sp, kin, hb, hsp, hF⟩ := F w mg fa _ Y G.T.g hmg
  exact callLawG kin G.T.g G.T.b G.T.builtins G.T.nolimit hgen hobj hints (Nat.le_trans hlen hn2) hr hF hb fun H hO hS => hsp H a ns hlen hbits hO hS
end PL
/-! a pure reading of defs over data: values are PyData, one list may change (the sack), lists of one's own change by name -/
namespace PL
open PySem PySem.Spec PyProof.Rows L2
abbrev D := PyData
abbrev S := List PyData
def Le (G G' : Hp) : Prop := ∀ a o, G a = some o → G' a = some o
theorem Le.refl {G : Hp} : Le G G := fun _ _ h => h
theorem Le.trans {G G1 G2 : Hp} (h : Le G G1) (h' : Le G1 G2) : Le G G2 := fun a o e => h' a o (h a o e)
theorem Rd.up {G G' : Hp} {a : Addr} {u : HO} (l : Le G G') (h : Rd G a u) : Rd G' a u := h.elim (fun e => .inl (l _ _ e)) fun ⟨o, e⟩ => .inr ⟨o, l _ _ e⟩
theorem SqL.up {K : PySem.W.Frag} {G G' : Hp} {a : Addr} {xs : List V} (l : Le G G') (h : SqL K G a xs) : SqL K G' a xs := h.elim (fun e => .inl (Rd.up l e)) .inr
theorem SqT.up {K : PySem.W.Frag} {G G' : Hp} {a : Addr} {xs : List V} (l : Le G G') (h : SqT K G a xs) : SqT K G' a xs := h.elim (fun e => .inl (Rd.up l e)) .inr
section
variable {K : PySem.W.Frag} {G G' : Hp}
mutual
theorem Dp.up (l : Le G G') : ∀ (d : D) (v : V), Dp K G v d → Dp K G' v d
  | .none, _, h => by cases h; exact .non
  | .bool b, _, h => by cases h; exact .bl b
  | .int i, _, h => by cases h; exact .int i
  | .str x, _, h => by cases h; exact .str x
  | .list ds, _, h => by cases h with | lst a b => exact .lst (SqL.up l a) (DpAll.up l ds _ b)
  | .tuple ds, _, h => by cases h with | tup a b => exact .tup (SqT.up l a) (DpAll.up l ds _ b)
  | .dict _, _, h => by cases h
theorem DpAll.up (l : Le G G') : ∀ (ds : List D) (vs : List V), DpAll K G vs ds → DpAll K G' vs ds
  | [], _, h => by cases h; exact .nil
  | d :: ds, _, h => by cases h with | cons a b => exact .cons (Dp.up l d _ a) (DpAll.up l ds _ b)
end
theorem DpAll.length {G : Hp} : ∀ {vs : List V} {ds : List D}, DpAll K G vs ds → vs.length = ds.length
  | _, _, .nil => rfl
  | _, _, .cons _ t => by simp [DpAll.length t]
theorem DpAll.get {G : Hp} : ∀ {vs : List V} {ds : List D} {i : Nat} {d : D}, DpAll K G vs ds → ds[i]? = some d → ∃ v, vs[i]? = some v ∧ Dp K G v d
  | _, _, _, _, .nil, e => by simp at e
  | _, _, 0, _, .cons h t, e => by simp at e; subst e; exact ⟨_, rfl, h⟩
  | _, _, i + 1, _, .cons h t, e => by
    obtain ⟨v, a, b⟩ := DpAll.get (i := i) t (by simpa using e)
    exact ⟨v, by simpa using a, b⟩
theorem DpAll.get' {G : Hp} : ∀ {vs : List V} {ds : List D} {i : Nat} {v : V}, DpAll K G vs ds → vs[i]? = some v → ∃ d, ds[i]? = some d ∧ Dp K G v d
  | _, _, _, _, .nil, e => by simp at e
  | _, _, 0, _, .cons h t, e => by simp at e; subst e; exact ⟨_, rfl, h⟩
  | _, _, i + 1, _, .cons h t, e => by
    obtain ⟨v, a, b⟩ := DpAll.get' (i := i) t (by simpa using e)
    exact ⟨v, by simpa using a, b⟩
theorem DpAll.app {G : Hp} : ∀ {vs ws : List V} {ds es : List D}, DpAll K G vs ds → DpAll K G ws es → DpAll K G (vs ++ ws) (ds ++ es)
  | _, _, _, _, .nil, s => s
  | _, _, _, _, .cons h t, s => .cons h (DpAll.app t s)
theorem DpAll.take {G : Hp} : ∀ {vs : List V} {ds : List D} (n : Nat), DpAll K G vs ds → DpAll K G (vs.take n) (ds.take n)
  | _, _, 0, _ => .nil
  | _, _, _ + 1, .nil => .nil
  | _, _, n + 1, .cons h t => .cons h (DpAll.take n t)
theorem DpAll.drop {G : Hp} : ∀ {vs : List V} {ds : List D} (n : Nat), DpAll K G vs ds → DpAll K G (vs.drop n) (ds.drop n)
  | _, _, 0, h => h
  | _, _, _ + 1, .nil => .nil
  | _, _, n + 1, .cons h t => DpAll.drop n t
theorem DpAll.set {G : Hp} {v : V} {d : D} (h : Dp K G v d) : ∀ {vs : List V} {ds : List D} (n : Nat), DpAll K G vs ds → DpAll K G (vs.set n v) (ds.set n d)
  | _, _, _, .nil => .nil
  | _, _, 0, .cons _ t => .cons h t
  | _, _, n + 1, .cons a t => .cons a (DpAll.set h n t)
theorem DpAll.rev {G : Hp} : ∀ {vs : List V} {ds : List D}, DpAll K G vs ds → DpAll K G vs.reverse ds.reverse
  | _, _, .nil => .nil
  | _, _, .cons h t => by rw [List.reverse_cons, List.reverse_cons]; exact DpAll.app (DpAll.rev t) (.cons h .nil)
end
/-- the sack's mark among data -/
def SACK : D := .dict []
structure Vw (K : PySem.W.Frag) (sk : Option Addr) (G H : Hp) (s : S) : Prop where
  sub : Le G H
  sack : ∀ a, sk = some a → G a = none ∧ ∃ vs, H a = some (.lst vs) ∧ DpAll K G vs s
structure Ex (sk : Option Addr) (G H G' H' : Hp) : Prop where
  gs : Le G G'
  hs : ∀ a o, H a = some o → sk ≠ some a → H' a = some o
  nw : ∀ a o, G' a = some o → G a = some o ∨ H a = none
  th : ∀ a, H' a = none → H a = none
theorem Ex.refl {sk : Option Addr} {G H : Hp} : Ex sk G H G H := ⟨Le.refl, fun _ _ h _ => h, fun _ _ h => .inl h, fun _ h => h⟩
theorem Ex.trans {sk : Option Addr} {G H G1 H1 G2 H2 : Hp} (a : Ex sk G H G1 H1) (b : Ex sk G1 H1 G2 H2) : Ex sk G H G2 H2 :=
  ⟨a.gs.trans b.gs, fun x o e n => b.hs x o (a.hs x o e n) n, fun x o e => (b.nw x o e).elim (fun z => a.nw x o z) fun z => .inr (a.th x z), fun x e => a.th x (b.th x e)⟩
/-- new objects alone -/
structure Grow (G H G' H' : Hp) : Prop where
  gs : Le G G'
  hs : Le H H'
  nw : ∀ a o, G' a = some o → G a = some o ∨ H a = none
  sub : Le G' H'
theorem Grow.refl {G H : Hp} (h : Le G H) : Grow G H G H := ⟨Le.refl, Le.refl, fun _ _ e => .inl e, h⟩
theorem Grow.trans {G H G1 H1 G2 H2 : Hp} (a : Grow G H G1 H1) (b : Grow G1 H1 G2 H2) : Grow G H G2 H2 :=
  ⟨a.gs.trans b.gs, a.hs.trans b.hs, fun x o e => (b.nw x o e).elim (fun z => a.nw x o z) fun z => .inr (by
    cases q : H x with
    | none => rfl
    | some u => rw [a.hs x u q] at z; cases z), b.sub⟩
theorem Grow.new {G H : Hp} (h : Le G H) {p : Addr} (hp : H p = none) (o : HO) : Grow G H (upd G p o) (upd H p o) := by
  have gp : G p = none := by
    cases q : G p with
    | none => rfl
    | some u => rw [h p u q] at hp; cases hp
  refine ⟨fun a u e => ?_, fun a u e => ?_, fun a u e => ?_, fun a u e => ?_⟩
  · rw [upd_ne (ne_of_none e gp)]; exact e
  · rw [upd_ne (ne_of_none e hp)]; exact e
  · by_cases z : a = p
    · subst z; exact .inr hp
    · rw [upd_ne z] at e; exact .inl e
  · by_cases z : a = p
    · subst z; rw [upd_same] at e ⊢; exact e
    · rw [upd_ne z] at e ⊢; exact h a u e
theorem Grow.ex {G H G' H' : Hp} (g : Grow G H G' H') (sk : Option Addr) : Ex sk G H G' H' :=
  ⟨g.gs, fun a o e _ => g.hs a o e, g.nw, fun a e => by
    cases q : H a with
    | none => rfl
    | some u => rw [g.hs a u q] at e; cases e⟩
theorem Grow.vw {K : PySem.W.Frag} {sk : Option Addr} {G H G' H' : Hp} {s : S} (g : Grow G H G' H') (v : Vw K sk G H s) : Vw K sk G' H' s :=
  ⟨g.sub, fun a e => by
    obtain ⟨n, vs, h1, h2⟩ := v.sack a e
    refine ⟨?_, vs, g.hs a _ h1, DpAll.up g.gs _ _ h2⟩
    cases q : G' a with
    | none => rfl
    | some u =>
      rcases g.nw a u q with z | z
      · rw [n] at z; cases z
      · rw [h1] at z; cases z⟩
def Dq (K : PySem.W.Frag) (sk : Option Addr) (G : Hp) (v : V) (d : D) : Prop := Dp K G v d ∨ (d = SACK ∧ ∃ a, sk = some a ∧ v = .ref a)
theorem Dq.up {K : PySem.W.Frag} {sk : Option Addr} {G G' : Hp} {v : V} {d : D} (l : Le G G') (h : Dq K sk G v d) : Dq K sk G' v d := h.elim (fun z => .inl (Dp.up l d v z)) .inr
/-- data, not the sack -/
def isD : D → Bool
  | .dict _ => false
  | _ => true
theorem Dq.dp {K : PySem.W.Frag} {sk : Option Addr} {G : Hp} {v : V} {d : D} (h : Dq K sk G v d) (n : isD d = true) : Dp K G v d := h.elim id fun ⟨e, _⟩ => by subst e; cases n
inductive Cell where
  | fz (d : D) | ow (ds : List D)
abbrev Env := List (Option Cell)
structure ER (K : PySem.W.Frag) (sk : Option Addr) (G H : Hp) (σ : L2.St) (ρ : Env) : Prop where
  len : σ.length = ρ.length
  fz : ∀ (i : Nat) (d : D), ρ[i]? = some (some (Cell.fz d)) → ∃ v, σ[i]? = some (some v) ∧ Dq K sk G v d
  ow : ∀ (i : Nat) (ds : List D), ρ[i]? = some (some (Cell.ow ds)) → ∃ a vs, σ[i]? = some (some (V.ref a)) ∧ H a = some (.lst vs) ∧ G a = none ∧ sk ≠ some a ∧ DpAll K G vs ds
  ne : ∀ (i j : Nat) (ds es : List D) (a : Addr), i ≠ j → ρ[i]? = some (some (Cell.ow ds)) → ρ[j]? = some (some (Cell.ow es)) → σ[i]? = some (some (V.ref a)) → σ[j]? ≠ some (some (V.ref a))
theorem Ex.free {sk : Option Addr} {G H G' H' : Hp} (e : Ex sk G H G' H') {a : Addr} {o : HO} (h1 : H a = some o) (h2 : G a = none) : G' a = none := by
  cases q : G' a with
  | none => rfl
  | some u =>
    rcases e.nw a u q with z | z
    · rw [h2] at z; cases z
    · rw [h1] at z; cases z
theorem ER.ex {K : PySem.W.Frag} {sk : Option Addr} {G H G' H' : Hp} {σ : L2.St} {ρ : Env} (r : ER K sk G H σ ρ) (e : Ex sk G H G' H') : ER K sk G' H' σ ρ :=
  ⟨r.len, fun i d q => let ⟨v, a, b⟩ := r.fz i d q; ⟨v, a, b.up e.gs⟩, fun i ds q => by
    obtain ⟨a, vs, h1, h2, h3, h4, h5⟩ := r.ow i ds q
    exact ⟨a, vs, h1, e.hs a _ h2 h4, e.free h2 h3, h4, DpAll.up e.gs _ _ h5⟩, r.ne⟩
abbrev M (α : Type) := Env → S → Option (α × S)
/-- an expression's worth -/
def tP (K : PySem.W.Frag) (F : M D) : TE := fun σ H Q => ∃ sk G ρ s d s', Vw K sk G H s ∧ ER K sk G H σ ρ ∧ F ρ s = some (d, s') ∧ ∀ v G' H', Vw K sk G' H' s' → Ex sk G H G' H' → Dq K sk G' v d → Q v H'
def tQ (K : PySem.W.Frag) (F : M Bool) : TT := fun σ H Q => ∃ sk G ρ s b s', Vw K sk G H s ∧ ER K sk G H σ ρ ∧ F ρ s = some (b, s') ∧ ∀ G' H', Vw K sk G' H' s' → Ex sk G H G' H' → Q b H'
def tA (K : PySem.W.Frag) (F : M (List D)) : TA := fun σ H Q => ∃ sk G ρ s ds s', Vw K sk G H s ∧ ER K sk G H σ ρ ∧ F ρ s = some (ds, s') ∧ ∀ vs G' H', Vw K sk G' H' s' → Ex sk G H G' H' → Paired (Dq K sk G') vs ds → Q vs H'
/-- a new list, not yet among the data -/
def tL (K : PySem.W.Frag) (F : M (List D)) : TE := fun σ H Q => ∃ sk G ρ s ds s', Vw K sk G H s ∧ ER K sk G H σ ρ ∧ F ρ s = some (ds, s') ∧
  ∀ p vs G' H', Vw K sk G' H' s' → Ex sk G H G' H' → H p = none → sk ≠ some p → H' p = some (.lst vs) → G' p = none → DpAll K G' vs ds → Q (.ref p) H'
section
variable {X : Cx}
theorem peI {e : Expr} {t t' : TE} (h : PE X e t) (i : ∀ σ H Q, t' σ H Q → t σ H Q) : PE X e t' := ⟨fun pins s σ H Q I w => h.run pins s σ H Q I (i _ _ _ w)⟩
theorem ptI {e : Expr} {t t' : TT} (h : PT X e t) (i : ∀ σ H Q, t' σ H Q → t σ H Q) : PT X e t' := ⟨fun pins s σ H Q I w => h.run pins s σ H Q I (i _ _ _ w)⟩
theorem pwI {e : Expr} {t t' : TT} (h : PW X e t) (i : ∀ σ H Q, t' σ H Q → t σ H Q) : PW X e t' := ⟨fun wh pins s σ H Q I w => h.run wh pins s σ H Q I (i _ _ _ w)⟩
theorem paI {es : List Expr} {t t' : TA} (h : PA X es t) (i : ∀ σ H Q, t' σ H Q → t σ H Q) : PA X es t' := ⟨fun pos pins s σ H Q I w => h.run pos pins s σ H Q I (i _ _ _ w)⟩
theorem psI {st : Stmt} {t t' : TS} (h : PS X st t) (i : ∀ D σ H, t' D σ H → t D σ H) : PS X st t' := ⟨fun pins s σ H D I w => h.run pins s σ H D I (i _ _ _ w)⟩
theorem pssI {st : List Stmt} {t t' : TS} (h : PSs X st t) (i : ∀ D σ H, t' D σ H → t D σ H) : PSs X st t' := ⟨fun pins s σ H D I w => h.run pins s σ H D I (i _ _ _ w)⟩
theorem pgI {e : Expr} {t t' : TG} (h : PG X e t) (i : ∀ v σ H Q, t' v σ H Q → t v σ H Q) : PG X e t' := ⟨fun pins s σ H v u Q I r w => h.run pins s σ H v u Q I r (i _ _ _ _ w)⟩
theorem pgsI {e : List Expr} {t t' : TGs} (h : PGs X e t) (i : ∀ v σ H Q, t' v σ H Q → t v σ H Q) : PGs X e t' := ⟨fun pins s σ H v u Q I r w => h.run pins s σ H v u Q I r (i _ _ _ _ w)⟩
theorem piI {tg e : Expr} {t t' : TI} (h : PI X tg e t) (i : ∀ σ H Q, t' σ H Q → t σ H Q) : PI X tg e t' := ⟨fun pins s σ H Q I w => h.run pins s σ H Q I (i _ _ _ w)⟩
end
/-! ### the worth of expressions -/
def mVar (i : Nat) : M D := fun ρ s => match ρ[i]? with
  | some (some (Cell.fz d)) => some (d, s)
  | _ => none
def mC (d : D) : M D := fun _ s => some (d, s)
def mThen {α β : Type} (f : M α) (g : α → M β) : M β := fun ρ s => match f ρ s with
  | some (a, s1) => g a ρ s1
  | none => none
def mLift {α : Type} (o : Option α) : M α := fun _ s => match o with
  | some a => some (a, s)
  | none => none
def m1 (f : D → Option D) (a : M D) : M D := mThen a fun x => mLift (f x)
def m2 (f : D → D → Option D) (a b : M D) : M D := mThen a fun x => mThen b fun y => mLift (f x y)
def aNil : M (List D) := fun _ s => some ([], s)
def aCons (a : M D) (r : M (List D)) : M (List D) := mThen a fun x => mThen r fun xs => mLift (some (x :: xs))
theorem mThen_some {α β : Type} {f : M α} {g : α → M β} {ρ : Env} {s s' : S} {b : β} (h : mThen f g ρ s = some (b, s')) : ∃ a s1, f ρ s = some (a, s1) ∧ g a ρ s1 = some (b, s') := by
  unfold mThen at h
  split at h
  · rename_i a s1 e; exact ⟨a, s1, e, h⟩
  · cases h
theorem mLift_some {α : Type} {o : Option α} {ρ : Env} {s s' : S} {b : α} (h : mLift o ρ s = some (b, s')) : o = some b ∧ s' = s := by
  unfold mLift at h
  split at h
  · cases h; exact ⟨rfl, rfl⟩
  · cases h
/-- two in a row -/
theorem P.then {K : PySem.W.Frag} {F : M D} {σ : L2.St} {H : Hp} {Q : VK} {sk : Option Addr} {G : Hp} {ρ : Env} {s s1 : S} {d : D} (w : Vw K sk G H s) (r : ER K sk G H σ ρ) (e : F ρ s = some (d, s1))
    (k : ∀ v G' H', Vw K sk G' H' s1 → Ex sk G H G' H' → ER K sk G' H' σ ρ → Dq K sk G' v d → Q v H') : tP K F σ H Q :=
  ⟨sk, G, ρ, s, d, s1, w, r, e, fun v G' H' w' x q => k v G' H' w' x (r.ex x) q⟩
section
variable {X : Cx} {pos : Pos}
theorem P.var {i : Nat} {x : Str} (hN : X.N[i]? = some x) (hv : Vis X.env.scope x) (hd : (x == ("__debug__" : Str)) = false := by decide) (hcd : (x == ("__classdict__" : Str)) = false := by decide) : PE X (.Name x pos) (tP X.K (mVar i)) := by
  refine peI (pe_var hN hv hd hcd) fun σ H Q ⟨sk, G, ρ, s, d, s', w, r, e, k⟩ => ?_
  unfold mVar at e
  split at e
  · rename_i d' q
    cases e
    obtain ⟨v, h1, h2⟩ := r.fz i _ q
    exact ⟨v, h1, k v G H w .refl h2⟩
  · cases e
theorem P.c {e : Expr} {v : V} {d : D} (h : PE X e (tC v)) (q : ∀ G, Dp X.K G v d) : PE X e (tP X.K (mC d)) := by
  refine peI h fun σ H Q ⟨sk, G, ρ, s, d', s', w, r, e, k⟩ => ?_
  cases e
  exact k v G H w .refl (.inl (q G))
theorem P.int {i j} : PE X (.Constant (.int i) j pos) (tP X.K (mC (.int i))) := P.c pe_int fun _ => .int _
theorem P.bl {b j} : PE X (.Constant (.bool b) j pos) (tP X.K (mC (.bool b))) := P.c pe_bl fun _ => .bl _
theorem P.non {j} : PE X (.Constant .none j pos) (tP X.K (mC .none)) := P.c pe_non fun _ => .non
theorem P.str {x j} : PE X (.Constant (.str x) j pos) (tP X.K (mC (.str x))) := P.c pe_str fun _ => .str _
/-- an operator by values is worth f -/
def W2 (K : PySem.W.Frag) (r : R2) (f : D → D → Option D) : Prop := ∀ (x y : V) (a b d : D) (sk : Option Addr) (G H : Hp) (Q : VK), Le G H → Dq K sk G x a → Dq K sk G y b → f a b = some d →
  (∀ v G' H', Grow G H G' H' → Dp K G' v d → Q v H') → r x y H Q
def W1 (K : PySem.W.Frag) (r : V → Hp → VK → Prop) (f : D → Option D) : Prop := ∀ (x : V) (a d : D) (sk : Option Addr) (G H : Hp) (Q : VK), Le G H → Dq K sk G x a → f a = some d →
  (∀ v G' H', Grow G H G' H' → Dp K G' v d → Q v H') → r x H Q
def WC (K : PySem.W.Frag) (r : List V → Hp → VK → Prop) (f : List D → Option D) : Prop := ∀ (xs : List V) (as : List D) (d : D) (sk : Option Addr) (G H : Hp) (Q : VK), Le G H → Paired (Dq K sk G) xs as → f as = some d →
  (∀ v G' H', Grow G H G' H' → Dp K G' v d → Q v H') → r xs H Q
theorem tOp_of {K : PySem.W.Frag} {r : R2} {f : D → D → Option D} (h : W2 K r f) {fa fb : M D} {σ : L2.St} {H : Hp} {Q : VK} (t : tP K (m2 f fa fb) σ H Q) : tOp r (tP K fa) (tP K fb) σ H Q := by
  obtain ⟨sk, G, ρ, s, d, s', w, e, q, k⟩ := t
  obtain ⟨a, s1, q1, q⟩ := mThen_some q
  obtain ⟨b, s2, q2, q⟩ := mThen_some q
  obtain ⟨q3, rfl⟩ := mLift_some q
  refine P.then w e q1 fun x G1 H1 w1 x1 e1 dx => ?_
  refine P.then w1 e1 q2 fun y G2 H2 w2 x2 e2 dy => ?_
  exact h x y a b d sk G2 H2 Q w2.sub (dx.up x2.gs) dy q3 fun v G' H' g dv => k v G' H' (g.vw w2) ((x1.trans x2).trans (g.ex sk)) (.inl dv)
theorem P.op {op : Operator} {r : R2} {f : D → D → Option D} {a b : Expr} {fa fb : M D} (ho : OpR X (binaryOp op) r) (h : W2 X.K r f) (ha : PE X a (tP X.K fa)) (hb : PE X b (tP X.K fb)) : PE X (.BinOp a op b pos) (tP X.K (m2 f fa fb)) :=
  peI (pe_op ho ha hb) fun _ _ _ t => tOp_of h t
theorem P.cmp {op : CmpOp} {r : R2} {f : D → D → Option D} {a b : Expr} {fa fb : M D} (ho : OpR X (compareOp op) r) (h : W2 X.K r f) (ha : PE X a (tP X.K fa)) (hb : PE X b (tP X.K fb)) (hm : behindInMarks op b = false) : PE X (.Compare a [op] [b] pos) (tP X.K (m2 f fa fb)) :=
  peI (pe_cmpR ho ha hb hm) fun _ _ _ t => tOp_of h t
theorem P.ix {r : R2} {f : D → D → Option D} {a b : Expr} {fa fb : M D} (hr : IxR X r) (h : W2 X.K r f) (ha : PE X a (tP X.K fa)) (hb : PE X b (tP X.K fb)) (hs : PlainIx b) : PE X (.Subscript a b pos) (tP X.K (m2 f fa fb)) :=
  peI (pe_ix hr ha hb hs) fun _ _ _ t => tOp_of h t
theorem P.un {op : UnaryOp} {r : V → Hp → VK → Prop} {f : D → Option D} {a : Expr} {fa : M D} (ho : UnR X (unaryOp op) r) (h : W1 X.K r f) (ha : PE X a (tP X.K fa)) : PE X (.UnaryOp op a pos) (tP X.K (m1 f fa)) := by
  refine peI (pe_un ho ha) fun σ H Q ⟨sk, G, ρ, s, d, s', w, e, q, k⟩ => ?_
  obtain ⟨a, s1, q1, q⟩ := mThen_some q
  obtain ⟨q3, rfl⟩ := mLift_some q
  refine P.then w e q1 fun x G1 H1 w1 x1 e1 dx => ?_
  exact h x a d sk G1 H1 Q w1.sub dx q3 fun v G' H' g dv => k v G' H' (g.vw w1) (x1.trans (g.ex sk)) (.inl dv)
theorem P.anil : PA X [] (tA X.K aNil) := paI pa_nil fun σ H Q ⟨sk, G, ρ, s, d, s', w, e, q, k⟩ => by
  cases q
  exact k [] G H w .refl .nil
theorem P.acons {e : Expr} {es : List Expr} {f : M D} {g : M (List D)} (ha : PE X e (tP X.K f)) (hr : PA X es (tA X.K g)) (hs : starEach (e :: es) X.env = (false, eval e X.env) :: starEach es X.env := by rfl) : PA X (e :: es) (tA X.K (aCons f g)) :=
  paI (pa_cons ha hr hs) fun σ H Q ⟨sk, G, ρ, s, d, s', w, e, q, k⟩ => by
    obtain ⟨a, s1, q1, q⟩ := mThen_some q
    obtain ⟨b, s2, q2, q⟩ := mThen_some q
    obtain ⟨q3, rfl⟩ := mLift_some q
    cases q3
    refine P.then w e q1 fun x G1 H1 w1 x1 e1 dx => ?_
    exact ⟨sk, G1, ρ, s1, b, s', w1, e1, q2, fun vs G' H' w' x' ps => k _ G' H' w' (x1.trans x') (.cons (dx.up x'.gs) ps)⟩
def mCall (f : List D → Option D) (a : M (List D)) : M D := mThen a fun xs => mLift (f xs)
theorem tCB_of {K : PySem.W.Frag} {r : List V → Hp → VK → Prop} {f : List D → Option D} (h : WC K r f) {fa : M (List D)} {σ : L2.St} {H : Hp} {Q : VK} (t : tP K (mCall f fa) σ H Q) : tCB r (tA K fa) σ H Q := by
  obtain ⟨sk, G, ρ, s, d, s', w, e, q, k⟩ := t
  obtain ⟨a, s1, q1, q⟩ := mThen_some q
  obtain ⟨q3, rfl⟩ := mLift_some q
  exact ⟨sk, G, ρ, s, a, s', w, e, q1, fun vs G' H' w' x' ps => h vs a d sk G' H' Q w'.sub ps q3 fun v G2 H2 g dv => k v G2 H2 (g.vw w') (x'.trans (g.ex sk)) (.inl dv)⟩
theorem P.callB {id : String} {x : Str} {p : Pos} {e : Expr} {es : List Expr} {r : List V → Hp → VK → Prop} {f : List D → Option D} {fa : M (List D)} (hc : CallR X (.builtin id) r) (h : WC X.K r f) (hg : Gl X x) (hm : X.mg x = none) (hv : bootBuiltins x = some (.builtin id)) (ha : PA X (e :: es) (tA X.K fa)) (hn : x ≠ "__name__" := by decide) (hdb : (x == ("__debug__" : Str)) = false := by decide) (he : starEach (e :: es) X.env = (false, eval e X.env) :: starEach es X.env := by rfl) (hpl : (backTo pos (starEach es X.env)).any (·.1) = false := by rfl) :
    PE X (.Call (.Name x p) (e :: es) [] pos) (tP X.K (mCall f fa)) :=
  peI (pe_callB hc hg hm hv ha hn hdb he hpl) fun _ _ _ t => tCB_of h t
theorem P.callTy {T : String} {x : Str} {p : Pos} {e : Expr} {es : List Expr} {r : List V → Hp → VK → Prop} {f : List D → Option D} {fa : M (List D)} (hc : CallR X (.type T) r) (h : WC X.K r f) (hg : Gl X x) (hm : X.mg x = none) (hv : bootBuiltins x = some (.type T)) (ha : PA X (e :: es) (tA X.K fa)) (hn : x ≠ "__name__" := by decide) (hdb : (x == ("__debug__" : Str)) = false := by decide) (he : starEach (e :: es) X.env = (false, eval e X.env) :: starEach es X.env := by rfl) (hpl : (backTo pos (starEach es X.env)).any (·.1) = false := by rfl) :
    PE X (.Call (.Name x p) (e :: es) [] pos) (tP X.K (mCall f fa)) :=
  peI (pe_callTy hc hg hm hv ha hn hdb he hpl) fun _ _ _ t => tCB_of h t
end
end PL
namespace PL
open PySem PySem.Spec PyProof.Rows L2
/-! ### tests -/
def bOf : D → Option Bool
  | .bool b => some b
  | _ => none
def mB (a : M D) : M Bool := mThen a fun x => mLift (bOf x)
def mNot (a : M Bool) : M Bool := mThen a fun x => mLift (some (!x))
def mIf {α : Type} (c : M Bool) (a b : M α) : M α := mThen c fun x => if x = true then a else b
def qC (b : Bool) : M Bool := fun _ s => some (b, s)
def mAnd (a b : M Bool) : M Bool := mIf a b (qC false)
def mOr (a b : M Bool) : M Bool := mIf a (qC true) b
def mV (a : M Bool) : M D := mThen a fun x => mLift (some (.bool x))
/-- a and b, a or b as values -/
def mAndV (a b : M D) : M D := mIf (mB a) b (mC (.bool false))
def mOrV (a b : M D) : M D := mIf (mB a) (mC (.bool true)) b
theorem mB_some {a : M D} {ρ : Env} {s s' : S} {b : Bool} (h : mB a ρ s = some (b, s')) : a ρ s = some (.bool b, s') := by
  obtain ⟨x, s1, q1, q⟩ := mThen_some h
  obtain ⟨q2, rfl⟩ := mLift_some q
  cases x <;> first | (cases q2; exact q1) | cases q2
theorem Dp.bl_of {K : PySem.W.Frag} {sk : Option Addr} {G : Hp} {v : V} {b : Bool} (h : Dq K sk G v (.bool b)) : v = .bl b := by
  have h' := h.dp rfl
  cases h'; rfl
theorem Dp.int_of {K : PySem.W.Frag} {sk : Option Addr} {G : Hp} {v : V} {i : Int} (h : Dq K sk G v (.int i)) : v = .int i := by
  have h' := h.dp rfl
  cases h'; rfl
theorem Dp.str_of {K : PySem.W.Frag} {sk : Option Addr} {G : Hp} {v : V} {i : Str} (h : Dq K sk G v (.str i)) : v = .str i := by
  have h' := h.dp rfl
  cases h'; rfl
theorem Dp.tup_of {K : PySem.W.Frag} {sk : Option Addr} {G : Hp} {v : V} {ds : List D} (h : Dq K sk G v (.tuple ds)) : ∃ a xs, v = .ref a ∧ SqT K G a xs ∧ DpAll K G xs ds := by
  have h' := h.dp rfl
  cases h' with | tup a b => exact ⟨_, _, rfl, a, b⟩
theorem Dp.lst_of {K : PySem.W.Frag} {sk : Option Addr} {G : Hp} {v : V} {ds : List D} (h : Dq K sk G v (.list ds)) : ∃ a xs, v = .ref a ∧ SqL K G a xs ∧ DpAll K G xs ds := by
  have h' := h.dp rfl
  cases h' with | lst a b => exact ⟨_, _, rfl, a, b⟩
section
variable {X : Cx} {pos : Pos} {a b e : Expr} {fa fb : M D} {ca cb : M Bool}
theorem P.tval (h : PE X e (tP X.K fa)) (he : ∀ whole, isTrue e X.env whole = (do let v ← whole; standAt e.pos; holding [v] (truthy v)) := by intro _; rfl) : PT X e (tQ X.K (mB fa)) := by
  refine ptI (pt_val h he) fun σ H Q ⟨sk, G, ρ, s, c, s', w, r, e, k⟩ => ?_
  refine P.then w r (mB_some e) fun v G' H' w' x r' q => ?_
  exact ⟨c, Dp.bl_of q, k G' H' w' x⟩
theorem P.cmpT {op : CmpOp} {r : R2} {f : D → D → Option D} (ho : OpR X (compareOp op) r) (h : W2 X.K r f) (ha : PE X a (tP X.K fa)) (hb : PE X b (tP X.K fb)) (hm : behindInMarks op b = false) : PT X (.Compare a [op] [b] pos) (tQ X.K (mB (m2 f fa fb))) := by
  refine ptI (pt_cmpR ho ha hb hm) fun σ H Q ⟨sk, G, ρ, s, c, s', w, r, e, k⟩ => ?_
  refine tOp_of h ?_
  refine P.then w r (mB_some e) fun v G' H' w' x r' q => ?_
  exact ⟨c, Dp.bl_of q, k G' H' w' x⟩
theorem P.not (ha : PT X a (tQ X.K ca)) : PT X (.UnaryOp .Not a pos) (tQ X.K (mNot ca)) := by
  refine ptI (pt_not ha) fun σ H Q ⟨sk, G, ρ, s, c, s', w, r, e, k⟩ => ?_
  obtain ⟨x, s1, q1, q⟩ := mThen_some e
  obtain ⟨q2, rfl⟩ := mLift_some q
  cases q2
  exact ⟨sk, G, ρ, s, x, s', w, r, q1, k⟩
theorem mIf_some {α : Type} {c : M Bool} {f g : M α} {ρ : Env} {s s' : S} {d : α} (h : mIf c f g ρ s = some (d, s')) : ∃ b s1, c ρ s = some (b, s1) ∧ (if b = true then f ρ s1 else g ρ s1) = some (d, s') := by
  obtain ⟨x, s1, q1, q⟩ := mThen_some h
  refine ⟨x, s1, q1, ?_⟩
  cases x
  · exact q
  · exact q
theorem P.and1 (ha : PT X a (tQ X.K ca)) : PW X (.BoolOp .And [a] pos) (tQ X.K ca) := pw_and1 ha
theorem P.or1 (ha : PT X a (tQ X.K ca)) : PW X (.BoolOp .Or [a] pos) (tQ X.K ca) := pw_or1 ha
theorem P.and {rest : List Expr} (ha : PT X a (tQ X.K ca)) (hb : PW X (.BoolOp .And (b :: rest) pos) (tQ X.K cb)) : PW X (.BoolOp .And (a :: b :: rest) pos) (tQ X.K (mAnd ca cb)) := by
  refine pwI (pw_and ha hb) fun σ H Q ⟨sk, G, ρ, s, c, s', w, r, e, k⟩ => ?_
  obtain ⟨x, s1, q1, q⟩ := mIf_some e
  refine ⟨sk, G, ρ, s, x, s1, w, r, q1, fun G1 H1 w1 x1 => ?_⟩
  cases x with
  | true =>
    refine ⟨sk, G1, ρ, s1, c, s', w1, r.ex x1, q, fun G2 H2 w2 x2 => k G2 H2 w2 (x1.trans x2)⟩
  | false =>
    cases q
    exact k G1 H1 w1 x1
theorem P.or {rest : List Expr} (ha : PT X a (tQ X.K ca)) (hb : PW X (.BoolOp .Or (b :: rest) pos) (tQ X.K cb)) : PW X (.BoolOp .Or (a :: b :: rest) pos) (tQ X.K (mOr ca cb)) := by
  refine pwI (pw_or ha hb) fun σ H Q ⟨sk, G, ρ, s, c, s', w, r, e, k⟩ => ?_
  obtain ⟨x, s1, q1, q⟩ := mIf_some e
  refine ⟨sk, G, ρ, s, x, s1, w, r, q1, fun G1 H1 w1 x1 => ?_⟩
  cases x with
  | false =>
    refine ⟨sk, G1, ρ, s1, c, s', w1, r.ex x1, q, fun G2 H2 w2 x2 => k G2 H2 w2 (x1.trans x2)⟩
  | true =>
    cases q
    exact k G1 H1 w1 x1
/-- values -/
theorem P.one {op : BoolOp} (ha : PE X a (tP X.K fa)) : PE X (.BoolOp op [a] pos) (tP X.K fa) := pe_one ha
theorem P.andV {rest : List Expr} (ha : PE X a (tP X.K fa)) (hb : PE X (.BoolOp .And (b :: rest) pos) (tP X.K fb)) : PE X (.BoolOp .And (a :: b :: rest) pos) (tP X.K (mAndV fa fb)) := by
  refine peI (pe_and ha hb) fun σ H Q ⟨sk, G, ρ, s, c, s', w, r, e, k⟩ => ?_
  obtain ⟨x, s1, q1, q⟩ := mIf_some e
  refine P.then w r (mB_some q1) fun v G1 H1 w1 x1 r1 q2 => ?_
  refine ⟨x, Dp.bl_of q2, ?_⟩
  cases x with
  | true => exact ⟨sk, G1, ρ, s1, c, s', w1, r1, q, fun v G2 H2 w2 x2 => k v G2 H2 w2 (x1.trans x2)⟩
  | false =>
    cases q
    exact k (.bl false) G1 H1 w1 x1 (.inl (.bl _))
theorem P.orV {rest : List Expr} (ha : PE X a (tP X.K fa)) (hb : PE X (.BoolOp .Or (b :: rest) pos) (tP X.K fb)) : PE X (.BoolOp .Or (a :: b :: rest) pos) (tP X.K (mOrV fa fb)) := by
  refine peI (pe_or ha hb) fun σ H Q ⟨sk, G, ρ, s, c, s', w, r, e, k⟩ => ?_
  obtain ⟨x, s1, q1, q⟩ := mIf_some e
  refine P.then w r (mB_some q1) fun v G1 H1 w1 x1 r1 q2 => ?_
  refine ⟨x, Dp.bl_of q2, ?_⟩
  cases x with
  | false => exact ⟨sk, G1, ρ, s1, c, s', w1, r1, q, fun v G2 H2 w2 x2 => k v G2 H2 w2 (x1.trans x2)⟩
  | true =>
    cases q
    exact k (.bl true) G1 H1 w1 x1 (.inl (.bl _))
def dNot : D → Option D
  | .bool b => some (.bool (!b))
  | _ => none
theorem P.notV (ha : PE X a (tP X.K fa)) : PE X (.UnaryOp .Not a pos) (tP X.K (m1 dNot fa)) := by
  refine peI (pe_not ha) fun σ H Q ⟨sk, G, ρ, s, c, s', w, r, e, k⟩ => ?_
  obtain ⟨x, s1, q1, q⟩ := mThen_some e
  obtain ⟨q2, rfl⟩ := mLift_some q
  refine P.then w r q1 fun v G1 H1 w1 x1 r1 q3 => ?_
  cases x with
  | bool b =>
    cases q2
    exact ⟨b, Dp.bl_of q3, k _ G1 H1 w1 x1 (.inl (.bl _))⟩
  | _ => cases q2
theorem P.ifE {c : Expr} (hc : PT X c (tQ X.K ca)) (ha : PE X a (tP X.K fa)) (hb : PE X b (tP X.K fb)) : PE X (.IfExp c a b pos) (tP X.K (mIf ca fa fb)) := by
  refine peI (pe_ifExp hc ha hb) fun σ H Q ⟨sk, G, ρ, s, d, s', w, r, e, k⟩ => ?_
  obtain ⟨x, s1, q1, q⟩ := mIf_some e
  refine ⟨sk, G, ρ, s, x, s1, w, r, q1, fun G1 H1 w1 x1 => ?_⟩
  cases x with
  | true => exact ⟨sk, G1, ρ, s1, d, s', w1, r.ex x1, q, fun v G2 H2 w2 x2 => k v G2 H2 w2 (x1.trans x2)⟩
  | false => exact ⟨sk, G1, ρ, s1, d, s', w1, r.ex x1, q, fun v G2 H2 w2 x2 => k v G2 H2 w2 (x1.trans x2)⟩
end
/-! ### statements -/
inductive Out where
  | nx (ρ : Env) | rt (d : D) | bk (ρ : Env) | ct (ρ : Env) | rl (ds : List D)
structure SR (K : PySem.W.Frag) (sk : Option Addr) (G0 H0 G H : Hp) (σ : L2.St) (ρ : Env) (s : S) : Prop where
  vw : Vw K sk G H s
  er : ER K sk G H σ ρ
  ex : Ex sk G0 H0 G H
  yo : ∀ (i : Nat) (ds : List D) (a : Addr), ρ[i]? = some (some (Cell.ow ds)) → σ[i]? = some (some (V.ref a)) → H0 a = none
theorem SR.on {K : PySem.W.Frag} {sk : Option Addr} {G0 H0 G H G' H' : Hp} {σ : L2.St} {ρ : Env} {s s' : S} (r : SR K sk G0 H0 G H σ ρ s) (w : Vw K sk G' H' s') (x : Ex sk G H G' H') : SR K sk G0 H0 G' H' σ ρ s' :=
  ⟨w, r.er.ex x, r.ex.trans x, r.yo⟩
def Post (K : PySem.W.Frag) (sk : Option Addr) (G0 H0 : Hp) (E : Ends) (s' : S) : Out → Prop
  | .nx ρ' => ∀ σ' G' H', SR K sk G0 H0 G' H' σ' ρ' s' → E.nx σ' H'
  | .rt d => ∀ v G' H', Vw K sk G' H' s' → Ex sk G0 H0 G' H' → Dq K sk G' v d → E.rt v H'
  | .bk ρ' => ∀ σ' G' H', SR K sk G0 H0 G' H' σ' ρ' s' → E.bk σ' H'
  | .ct ρ' => ∀ σ' G' H', SR K sk G0 H0 G' H' σ' ρ' s' → E.ct σ' H'
  | .rl ds => ∀ p vs G' H', Vw K sk G' H' s' → Ex sk G0 H0 G' H' → H0 p = none → sk ≠ some p → H' p = some (.lst vs) → G' p = none → DpAll K G' vs ds → E.rt (.ref p) H'
def tS (K : PySem.W.Frag) (F : M Out) : TS := fun E σ H => ∃ sk G0 H0 G ρ s o s', SR K sk G0 H0 G H σ ρ s ∧ F ρ s = some (o, s') ∧ Post K sk G0 H0 E s' o
def sNx : M Out := fun ρ s => some (.nx ρ, s)
def sBk : M Out := fun ρ s => some (.bk ρ, s)
def sCt : M Out := fun ρ s => some (.ct ρ, s)
def sNo : M Out := fun _ _ => none
def sSeq (a b : M Out) : M Out := fun ρ s => match a ρ s with
  | some (.nx ρ', s') => b ρ' s'
  | r => r
def sRet (a : M D) : M Out := mThen a fun x => mLift (some (.rt x))
def sEx (a : M D) : M Out := fun ρ s => match a ρ s with
  | some (_, s') => some (.nx ρ, s')
  | none => none
/-- a target: a name's slot, a tuple of targets, an item of the sack -/
inductive Pat where
  | nm (i : Nat) | tp (ps : List Pat) | sb (i k : Nat)
mutual
def bnd : Pat → D → Env → S → Option (Env × S)
  | .nm i, d, ρ, s => some (ρ.set i (some (.fz d)), s)
  | .tp ps, .tuple ds, ρ, s => bnds ps ds ρ s
  | .tp ps, .list ds, ρ, s => bnds ps ds ρ s
  | .sb i k, d, ρ, s => match ρ[i]? with
    | some (some (Cell.fz (.dict []))) => if k < s.length ∧ isD d = true then some (ρ, s.set k d) else none
    | _ => none
  | _, _, _, _ => none
def bnds : List Pat → List D → Env → S → Option (Env × S)
  | [], [], ρ, s => some (ρ, s)
  | p :: ps, d :: ds, ρ, s => match bnd p d ρ s with
    | some (ρ', s') => bnds ps ds ρ' s'
    | none => none
  | _, _, _, _ => none
end
def sAsg (p : Pat) (a : M D) : M Out := fun ρ s => match a ρ s with
  | some (d, s1) => (match bnd p d ρ s1 with
    | some (ρ', s2) => some (.nx ρ', s2)
    | none => none)
  | none => none
/-- a list of one's own is named -/
def sOwn (i : Nat) (a : M (List D)) : M Out := fun ρ s => match a ρ s with
  | some (ds, s1) => some (.nx (ρ.set i (some (.ow ds))), s1)
  | none => none
/-- .. and is taken for data from here on -/
def frz (i : Nat) (ρ : Env) : Env := match ρ[i]? with
  | some (some (Cell.ow ds)) => ρ.set i (some (.fz (.list ds)))
  | _ => ρ
def sFrz (i : Nat) (F : M Out) : M Out := fun ρ s => F (frz i ρ) s
mutual
def slo : Pat → List Nat
  | .nm i => [i]
  | .tp ps => slos ps
  | .sb _ _ => []
def slos : List Pat → List Nat
  | [] => []
  | p :: ps => slo p ++ slos ps
end
/-- but at these slots alike -/
def Off (l : List Nat) (σ σ' : L2.St) : Prop := ∀ j : Nat, j ∉ l → σ'[j]? = σ[j]?
theorem Off.refl {l : List Nat} {σ : L2.St} : Off l σ σ := fun _ _ => rfl
theorem Off.trans {l l' : List Nat} {σ σ1 σ2 : L2.St} (a : Off l σ σ1) (b : Off l' σ1 σ2) : Off (l ++ l') σ σ2 := fun j h => by
  rw [List.mem_append, not_or] at h
  rw [b j h.2, a j h.1]
theorem Off.set {σ : L2.St} {i : Nat} {v : Option V} : Off [i] σ (σ.set i v) := fun j h => by
  rw [List.getElem?_set_ne (fun e => h (by simp [e]))]
def tG (K : PySem.W.Frag) (p : Pat) : TG := fun v σ H Q => ∃ sk G0 H0 G ρ s d ρ' s', SR K sk G0 H0 G H σ ρ s ∧ Dq K sk G v d ∧ bnd p d ρ s = some (ρ', s') ∧ ∀ σ' G' H', Ex sk G H G' H' → Off (slo p) σ σ' → SR K sk G0 H0 G' H' σ' ρ' s' → Q σ' H'
def tGs (K : PySem.W.Frag) (ps : List Pat) : TGs := fun vs σ H Q => ∃ sk G0 H0 G ρ s ds ρ' s', SR K sk G0 H0 G H σ ρ s ∧ DpAll K G vs ds ∧ bnds ps ds ρ s = some (ρ', s') ∧ ∀ σ' G' H', Ex sk G H G' H' → Off (slos ps) σ σ' → SR K sk G0 H0 G' H' σ' ρ' s' → Q σ' H'
theorem get_set {α : Type} {l : List α} {i j : Nat} {x y : α} (h : (l.set i x)[j]? = some y) : (j = i ∧ y = x ∧ i < l.length) ∨ (j ≠ i ∧ l[j]? = some y) := by
  by_cases e : i = j
  · subst e
    rw [List.getElem?_set] at h
    split at h
    · split at h
      · cases h; exact .inl ⟨rfl, rfl, by assumption⟩
      · cases h
    · exact absurd rfl ‹_›
  · rw [List.getElem?_set_ne e] at h
    exact .inr ⟨fun z => e z.symm, h⟩
theorem SR.setF {K : PySem.W.Frag} {sk : Option Addr} {G0 H0 G H : Hp} {σ : L2.St} {ρ : Env} {s : S} {v : V} {d : D} (r : SR K sk G0 H0 G H σ ρ s) (i : Nat) (q : Dq K sk G v d) : SR K sk G0 H0 G H (σ.set i (some v)) (ρ.set i (some (.fz d))) s := by
  have ow : ∀ (j : Nat) (ds : List D), (ρ.set i (some (Cell.fz d)))[j]? = some (some (Cell.ow ds)) → j ≠ i ∧ ρ[j]? = some (some (Cell.ow ds)) := fun j ds h => by
    rcases get_set h with ⟨_, z, _⟩ | z
    · cases z
    · exact z
  refine ⟨r.vw, ⟨by simp [r.er.len], fun j d' h => ?_, fun j ds h => ?_, fun j k ds es a n h1 h2 h3 => ?_⟩, r.ex, fun j ds a h1 h2 => ?_⟩
  · rcases get_set h with ⟨rfl, z, l⟩ | ⟨n, z⟩
    · cases z
      exact ⟨v, by rw [List.getElem?_set_self (by rw [r.er.len]; exact l)], q⟩
    · obtain ⟨v', a, b⟩ := r.er.fz j d' z
      exact ⟨v', by rw [List.getElem?_set_ne (Ne.symm n)]; exact a, b⟩
  · obtain ⟨n, z⟩ := ow j ds h
    obtain ⟨a, vs, h1, h2⟩ := r.er.ow j ds z
    exact ⟨a, vs, by rw [List.getElem?_set_ne (Ne.symm n)]; exact h1, h2⟩
  · obtain ⟨n1, z1⟩ := ow j ds h1
    obtain ⟨n2, z2⟩ := ow k es h2
    rw [List.getElem?_set_ne (Ne.symm n1)] at h3
    rw [List.getElem?_set_ne (Ne.symm n2)]
    exact r.er.ne j k ds es a n z1 z2 h3
  · obtain ⟨n1, z1⟩ := ow j ds h1
    rw [List.getElem?_set_ne (Ne.symm n1)] at h2
    exact r.yo j ds a z1 h2
section
variable {X : Cx} {pos : Pos}
theorem P.gnm {i : Nat} {x : Str} (hN : X.N.Nodup) (hi : X.N[i]? = some x) (hx : Loc X.env.scope x) (hf : X.fn x = true ∨ X.env.scope.names.lookup x = some .local := by first | exact .inl rfl | exact .inr rfl | assumption) : PG X (.Name x pos) (tG X.K (.nm i)) := by
  refine pgI (pg_name hN hi hx hf) fun v σ H Q ⟨sk, G0, H0, G, ρ, s, d, ρ', s', r, q, e, k⟩ => ?_
  unfold bnd at e
  cases e
  exact k _ G H .refl (by unfold slo; exact Off.set) (r.setF i q)
theorem P.gnil : PGs X [] (tGs X.K []) := pgsI pgs_nil fun v σ H Q ⟨sk, G0, H0, G, ρ, s, d, ρ', s', r, q, e, k⟩ => by
  cases d with
  | nil =>
    cases q
    unfold bnds at e
    cases e
    exact ⟨rfl, k σ G H .refl .refl r⟩
  | cons d ds => unfold bnds at e; cases e
end
end PL
namespace PL
open PySem PySem.Spec PyProof.Rows L2
section
variable {X : Cx} {pos : Pos}
theorem P.gcons {e : Expr} {es : List Expr} {p : Pat} {ps : List Pat} (h1 : PG X e (tG X.K p)) (h2 : PGs X es (tGs X.K ps)) (hs : (assignEach (e :: es) X.env).map (·.2) = assign e X.env :: (assignEach es X.env).map (·.2) := by rfl) : PGs X (e :: es) (tGs X.K (p :: ps)) := by
  refine pgsI (pgs_cons h1 h2 hs) fun vs σ H Q ⟨sk, G0, H0, G, ρ, s, ds, ρ', s', r, q, e, k⟩ => ?_
  cases ds with
  | nil => unfold bnds at e; cases e
  | cons d ds =>
    cases q with
    | cons qa qb =>
      unfold bnds at e
      split at e
      · rename_i ρ1 s1 e1
        refine ⟨_, _, rfl, sk, G0, H0, G, ρ, s, d, ρ1, s1, r, .inl qa, e1, fun σ1 G1 H1 l1 o1 r1 => ?_⟩
        exact ⟨sk, G0, H0, G1, ρ1, s1, ds, ρ', s', r1, DpAll.up l1.gs _ _ qb, e, fun σ2 G2 H2 l2 o2 r2 => k σ2 G2 H2 (l1.trans l2) (by unfold slos; exact o1.trans o2) r2⟩
      · cases e
theorem bnds_same : ∀ (ps : List Pat) (ds : List D) (ρ : Env) (s : S) (r : Env × S), bnds ps ds ρ s = some r → ps.length = ds.length := by
  intro ps
  induction ps with
  | nil => intro ds ρ s r e; cases ds with | nil => rfl | cons _ _ => unfold bnds at e; cases e
  | cons p ps ih =>
    intro ds ρ s r e
    cases ds with
    | nil => unfold bnds at e; cases e
    | cons d ds =>
      unfold bnds at e
      split at e
      · simp [ih _ _ _ _ e]
      · cases e
theorem P.gtup {es : List Expr} {k : Nat} {ps : List Pat} {n : Nat} (hc : X.calm = true) (h : PGs X es (tGs X.K ps)) (hn : (assignEach es X.env).length = n := by rfl) (hl : ps.length = n := by rfl) (hst : (assignEach es X.env).findIdx? (·.1) = none := by rfl) : PG X (.Tuple es k pos) (tG X.K (.tp ps)) := by
  refine ⟨fun pins s σ H v u Q I rv ⟨sk, G0, H0, G, ρ, s, d, ρ', s', r, q, e, k⟩ => ?_⟩
  cases d with
  | tuple ds =>
    obtain ⟨a, xs, rfl, h1, h2⟩ := Dp.tup_of q
    unfold bnd at e
    refine (pg_tup hc h hn hst).run pins _ σ H _ u Q I rv ⟨a, xs, rfl, SqT.up r.vw.sub h1, ?_, sk, G0, H0, G, ρ, s, ds, ρ', s', r, h2, e, fun σ' G' H' l o r => k σ' G' H' l (by unfold slo; exact o) r⟩
    rw [DpAll.length h2, ← bnds_same _ _ _ _ _ e, hl]
  | list ds =>
    obtain ⟨a, xs, rfl, h1, h2⟩ := Dp.lst_of q
    unfold bnd at e
    refine (pg_unl hc h hn hst).run pins _ σ H _ u Q I rv ⟨a, xs, rfl, SqL.up r.vw.sub h1, ?_, sk, G0, H0, G, ρ, s, ds, ρ', s', r, h2, e, fun σ' G' H' l o r => k σ' G' H' l (by unfold slo; exact o) r⟩
    rw [DpAll.length h2, ← bnds_same _ _ _ _ _ e, hl]
  | _ => unfold bnd at e; cases e
theorem SR.sackset {K : PySem.W.Frag} {sk : Option Addr} {G0 H0 G H : Hp} {σ : L2.St} {ρ : Env} {s : S} {p : Addr} {xs : List V} {j : Nat} {v : V} {d : D} (r : SR K sk G0 H0 G H σ ρ s) (hp : sk = some p) (hx : H p = some (.lst xs)) (q : Dp K G v d) :
    SR K sk G0 H0 G (upd H p (.lst (xs.set j v))) σ ρ (s.set j d) := by
  obtain ⟨gn, vs, hv, hd⟩ := r.vw.sack p hp
  rw [hx] at hv; cases hv
  refine ⟨⟨fun a o e => ?_, fun a e => ?_⟩, ⟨r.er.len, r.er.fz, fun i ds e => ?_, r.er.ne⟩, ⟨r.ex.gs, fun a o e n => ?_, r.ex.nw, fun a e => ?_⟩, r.yo⟩
  · have n : a ≠ p := fun z => by subst z; rw [gn] at e; cases e
    rw [upd_ne n]; exact r.vw.sub a o e
  · rw [hp] at e; cases e
    exact ⟨gn, _, upd_same, DpAll.set q j hd⟩
  · obtain ⟨a, ws, h1, h2, h3, h4, h5⟩ := r.er.ow i ds e
    exact ⟨a, ws, h1, by rw [upd_ne (fun z => h4 (by rw [z]; exact hp))]; exact h2, h3, h4, h5⟩
  · rw [upd_ne (fun z => n (by rw [z]; exact hp))]; exact r.ex.hs a o e n
  · by_cases z : a = p
    · subst z; rw [upd_same] at e; cases e
    · rw [upd_ne z] at e; exact r.ex.th a e
theorem ixN_ok {n k : Nat} (h : k < n) : ixN n (k : Int) = some k := by
  unfold ixN
  rw [if_pos (by omega), if_pos (by omega)]
  rfl
theorem P.gsub {i k : Nat} {x : Str} {j} {p1 p2 : Pos} (hN : X.N[i]? = some x) (hv : Vis X.env.scope x) (hd : (x == ("__debug__" : Str)) = false := by decide) (hcd : (x == ("__classdict__" : Str)) = false := by decide)
    (ha : ∀ v, assign (.Subscript (.Name x p1) (.Constant (.int (k : Nat)) j p2) pos) X.env v = (do
      let ov ← holding [v] (eval (.Name x p1) X.env)
      let iv ← holding [v, ov] (eval (.Constant (.int (k : Nat)) j p2) X.env)
      standAt pos
      holding [v, ov, iv] (setItem ov iv v)
      release [v, ov, iv] []) := by intro _; rfl) : PG X (.Subscript (.Name x p1) (.Constant (.int (k : Nat)) j p2) pos) (tG X.K (.sb i k)) := by
  refine pgI (pg_sub (pe_var hN hv hd hcd) pe_int set_list ha) fun v σ H Q ⟨sk, G0, H0, G, ρ, s, d, ρ', s', r, q, e, kk⟩ => ?_
  unfold bnd at e
  split at e
  · rename_i e1
    split at e
    · rename_i hc
      cases e
      obtain ⟨u, h1, h2⟩ := r.er.fz i _ e1
      rcases h2 with z | ⟨_, a, ha, rfl⟩
      · cases z
      obtain ⟨gn, vs, hvs, hd⟩ := r.vw.sack a ha
      refine ⟨_, h1, a, vs, (k : Int), k, rfl, rfl, hvs, ixN_ok ?_, ?_⟩
      · rw [DpAll.length hd]; exact hc.1
      · refine kk σ G _ ⟨.refl, fun b o e n => ?_, fun _ _ e => .inl e, fun b e => ?_⟩ .refl (r.sackset ha hvs (q.dp hc.2))
        · rw [upd_ne (fun z => n (by rw [z]; exact ha))]; exact e
        · by_cases z : b = a
          · subst z; rw [upd_same] at e; cases e
          · rw [upd_ne z] at e; exact e
    · cases e
  · cases e
/-- an item of the sack -/
def mSk (i k : Nat) : M D := fun ρ s => match ρ[i]? with
  | some (some (Cell.fz (.dict []))) => (match s[k]? with
    | some d => some (d, s)
    | none => none)
  | _ => none
theorem P.sk {i k : Nat} {x : Str} {j} {p1 p2 : Pos} (hN : X.N[i]? = some x) (hv : Vis X.env.scope x) (hd : (x == ("__debug__" : Str)) = false := by decide) (hcd : (x == ("__classdict__" : Str)) = false := by decide) (hs : PlainIx (.Constant (.int (k : Nat)) j p2) := by exact fun _ _ => rfl) :
    PE X (.Subscript (.Name x p1) (.Constant (.int (k : Nat)) j p2) pos) (tP X.K (mSk i k)) := by
  refine peI (pe_ix ix_list (pe_var hN hv hd hcd) pe_int hs) fun σ H Q ⟨sk, G, ρ, s, d, s', w, r, e, kk⟩ => ?_
  unfold mSk at e
  split at e
  · rename_i e1
    split at e
    · rename_i d' e2
      cases e
      obtain ⟨u, h1, h2⟩ := r.fz i _ e1
      rcases h2 with z | ⟨_, a, ha, rfl⟩
      · cases z
      obtain ⟨gn, vs, hvs, hdd⟩ := w.sack a ha
      obtain ⟨v, h3, h4⟩ := DpAll.get hdd e2
      exact ⟨_, h1, a, vs, (k : Int), v, rfl, rfl, SqL.of hvs, atI_nat h3, kk v G H w .refl (.inl h4)⟩
    · cases e
  · cases e
/-! statements -/
theorem P.no {st : Stmt} : PS X st (tS X.K sNo) := psI ps_never fun E σ H ⟨sk, G0, H0, G, ρ, s, o, s', r, e, k⟩ => by cases e
theorem P.nos {st : List Stmt} : PSs X st (tS X.K sNo) := pssI pss_never fun E σ H ⟨sk, G0, H0, G, ρ, s, o, s', r, e, k⟩ => by cases e
theorem P.nil : PSs X [] (tS X.K sNx) := pssI pss_nil fun E σ H ⟨sk, G0, H0, G, ρ, s, o, s', r, e, k⟩ => by
  cases e
  exact k σ G H r
theorem P.pass : PS X (.Pass pos) (tS X.K sNx) := psI ps_pass fun E σ H ⟨sk, G0, H0, G, ρ, s, o, s', r, e, k⟩ => by
  cases e
  exact k σ G H r
theorem P.brk : PS X (.Break pos) (tS X.K sBk) := psI ps_break fun E σ H ⟨sk, G0, H0, G, ρ, s, o, s', r, e, k⟩ => by
  cases e
  exact k σ G H r
theorem P.cnt : PS X (.Continue pos) (tS X.K sCt) := psI ps_continue fun E σ H ⟨sk, G0, H0, G, ρ, s, o, s', r, e, k⟩ => by
  cases e
  exact k σ G H r
theorem P.seq {st : Stmt} {rest : List Stmt} {f g : M Out} (h1 : PS X st (tS X.K f)) (h2 : PSs X rest (tS X.K g)) : PSs X (st :: rest) (tS X.K (sSeq f g)) :=
  pssI (pss_cons h1 h2) fun E σ H ⟨sk, G0, H0, G, ρ, s, o, s', r, e, k⟩ => by
    unfold sSeq at e
    split at e
    · rename_i ρ1 s1 e1
      exact ⟨sk, G0, H0, G, ρ, s, .nx ρ1, s1, r, e1, fun σ1 G1 H1 r1 => ⟨sk, G0, H0, G1, ρ1, s1, o, s', r1, e, k⟩⟩
    · rename_i q
      refine ⟨sk, G0, H0, G, ρ, s, o, s', r, e, ?_⟩
      cases o with
      | nx ρ1 => exact absurd e (q ρ1 s')
      | rt d => exact k
      | bk ρ1 => exact k
      | ct ρ1 => exact k
      | rl d => exact k
theorem P.last {st : Stmt} {f : M Out} (h1 : PS X st (tS X.K f)) : PSs X [st] (tS X.K f) := pss_one h1
theorem P.ret {e : Expr} {f : M D} (h : PE X e (tP X.K f)) : PS X (.Return (some e) pos) (tS X.K (sRet f)) :=
  psI (ps_ret h) fun E σ H ⟨sk, G0, H0, G, ρ, s, o, s', r, e, k⟩ => by
    obtain ⟨a, s1, q1, q⟩ := mThen_some e
    obtain ⟨q2, rfl⟩ := mLift_some q
    cases q2
    exact P.then r.vw r.er q1 fun v G' H' w' x r' q => k v G' H' w' (r.ex.trans x) q
def sRetL (a : M (List D)) : M Out := mThen a fun x => mLift (some (.rl x))
theorem P.retL {e : Expr} {f : M (List D)} (h : PE X e (tL X.K f)) : PS X (.Return (some e) pos) (tS X.K (sRetL f)) :=
  psI (ps_ret h) fun E σ H ⟨sk, G0, H0, G, ρ, s, o, s', r, e, k⟩ => by
    obtain ⟨a, s1, q1, q⟩ := mThen_some e
    obtain ⟨q2, rfl⟩ := mLift_some q
    cases q2
    exact ⟨sk, G, ρ, s, a, s', r.vw, r.er, q1, fun p vs G' H' w' x hp np hl gp dl => k p vs G' H' w' (r.ex.trans x) (r.ex.th p hp) np hl gp dl⟩
theorem P.retN : PS X (.Return none pos) (tS X.K (sRet (mC .none))) :=
  psI ps_retN fun E σ H ⟨sk, G0, H0, G, ρ, s, o, s', r, e, k⟩ => by
    obtain ⟨a, s1, q1, q⟩ := mThen_some e
    obtain ⟨q2, rfl⟩ := mLift_some q
    cases q2
    cases q1
    exact k .non G H r.vw r.ex (.inl .non)
theorem P.expr {e : Expr} {f : M D} (h : PE X e (tP X.K f)) (hs : swapsWith e none pos.line X.env = pure false := by rfl) : PS X (.Expr e pos) (tS X.K (sEx f)) :=
  psI (ps_expr h hs) fun E σ H ⟨sk, G0, H0, G, ρ, s, o, s', r, e, k⟩ => by
    unfold sEx at e
    split at e
    · rename_i d s1 e1
      cases e
      exact P.then r.vw r.er e1 fun v G' H' w' x r' q => k σ G' H' (r.on w' x)
    · cases e
theorem P.iff {c : Expr} {a b : List Stmt} {fc : M Bool} {f g : M Out} (hc : PT X c (tQ X.K fc)) (ha : PSs X a (tS X.K f)) (hb : PSs X b (tS X.K g)) : PS X (.If c a b pos) (tS X.K (mIf fc f g)) :=
  psI (ps_if hc ha hb) fun E σ H ⟨sk, G0, H0, G, ρ, s, o, s', r, e, k⟩ => by
    obtain ⟨x, s1, q1, q⟩ := mIf_some e
    refine ⟨sk, G, ρ, s, x, s1, r.vw, r.er, q1, fun G1 H1 w1 x1 => ?_⟩
    cases x with
    | true => exact ⟨sk, G0, H0, G1, ρ, s1, o, s', r.on w1 x1, q, k⟩
    | false => exact ⟨sk, G0, H0, G1, ρ, s1, o, s', r.on w1 x1, q, k⟩
theorem tAsg_of {K : PySem.W.Frag} {f : M D} {p : Pat} {E : Ends} {σ : L2.St} {H : Hp} (t : tS K (sAsg p f) E σ H) : tAsg (tP K f) (tG K p) E σ H := by
  obtain ⟨sk, G0, H0, G, ρ, s, o, s', r, e, k⟩ := t
  unfold sAsg at e
  split at e
  · rename_i d s1 e1
    split at e
    · rename_i ρ' s2 e2
      cases e
      exact P.then r.vw r.er e1 fun v G' H' w' x r' q => ⟨sk, G0, H0, G', ρ, s1, d, ρ', s', r.on w' x, q, e2, fun σ' G2 H2 _ _ r2 => k σ' G2 H2 r2⟩
    · cases e
  · cases e
theorem P.asg {tg e : Expr} {f : M D} {p : Pat} (he : PE X e (tP X.K f)) (hg : PG X tg (tG X.K p)) (hs : swapsWithSole [tg] e pos.line X.env = pure false := by rfl) (hw : swappedStores [tg] e X.env = pure none := by rfl)
    (h1 : (assignEach [tg] X.env).map (·.2) = [assign tg X.env] := by rfl) : PS X (.Assign [tg] e pos) (tS X.K (sAsg p f)) := psI (ps_asg he hg hs hw h1) fun _ _ _ t => tAsg_of t
theorem P.set {i : Nat} {x : Str} {e : Expr} {f : M D} {pos' : Pos} (hN : X.N.Nodup) (hi : X.N[i]? = some x) (hx : Loc X.env.scope x) (he : PE X e (tP X.K f)) (hs : swapsWith e (some (.Name x pos')) pos.line X.env = pure false := by rfl) (hf : X.fn x = true ∨ X.env.scope.names.lookup x = some .local := by first | exact .inl rfl | exact .inr rfl | assumption) :
    PS X (.Assign [.Name x pos'] e pos) (tS X.K (sAsg (.nm i) f)) := by
  refine psI (ps_set hN hi hx he hs hf) fun E σ H ⟨sk, G0, H0, G, ρ, s, o, s', r, e, k⟩ => ?_
  unfold sAsg bnd at e
  split at e
  · rename_i d s1 e1
    cases e
    exact P.then r.vw r.er e1 fun v G' H' w' x r' q => k _ G' H' ((r.on w' x).setF i q)
  · cases e
end
end PL
namespace PL
open PySem PySem.Spec PyProof.Rows L2
/-! ### lists of one's own -/
theorem SR.setO {K : PySem.W.Frag} {sk : Option Addr} {G0 H0 G H : Hp} {σ : L2.St} {ρ : Env} {s : S} {p : Addr} {vs : List V} {ds : List D} (r : SR K sk G0 H0 G H σ ρ s) (i : Nat) (hp : H p = some (.lst vs)) (gp : G p = none) (np : sk ≠ some p) (h0 : H0 p = none) (q : DpAll K G vs ds)
    (nw : ∀ (j : Nat) (ds : List D), ρ[j]? = some (some (Cell.ow ds)) → σ[j]? ≠ some (some (V.ref p))) : SR K sk G0 H0 G H (σ.set i (some (.ref p))) (ρ.set i (some (.ow ds))) s := by
  refine ⟨r.vw, ⟨by simp [r.er.len], fun j d' h => ?_, fun j es h => ?_, fun j k es fs a n h1 h2 h3 => ?_⟩, r.ex, fun j es a h1 h2 => ?_⟩
  · rcases get_set h with ⟨rfl, z, l⟩ | ⟨n, z⟩
    · cases z
    · obtain ⟨v', a, b⟩ := r.er.fz j d' z
      exact ⟨v', by rw [List.getElem?_set_ne (Ne.symm n)]; exact a, b⟩
  · rcases get_set h with ⟨rfl, z, l⟩ | ⟨n, z⟩
    · cases z
      exact ⟨p, vs, by rw [List.getElem?_set_self (by rw [r.er.len]; exact l)], hp, gp, np, q⟩
    · obtain ⟨a, ws, h1, h2⟩ := r.er.ow j es z
      exact ⟨a, ws, by rw [List.getElem?_set_ne (Ne.symm n)]; exact h1, h2⟩
  · rcases get_set h1 with ⟨e1, z1, l1⟩ | ⟨n1, z1⟩
    · subst e1
      rcases get_set h2 with ⟨e2, z2, l2⟩ | ⟨n2, z2⟩
      · exact absurd e2.symm n
      · rw [List.getElem?_set_self (by rw [r.er.len]; exact l1)] at h3
        cases h3
        rw [List.getElem?_set_ne (Ne.symm n2)]
        exact nw k fs z2
    · rw [List.getElem?_set_ne (Ne.symm n1)] at h3
      rcases get_set h2 with ⟨e2, z2, l2⟩ | ⟨n2, z2⟩
      · subst e2
        rw [List.getElem?_set_self (by rw [r.er.len]; exact l2)]
        intro e
        cases e
        exact nw j es z1 h3
      · rw [List.getElem?_set_ne (Ne.symm n2)]
        exact r.er.ne j k es fs a n z1 z2 h3
  · rcases get_set h1 with ⟨e1, z1, l1⟩ | ⟨n1, z1⟩
    · subst e1
      rw [List.getElem?_set_self (by rw [r.er.len]; exact l1)] at h2
      cases h2
      exact h0
    · rw [List.getElem?_set_ne (Ne.symm n1)] at h2
      exact r.yo j es a z1 h2
/-- a new list is none of those held -/
theorem ER.nw {K : PySem.W.Frag} {sk : Option Addr} {G H : Hp} {σ : L2.St} {ρ : Env} (r : ER K sk G H σ ρ) {p : Addr} (h : H p = none) (j : Nat) (ds : List D) (e : ρ[j]? = some (some (Cell.ow ds))) : σ[j]? ≠ some (some (V.ref p)) := fun q => by
  obtain ⟨a, vs, h1, h2, _⟩ := r.ow j ds e
  rw [h1] at q; cases q
  rw [h] at h2; cases h2
theorem SR.h0 {K : PySem.W.Frag} {sk : Option Addr} {G0 H0 G H : Hp} {σ : L2.St} {ρ : Env} {s : S} (r : SR K sk G0 H0 G H σ ρ s) {p : Addr} (h : H p = none) : H0 p = none := r.ex.th p h
/-- the list at a name is changed -/
theorem SR.wr {K : PySem.W.Frag} {sk : Option Addr} {G0 H0 G H : Hp} {σ : L2.St} {ρ : Env} {s : S} {i : Nat} {p : Addr} {vs' : List V} {ds ds' : List D} (r : SR K sk G0 H0 G H σ ρ s) (hi : ρ[i]? = some (some (Cell.ow ds))) (hs : σ[i]? = some (some (V.ref p))) (q : DpAll K G vs' ds') :
    SR K sk G0 H0 G (upd H p (.lst vs')) σ (ρ.set i (some (.ow ds'))) s := by
  obtain ⟨a, vs, h1, h2, h3, h4, h5⟩ := r.er.ow i ds hi
  rw [hs] at h1; cases h1
  have hil : i < ρ.length := (List.getElem?_eq_some_iff.mp hi).1
  refine ⟨⟨fun a o e => ?_, fun a e => ?_⟩, ⟨by simp [r.er.len], fun j d' h => ?_, fun j es h => ?_, fun j k es fs a n z1 z2 h3 => ?_⟩, ⟨r.ex.gs, fun a o e n => ?_, r.ex.nw, fun a e => ?_⟩, fun j es a z1 h2 => ?_⟩
  · have n : a ≠ p := fun z => by subst z; rw [h3] at e; cases e
    rw [upd_ne n]; exact r.vw.sub a o e
  · obtain ⟨gn, ws, h6, h7⟩ := r.vw.sack a e
    exact ⟨gn, ws, by rw [upd_ne (fun z => h4 (by rw [← z]; exact e))]; exact h6, h7⟩
  · rcases get_set h with ⟨rfl, z, l⟩ | ⟨n, z⟩
    · cases z
    · exact r.er.fz j d' z
  · rcases get_set h with ⟨rfl, z, l⟩ | ⟨n, z⟩
    · cases z
      exact ⟨p, vs', hs, upd_same, h3, h4, q⟩
    · obtain ⟨a, ws, g1, g2, g3⟩ := r.er.ow j es z
      exact ⟨a, ws, g1, by rw [upd_ne (fun z' => r.er.ne j i es ds p n z hi (by rw [← z']; exact g1) hs)]; exact g2, g3⟩
  · have f : ∀ (j : Nat) (es : List D), (ρ.set i (some (Cell.ow ds')))[j]? = some (some (Cell.ow es)) → ∃ fs, ρ[j]? = some (some (Cell.ow fs)) := fun j es h => by
      rcases get_set h with ⟨rfl, z, l⟩ | ⟨n, z⟩
      · exact ⟨ds, hi⟩
      · exact ⟨es, z⟩
    obtain ⟨es', y1⟩ := f j es z1
    obtain ⟨fs', y2⟩ := f k fs z2
    exact r.er.ne j k es' fs' a n y1 y2 h3
  · have n : a ≠ p := fun z => by subst z; rw [r.yo i ds _ hi hs] at e; cases e
    rw [upd_ne n]; exact r.ex.hs a o e (by assumption)
  · by_cases z : a = p
    · subst z; rw [upd_same] at e; cases e
    · rw [upd_ne z] at e; exact r.ex.th a e
  · rcases get_set z1 with ⟨rfl, z, l⟩ | ⟨n, z⟩
    · exact r.yo _ ds a hi h2
    · exact r.yo j es a z h2
theorem SR.fz {K : PySem.W.Frag} {sk : Option Addr} {G0 H0 G H : Hp} {σ : L2.St} {ρ : Env} {s : S} (r : SR K sk G0 H0 G H σ ρ s) (i : Nat) : ∃ G', SR K sk G0 H0 G' H σ (frz i ρ) s ∧ Le G G' := by
  unfold frz
  split
  · rename_i ds hi
    obtain ⟨p, vs, h1, h2, h3, h4, h5⟩ := r.er.ow i ds hi
    have l : Le G (upd G p (.lst vs)) := fun a o e => by rw [upd_ne (ne_of_none e h3)]; exact e
    refine ⟨upd G p (.lst vs), ⟨⟨fun a o e => ?_, fun a e => ?_⟩, ⟨by simp [r.er.len], fun j d' h => ?_, fun j es h => ?_, fun j k es fs a n z1 z2 h3 => ?_⟩, ⟨r.ex.gs.trans l, r.ex.hs, fun a o e => ?_, r.ex.th⟩, fun j es a z1 h2 => ?_⟩, l⟩
    · by_cases z : a = p
      · subst z; rw [upd_same] at e; cases e; exact h2
      · rw [upd_ne z] at e; exact r.vw.sub a o e
    · obtain ⟨gn, ws, h6, h7⟩ := r.vw.sack a e
      exact ⟨by rw [upd_ne (fun z => h4 (by rw [← z]; exact e))]; exact gn, ws, h6, DpAll.up l _ _ h7⟩
    · rcases get_set h with ⟨rfl, z, _⟩ | ⟨n, z⟩
      · cases z
        exact ⟨_, h1, .inl (.lst (SqL.of upd_same) (DpAll.up l _ _ h5))⟩
      · obtain ⟨v, a, b⟩ := r.er.fz j d' z
        exact ⟨v, a, b.up l⟩
    · rcases get_set h with ⟨rfl, z, _⟩ | ⟨n, z⟩
      · cases z
      · obtain ⟨a, ws, g1, g2, g3, g4, g5⟩ := r.er.ow j es z
        exact ⟨a, ws, g1, g2, by rw [upd_ne (fun z' => r.er.ne j i es ds p n z hi (by rw [← z']; exact g1) h1)]; exact g3, g4, DpAll.up l _ _ g5⟩
    · have f : ∀ (j : Nat) (es : List D), (ρ.set i (some (Cell.fz (.list ds))))[j]? = some (some (Cell.ow es)) → ρ[j]? = some (some (Cell.ow es)) := fun j es h => by
        rcases get_set h with ⟨rfl, z, l⟩ | ⟨n, z⟩
        · cases z
        · exact z
      exact r.er.ne j k es fs a n (f j es z1) (f k fs z2) h3
    · by_cases z : a = p
      · subst z; exact .inr (r.yo i ds _ hi h1)
      · rw [upd_ne z] at e; exact r.ex.nw a o e
    · rcases get_set z1 with ⟨rfl, z, l⟩ | ⟨n, z⟩
      · cases z
      · exact r.yo j es a z h2
  · exact ⟨G, r, .refl⟩
section
variable {X : Cx} {pos : Pos}
theorem P.frz {st : Stmt} {F : M Out} (i : Nat) (h : PS X st (tS X.K F)) : PS X st (tS X.K (sFrz i F)) := psI h fun E σ H ⟨sk, G0, H0, G, ρ, s, o, s', r, e, k⟩ => by
  obtain ⟨G', r', _⟩ := r.fz i
  exact ⟨sk, G0, H0, G', _root_.PL.frz i ρ, s, o, s', r', e, k⟩
theorem P.frzs {st : List Stmt} {F : M Out} (i : Nat) (h : PSs X st (tS X.K F)) : PSs X st (tS X.K (sFrz i F)) := pssI h fun E σ H ⟨sk, G0, H0, G, ρ, s, o, s', r, e, k⟩ => by
  obtain ⟨G', r', _⟩ := r.fz i
  exact ⟨sk, G0, H0, G', _root_.PL.frz i ρ, s, o, s', r', e, k⟩
/-- a new list is data -/
def mL (F : M (List D)) : M D := mThen F fun ds => mLift (some (.list ds))
theorem P.ofL {e : Expr} {F : M (List D)} (h : PE X e (tL X.K F)) : PE X e (tP X.K (mL F)) := peI h fun σ H Q ⟨sk, G, ρ, s, d, s', w, r, e, k⟩ => by
  obtain ⟨ds, s1, q1, q⟩ := mThen_some e
  obtain ⟨q2, rfl⟩ := mLift_some q
  cases q2
  refine ⟨sk, G, ρ, s, ds, s', w, r, q1, fun p vs G' H' w' x hp np hl gp dl => ?_⟩
  have l : Le G' (upd G' p (.lst vs)) := fun a o e => by rw [upd_ne (ne_of_none e gp)]; exact e
  refine k (.ref p) (upd G' p (.lst vs)) H' ⟨fun a o e => ?_, fun a e => ?_⟩ ⟨x.gs.trans l, x.hs, fun a o e => ?_, x.th⟩ (.inl (.lst (SqL.of upd_same) (DpAll.up l _ _ dl)))
  · by_cases z : a = p
    · subst z; rw [upd_same] at e; cases e; exact hl
    · rw [upd_ne z] at e; exact w'.sub a o e
  · obtain ⟨gn, ws, h6, h7⟩ := w'.sack a e
    exact ⟨by rw [upd_ne (fun z => np (by rw [← z]; exact e))]; exact gn, ws, h6, DpAll.up l _ _ h7⟩
  · by_cases z : a = p
    · subst z; exact .inr hp
    · rw [upd_ne z] at e; exact x.nw a o e
theorem tAsgL_of {K : PySem.W.Frag} {i : Nat} {f : M (List D)} {E : Ends} {σ : L2.St} {H : Hp} (t : tS K (sOwn i f) E σ H) : tAsg (tL K f) (gName i) E σ H := by
  obtain ⟨sk, G0, H0, G, ρ, s, o, s', r, e, k⟩ := t
  unfold sOwn at e
  split at e
  · rename_i ds s1 e1
    cases e
    exact ⟨sk, G, ρ, s, ds, s', r.vw, r.er, e1, fun p vs G' H' w' x hp np hl gp dl => k _ G' H' ((r.on w' x).setO i hl gp np (r.h0 hp) dl (fun j ds q => r.er.nw hp j ds q))⟩
  · cases e
theorem P.own {i : Nat} {x : Str} {e : Expr} {f : M (List D)} {pos' : Pos} (hN : X.N.Nodup) (hi : X.N[i]? = some x) (hx : Loc X.env.scope x) (he : PE X e (tL X.K f)) (hs : swapsWith e (some (.Name x pos')) pos.line X.env = pure false := by rfl) (hf : X.fn x = true ∨ X.env.scope.names.lookup x = some .local := by first | exact .inl rfl | exact .inr rfl | assumption) :
    PS X (.Assign [.Name x pos'] e pos) (tS X.K (sOwn i f)) := psI (ps_set hN hi hx he hs hf) fun _ _ _ t => tAsgL_of t
theorem P.lst {es : List Expr} {f : M (List D)} (h : PA X es (tA X.K f)) (big : ∀ ρ s ds s', f ρ s = some (ds, s') → ds.length ≤ sizeLine) (nd : ∀ ρ s ds s', f ρ s = some (ds, s') → ds.all isD = true) : PE X (.List es pos) (tL X.K f) :=
  peI (pe_lst h) fun σ H Q ⟨sk, G, ρ, s, d, s', w, r, e, k⟩ => by
    refine ⟨sk, G, ρ, s, d, s', w, r, e, fun vs G' H' w' x q => ?_⟩
    have dl : DpAll X.K G' vs d := by
      have all := nd _ _ _ _ e
      clear e k
      induction q with
      | nil => exact .nil
      | cons h t ih =>
        rw [List.all_cons, Bool.and_eq_true] at all
        exact .cons (h.dp all.1) (ih all.2)
    refine ⟨by rw [DpAll.length dl]; exact big _ _ _ _ e, fun p hp => ?_⟩
    have gp : G' p = none := by
      cases q : G' p with
      | none => rfl
      | some u => rw [w'.sub p u q] at hp; cases hp
    have np : sk ≠ some p := fun z => by
      obtain ⟨_, ws, h6, _⟩ := w'.sack p z
      rw [h6] at hp; cases hp
    have up : ∀ a o, H' a = some o → upd H' p (.lst vs) a = some o := fun a o e => by rw [upd_ne (ne_of_none e hp)]; exact e
    refine k p vs G' _ ⟨fun a o e => up a o (w'.sub a o e), fun a e => ?_⟩ ⟨x.gs, fun a o e n => up a o (x.hs a o e n), x.nw, fun a e => ?_⟩ (x.th p hp) np upd_same gp dl
    · obtain ⟨gn, ws, h6, h7⟩ := w'.sack a e
      exact ⟨gn, ws, up a _ h6, h7⟩
    · by_cases z : a = p
      · subst z; rw [upd_same] at e; cases e
      · rw [upd_ne z] at e; exact x.th a e
/-- the items of the list at a name -/
def owAt (i : Nat) (ρ : Env) : Option (List D) := match ρ[i]? with
  | some (some (Cell.ow ds)) => some ds
  | _ => none
theorem owAt_some {i : Nat} {ρ : Env} {ds : List D} (h : owAt i ρ = some ds) : ρ[i]? = some (some (Cell.ow ds)) := by
  unfold owAt at h
  split at h
  · cases h; assumption
  · cases h
/-- x.append(e) -/
def sApp (i : Nat) (a : M D) : M Out := fun ρ s => match a ρ s with
  | some (d, s1) => (match owAt i ρ with
    | some ds => if ds.length < sizeLine ∧ isD d = true then some (.nx (ρ.set i (some (.ow (ds ++ [d])))), s1) else none
    | none => none)
  | none => none
theorem P.app {i : Nat} {x : Str} {e : Expr} {f : M D} {p1 apos cpos : Pos} (hN : X.N[i]? = some x) (hv : Vis X.env.scope x) (he : PE X e (tP X.K f)) (hd : (x == ("__debug__" : Str)) = false := by decide) (hcd : (x == ("__classdict__" : Str)) = false := by decide)
    (hbase : attributeBase (.Name x p1) "append" X.env (eval (.Name x p1) X.env) = eval (.Name x p1) X.env := by rfl)
    (hfew : ((backTo cpos (starEach [e] X.env)).all (fun x => !x.1) && (backToKw cpos (keywordEach [] X.env)).all (fun x => x.1.isSome)
      && decide (([e] : List Expr).length + ([] : List Keyword).length + (if ([] : List Keyword).isEmpty then 0 else 1) < 30)) = true := by rfl)
    (hline : (apos.endLine == cpos.line) = true := by rfl) (hs : starEach [e] X.env = (false, eval e X.env) :: starEach [] X.env := by rfl) (hplain : (backTo cpos (starEach [] X.env)).any (·.1) = false := by rfl)
    (hsw : swapsWith (.Call (.Attribute (.Name x p1) "append" apos) [e] [] cpos) none pos.line X.env = pure false := by rfl) :
    PS X (.Expr (.Call (.Attribute (.Name x p1) "append" apos) [e] [] cpos) pos) (tS X.K (sApp i f)) := by
  refine psI (ps_expr (pe_bm PySem.F.plainAttrs_list PySem.F.slot_list_append PySem.F.type_list_append mt_append (pe_var hN hv hd hcd) (pa_cons he pa_nil hs) hbase hfew hline hs hplain) hsw) fun E σ H ⟨sk, G0, H0, G, ρ, s, o, s', r, e, k⟩ => ?_
  unfold sApp at e
  split at e
  · rename_i d s1 e1
    split at e
    · rename_i ds e2
      split at e
      · rename_i hc
        cases e
        have hi := owAt_some e2
        obtain ⟨a, vs, h1, h2, h3, h4, h5⟩ := r.er.ow i ds hi
        refine ⟨_, h1, .inl ⟨rfl, vs, SqL.of h2⟩, ?_⟩
        refine P.then r.vw r.er e1 fun v G' H' w' x r' q => ?_
        have h6 := x.hs a _ h2 h4
        refine ⟨a, vs, v, rfl, rfl, h6, by rw [DpAll.length h5]; exact hc.1, ?_⟩
        exact k σ G' _ ((r.on w' x).wr hi h1 (DpAll.app (DpAll.up x.gs _ _ h5) (.cons (q.dp hc.2) .nil)))
      · cases e
    · cases e
  · cases e
/-- x.pop() as a statement -/
def sPop (i : Nat) : M Out := fun ρ s => match owAt i ρ with
  | some ds => if ds ≠ [] then some (.nx (ρ.set i (some (.ow ds.dropLast))), s) else none
  | none => none
theorem DpAll.dropLast {K : PySem.W.Frag} {G : Hp} {vs : List V} {ds : List D} (h : DpAll K G vs ds) : DpAll K G vs.dropLast ds.dropLast := by
  rw [List.dropLast_eq_take, List.dropLast_eq_take, DpAll.length h]
  exact DpAll.take _ h
theorem P.pop {i : Nat} {x : Str} {p1 apos cpos : Pos} (hN : X.N[i]? = some x) (hv : Vis X.env.scope x) (hd : (x == ("__debug__" : Str)) = false := by decide) (hcd : (x == ("__classdict__" : Str)) = false := by decide)
    (hbase : attributeBase (.Name x p1) "pop" X.env (eval (.Name x p1) X.env) = eval (.Name x p1) X.env := by rfl) (hline : (apos.endLine == cpos.line) = true := by rfl)
    (hsw : swapsWith (.Call (.Attribute (.Name x p1) "pop" apos) [] [] cpos) none pos.line X.env = pure false := by rfl) :
    PS X (.Expr (.Call (.Attribute (.Name x p1) "pop" apos) [] [] cpos) pos) (tS X.K (sPop i)) := by
  refine psI (ps_expr (pe_bm0 PySem.F.plainAttrs_list PySem.F.slot_list_pop PySem.F.type_list_pop mt_pop (pe_var hN hv hd hcd) hbase hline) hsw) fun E σ H ⟨sk, G0, H0, G, ρ, s, o, s', r, e, k⟩ => ?_
  unfold sPop at e
  split at e
  · rename_i ds e2
    split at e
    · rename_i hc
      cases e
      have hi := owAt_some e2
      obtain ⟨a, vs, h1, h2, h3, h4, h5⟩ := r.er.ow i ds hi
      have hl := DpAll.length h5
      have hp : 0 < ds.length := by cases ds with | nil => exact absurd rfl hc | cons _ _ => simp
      obtain ⟨y, hy⟩ : ∃ y, vs[vs.length - 1]? = some y := ⟨vs[vs.length - 1]'(by omega), List.getElem?_eq_getElem _⟩
      exact ⟨_, h1, .inl ⟨rfl, vs, SqL.of h2⟩, a, vs, y, rfl, rfl, h2, hy, k σ G _ (r.wr hi h1 (DpAll.dropLast h5))⟩
    · cases e
  · cases e
/-- len(x) of one's own list, x[e] of it -/
def mLenO (i : Nat) : M D := fun ρ s => match owAt i ρ with
  | some ds => some (.int ds.length, s)
  | none => none
theorem P.lenO {i : Nat} {x : Str} {p p1 : Pos} (hN : X.N[i]? = some x) (hv : Vis X.env.scope x) (hg : Gl X "len") (hm : X.mg "len" = none) (hd : (x == ("__debug__" : Str)) = false := by decide) (hcd : (x == ("__classdict__" : Str)) = false := by decide) :
    PE X (.Call (.Name "len" p) [.Name x p1] [] pos) (tP X.K (mLenO i)) := by
  refine peI (pe_callB call_len_seq hg hm PySem.boot_len (pa_cons (pe_var hN hv hd hcd) pa_nil)) fun σ H Q ⟨sk, G, ρ, s, d, s', w, r, e, k⟩ => ?_
  unfold mLenO at e
  split at e
  · rename_i ds e2
    cases e
    obtain ⟨a, vs, h1, h2, h3, h4, h5⟩ := r.ow i ds (owAt_some e2)
    refine ⟨_, h1, a, vs, rfl, .inl (SqL.of h2), ?_⟩
    rw [DpAll.length h5]
    exact k _ G H w .refl (.inl (.int _))
  · cases e
def iOf : D → Option Int
  | .int i => some i
  | _ => none
def mIxO (i : Nat) (a : M D) : M D := fun ρ s => match a ρ s with
  | some (d, s1) => (match owAt i ρ, iOf d with
    | some ds, some j => (match atI ds j with
      | some y => some (y, s1)
      | none => none)
    | _, _ => none)
  | none => none
theorem DpAll.atI {K : PySem.W.Frag} {G : Hp} {vs : List V} {ds : List D} {j : Int} {d : D} (h : DpAll K G vs ds) (e : L2.atI ds j = some d) : ∃ v, L2.atI vs j = some v ∧ Dp K G v d := by
  unfold L2.atI at e ⊢
  rw [DpAll.length h]
  cases q : ixN ds.length j with
  | none => rw [q] at e; cases e
  | some n =>
    rw [q] at e
    exact DpAll.get h e
theorem P.ixO {i : Nat} {x : Str} {b : Expr} {f : M D} {p1 : Pos} (hN : X.N[i]? = some x) (hv : Vis X.env.scope x) (hb : PE X b (tP X.K f)) (hs : PlainIx b) (hd : (x == ("__debug__" : Str)) = false := by decide) (hcd : (x == ("__classdict__" : Str)) = false := by decide) :
    PE X (.Subscript (.Name x p1) b pos) (tP X.K (mIxO i f)) := by
  refine peI (pe_ix ix_list (pe_var hN hv hd hcd) hb hs) fun σ H Q ⟨sk, G, ρ, s, d, s', w, r, e, k⟩ => ?_
  unfold mIxO at e
  split at e
  · rename_i d1 s1 e1
    split at e
    · rename_i ds j e2 e3
      split at e
      · rename_i y e4
        cases e
        have ej : d1 = .int j := by cases d1 <;> first | (cases e3; rfl) | cases e3
        subst ej
        obtain ⟨a, vs, h1, h2, h3, h4, h5⟩ := r.ow i ds (owAt_some e2)
        refine ⟨_, h1, ?_⟩
        refine P.then w r e1 fun v G' H' w' x r' q => ?_
        obtain ⟨y', h6, h7⟩ := DpAll.atI h5 e4
        exact ⟨a, vs, j, y', rfl, Dp.int_of q, SqL.of (x.hs a _ h2 h4), h6, k y' G' H' w' x (.inl (Dp.up x.gs _ _ h7))⟩
      · cases e
    · cases e
  · cases e
end
end PL
namespace PL
open PySem PySem.Spec PyProof.Rows L2
/-! ### what is walked -/
/-- J yields the data ds while G stands -/
structure Yl (K : PySem.W.Frag) (J : It) (G : Hp) (ds : List D) : Prop where
  item : ∀ (G1 H1 : Hp), Le G G1 → Le G1 H1 → ∀ (i : Nat) (d : D), ds[i]? = some d → J.go i H1 ∧ ∀ x H2, J.yld i H1 x H2 → ∃ G2, Grow G1 H1 G2 H2 ∧ Dp K G2 x d
  stop : ∀ (G1 H1 : Hp), Le G G1 → Le G1 H1 → J.stop ds.length H1
/-- .. while all but the sack stands -/
structure Ye (K : PySem.W.Frag) (sk : Option Addr) (J : It) (G H : Hp) (ds : List D) : Prop where
  item : ∀ (G1 H1 : Hp), Ex sk G H G1 H1 → Le G1 H1 → ∀ (i : Nat) (d : D), ds[i]? = some d → J.go i H1 ∧ ∀ x H2, J.yld i H1 x H2 → ∃ G2, Grow G1 H1 G2 H2 ∧ Dp K G2 x d
  stop : ∀ (G1 H1 : Hp), Ex sk G H G1 H1 → Le G1 H1 → J.stop ds.length H1
theorem Yl.ye {K : PySem.W.Frag} {J : It} {G : Hp} {ds : List D} (y : Yl K J G ds) (sk : Option Addr) (H : Hp) : Ye K sk J G H ds :=
  ⟨fun G1 H1 x l => y.item G1 H1 x.gs l, fun G1 H1 x l => y.stop G1 H1 x.gs l⟩
def tI (K : PySem.W.Frag) (F : M (List D)) : TI := fun σ H R => ∃ sk G ρ s ds s', Vw K sk G H s ∧ ER K sk G H σ ρ ∧ F ρ s = some (ds, s') ∧ ∀ J G' H', Vw K sk G' H' s' → Ex sk G H G' H' → Yl K J G' ds → R J H'
def tIE (K : PySem.W.Frag) (F : M (List D)) : TI := fun σ H R => ∃ sk G ρ s ds s', Vw K sk G H s ∧ ER K sk G H σ ρ ∧ F ρ s = some (ds, s') ∧ ∀ J G' H', Vw K sk G' H' s' → Ex sk G H G' H' → Ye K sk J G' H' ds → R J H'
theorem tIE_of {K : PySem.W.Frag} {F : M (List D)} {σ : L2.St} {H : Hp} {R : It → Hp → Prop} (t : tIE K F σ H R) : tI K F σ H R := by
  obtain ⟨sk, G, ρ, s, ds, s', w, r, e, k⟩ := t
  exact ⟨sk, G, ρ, s, ds, s', w, r, e, fun J G' H' w' x y => k J G' H' w' x (y.ye sk H')⟩
def itOf : D → Option (List D)
  | .list ds => some ds
  | .tuple ds => some ds
  | _ => none
def mIt (a : M D) : M (List D) := mThen a fun x => mLift (itOf x)
/-- a list, as it stands, cannot be two -/
theorem SqL.unique {X : Cx} {pins : List (Addr × Obj)} {σ : L2.St} {H : Hp} {s : Shared} (I : Inv X pins σ H s) {a : Addr} {xs ys : List V} (h : SqL X.K H a xs) (h' : SqL X.K H a ys) : xs = ys := I.list_inj h h'
section
variable {X : Cx} {tg : Expr} {pos : Pos}
theorem P.iter {l : Expr} {f : M D} (hl : PE X l (tP X.K f)) : PI X tg l (tI X.K (mIt f)) := by
  refine ⟨fun pins s σ H R I ⟨sk, G, ρ, sS, ds, s', w, r, e, k⟩ => ?_⟩
  obtain ⟨d, s1, q1, q⟩ := mThen_some e
  obtain ⟨q2, rfl⟩ := mLift_some q
  cases d with
  | list es =>
    cases q2
    refine (pi_list hl (tg := tg)).run pins s σ H R I ?_
    refine P.then w r q1 fun v G' H' w' x r' q => ?_
    obtain ⟨a, xs, rfl, h1, h2⟩ := Dp.lst_of q
    refine ⟨a, rfl, ⟨xs, SqL.up w'.sub h1⟩, k _ G' H' w' x ⟨fun G1 H1 l1 l2 i d hd => ?_, fun G1 H1 l1 l2 => ?_⟩⟩
    · obtain ⟨y, h3, h4⟩ := DpAll.get h2 hd
      have h5 := SqL.up l2 (SqL.up l1 h1)
      refine ⟨⟨xs, y, h5, h3⟩, fun z H2 ⟨e1, e2⟩ => ?_⟩
      subst e1
      have e3 := e2 xs h5
      rw [h3] at e3; cases e3
      exact ⟨G1, .refl l2, Dp.up l1 _ _ h4⟩
    · exact ⟨xs, SqL.up l2 (SqL.up l1 h1), by rw [DpAll.length h2]; exact Nat.le_refl _⟩
  | tuple es =>
    cases q2
    refine (pi_tup hl (tg := tg)).run pins s σ H R I ?_
    refine P.then w r q1 fun v G' H' w' x r' q => ?_
    obtain ⟨a, xs, rfl, h1, h2⟩ := Dp.tup_of q
    refine ⟨a, rfl, ⟨xs, SqT.up w'.sub h1⟩, k _ G' H' w' x ⟨fun G1 H1 l1 l2 i d hd => ?_, fun G1 H1 l1 l2 => ?_⟩⟩
    · obtain ⟨y, h3, h4⟩ := DpAll.get h2 hd
      have h5 := SqT.up l2 (SqT.up l1 h1)
      refine ⟨⟨xs, y, h5, h3⟩, fun z H2 ⟨e1, e2⟩ => ?_⟩
      subst e1
      have e3 := e2 xs h5
      rw [h3] at e3; cases e3
      exact ⟨G1, .refl l2, Dp.up l1 _ _ h4⟩
    · exact ⟨xs, SqT.up l2 (SqT.up l1 h1), by rw [DpAll.length h2]; exact Nat.le_refl _⟩
  | _ => cases q2
theorem P.iterE {l : Expr} {F : M (List D)} (h : PI X tg l (tI X.K F)) : PI X tg l (tIE X.K F) := piI h fun _ _ _ t => tIE_of t
/-- one's own list, in a comprehension -/
def mItO (i : Nat) : M (List D) := fun ρ s => match owAt i ρ with
  | some ds => some (ds, s)
  | none => none
theorem P.iterO {i : Nat} {x : Str} {p1 : Pos} (hN : X.N[i]? = some x) (hv : Vis X.env.scope x) (hd : (x == ("__debug__" : Str)) = false := by decide) (hcd : (x == ("__classdict__" : Str)) = false := by decide) : PI X tg (.Name x p1) (tIE X.K (mItO i)) := by
  refine piI (pi_list (pe_var hN hv hd hcd)) fun σ H Q ⟨sk, G, ρ, s, d, s', w, r, e, k⟩ => ?_
  unfold mItO at e
  split at e
  · rename_i ds e2
    cases e
    obtain ⟨a, vs, h1, h2, h3, h4, h5⟩ := r.ow i d (owAt_some e2)
    refine ⟨_, h1, a, rfl, ⟨vs, SqL.of h2⟩, k _ G H w .refl ⟨fun G1 H1 x1 l2 i d hd => ?_, fun G1 H1 x1 l2 => ?_⟩⟩
    · obtain ⟨y, h6, h7⟩ := DpAll.get h5 hd
      have h8 : SqL X.K H1 a vs := SqL.of (x1.hs a _ h2 h4)
      refine ⟨⟨vs, y, h8, h6⟩, fun z H2 ⟨e1, e2⟩ => ?_⟩
      subst e1
      have e3 := e2 vs h8
      rw [h6] at e3; cases e3
      exact ⟨G1, .refl l2, Dp.up x1.gs _ _ h7⟩
    · exact ⟨vs, SqL.of (x1.hs a _ h2 h4), by rw [DpAll.length h5]; exact Nat.le_refl _⟩
  · cases e
def rgD (lo : Int) (n : Nat) : List D := (List.range n).map fun (i : Nat) => PyData.int (lo + (i : Int))
def okRg (i : Int) : Bool := decide (-(2 ^ 62) ≤ i) && decide (i < 2 ^ 62)
def rg1 : List D → Option (List D)
  | [.int j] => if okRg j = true then some (rgD 0 j.toNat) else none
  | _ => none
def rg2 : List D → Option (List D)
  | [.int i, .int j] => if okRg i = true ∧ okRg j = true then some (rgD i (j - i).toNat) else none
  | _ => none
theorem yl_rg {K : PySem.W.Frag} {lo : Int} {n : Nat} {G : Hp} : Yl K (Itr lo n) G (rgD lo n) :=
  ⟨fun G1 H1 l1 l2 i d hd => by
    unfold rgD at hd
    rw [List.getElem?_map] at hd
    cases q : (List.range n)[i]? with
    | none => rw [q] at hd; cases hd
    | some j =>
      rw [q] at hd
      have hi := (List.getElem?_eq_some_iff.mp q)
      obtain ⟨hi, hj⟩ := hi
      rw [List.getElem_range] at hj
      subst hj
      cases hd
      refine ⟨(by simpa using hi : i < n), fun x H2 ⟨e1, e2⟩ => ?_⟩
      subst e1; subst e2
      exact ⟨G1, .refl l2, .int _⟩, fun G1 H1 l1 l2 => by
    show n ≤ (rgD lo n).length
    unfold rgD
    simp⟩
def mA {α : Type} (f : List D → Option α) (a : M (List D)) : M α := mThen a fun xs => mLift (f xs)
theorem P.rng1 {a : Expr} {fa : M (List D)} {p : Pos} (hg : Gl X "range") (hm : X.mg "range" = none) (ha : PA X [a] (tA X.K fa)) (hs : starEach [a] X.env = [(false, eval a X.env)] := by rfl) : PI X tg (.Call (.Name "range" p) [a] [] pos) (tI X.K (mA rg1 fa)) :=
  piI (pi_range1 hg hm ha hs) fun σ H Q ⟨sk, G, ρ, s, d, s', w, r, e, k⟩ => by
    obtain ⟨as, s1, q1, q⟩ := mThen_some e
    obtain ⟨q2, rfl⟩ := mLift_some q
    refine ⟨sk, G, ρ, s, as, s', w, r, q1, fun vs G' H' w' x ps => ?_⟩
    unfold rg1 at q2
    split at q2
    · split at q2
      · rename_i j hj
        cases q2
        cases ps with
        | cons h t =>
          cases t
          rw [Dp.int_of h]
          unfold okRg at hj
          rw [Bool.and_eq_true] at hj
          exact ⟨j, rfl, of_decide_eq_true hj.1, of_decide_eq_true hj.2, k _ G' H' w' x yl_rg⟩
      · cases q2
    · cases q2
theorem P.rng2 {a b : Expr} {fa : M (List D)} {p : Pos} (hg : Gl X "range") (hm : X.mg "range" = none) (ha : PA X [a, b] (tA X.K fa)) (hs : starEach [a, b] X.env = [(false, eval a X.env), (false, eval b X.env)] := by rfl) (hs2 : starEach [b] X.env = [(false, eval b X.env)] := by rfl) :
    PI X tg (.Call (.Name "range" p) [a, b] [] pos) (tI X.K (mA rg2 fa)) :=
  piI (pi_range2 hg hm ha hs hs2) fun σ H Q ⟨sk, G, ρ, s, d, s', w, r, e, k⟩ => by
    obtain ⟨as, s1, q1, q⟩ := mThen_some e
    obtain ⟨q2, rfl⟩ := mLift_some q
    refine ⟨sk, G, ρ, s, as, s', w, r, q1, fun vs G' H' w' x ps => ?_⟩
    unfold rg2 at q2
    split at q2
    · split at q2
      · rename_i i j hj
        cases q2
        cases ps with
        | cons h t =>
          cases t with
          | cons h' t =>
            cases t
            rw [Dp.int_of h, Dp.int_of h']
            unfold okRg at hj
            rw [Bool.and_eq_true, Bool.and_eq_true] at hj
            exact ⟨i, j, rfl, ⟨of_decide_eq_true hj.1.1, of_decide_eq_true hj.1.2, of_decide_eq_true hj.2.1, of_decide_eq_true hj.2.2⟩, k _ G' H' w' x yl_rg⟩
      · cases q2
    · cases q2
end
/-! ### for, while -/
def forL (p : Pat) (body : M Out) : List D → M Out
  | [] => sNx
  | x :: xs => fun ρ s => match bnd p x ρ s with
    | none => none
    | some (ρ1, s1) => match body ρ1 s1 with
      | some (.nx ρ2, s2) => forL p body xs ρ2 s2
      | some (.ct ρ2, s2) => forL p body xs ρ2 s2
      | some (.bk ρ2, s2) => some (.nx ρ2, s2)
      | r => r
def sFor (it : M (List D)) (p : Pat) (body : M Out) : M Out := fun ρ s => match it ρ s with
  | some (xs, s1) => forL p body xs ρ s1
  | none => none
def whL (c : M Bool) (body : M Out) : Nat → M Out
  | 0 => fun _ _ => none
  | n + 1 => fun ρ s => match c ρ s with
    | some (true, s1) => (match body ρ s1 with
      | some (.nx ρ2, s2) => whL c body n ρ2 s2
      | some (.ct ρ2, s2) => whL c body n ρ2 s2
      | some (.bk ρ2, s2) => some (.nx ρ2, s2)
      | r => r)
    | some (false, s1) => some (.nx ρ, s1)
    | none => none
/-- turns: how many may be, by the state -/
def sWh (turns : Env → S → Nat) (c : M Bool) (body : M Out) : M Out := fun ρ s => whL c body (turns ρ s) ρ s
theorem SR.grow {K : PySem.W.Frag} {sk : Option Addr} {G0 H0 G H G' H' : Hp} {σ : L2.St} {ρ : Env} {s : S} (r : SR K sk G0 H0 G H σ ρ s) (g : Grow G H G' H') : SR K sk G0 H0 G' H' σ ρ s := r.on (g.vw r.vw) (g.ex sk)
/-- a loop's own base: what is held there stays -/
theorem SR.rebase {K : PySem.W.Frag} {sk : Option Addr} {G0 H0 G H : Hp} {σ : L2.St} {ρ : Env} {s : S} (r : SR K sk G0 H0 G H σ ρ s) : ∃ Hb, SR K sk G Hb G H σ ρ s ∧ (∀ G' H', Ex sk G Hb G' H' → Ex sk G0 H0 G' H') ∧ ∀ a, Hb a = none → H0 a = none := by
  classical
  let own : Addr → Prop := fun a => ∃ (i : Nat) (ds : List D), ρ[i]? = some (some (Cell.ow ds)) ∧ σ[i]? = some (some (V.ref a))
  let Hb : Hp := fun a => if own a then none else H a
  have hb : ∀ a o, Hb a = some o → ¬ own a ∧ H a = some o := fun a o e => by
    have e' : (if own a then none else H a) = some o := e
    split at e'
    · cases e'
    · exact ⟨by assumption, e'⟩
  have hn : ∀ a, Hb a = none → H0 a = none := fun a e => by
    have e' : (if own a then none else H a) = none := e
    split at e'
    · rename_i ho
      obtain ⟨i, ds, h1, h2⟩ := ho
      exact r.yo i ds a h1 h2
    · exact r.ex.th a e'
  refine ⟨Hb, ⟨r.vw, r.er, ⟨.refl, fun a o e _ => (hb a o e).2, fun _ _ e => .inl e, fun a e => ?_⟩, fun i ds a h1 h2 => ?_⟩, fun G' H' x => ⟨r.ex.gs.trans x.gs, fun a o e n => ?_, fun a o e => ?_, fun a e => hn a (x.th a e)⟩, hn⟩
  · show (if own a then none else H a) = none
    split
    · rfl
    · exact e
  · show (if own a then none else H a) = none
    rw [if_pos ⟨i, ds, h1, h2⟩]
  · refine x.hs a o ?_ n
    show (if own a then none else H a) = some o
    rw [if_neg (fun ⟨i, ds, h1, h2⟩ => by rw [r.yo i ds a h1 h2] at e; cases e)]
    exact r.ex.hs a o e n
  · rcases x.nw a o e with z | z
    · exact r.ex.nw a o z
    · exact .inr (hn a z)
theorem SR.back {K : PySem.W.Frag} {sk : Option Addr} {G0 H0 G Hb G' H' : Hp} {σ : L2.St} {ρ : Env} {s : S} (hx : ∀ G' H', Ex sk G Hb G' H' → Ex sk G0 H0 G' H') (hn : ∀ a, Hb a = none → H0 a = none) (r : SR K sk G Hb G' H' σ ρ s) : SR K sk G0 H0 G' H' σ ρ s :=
  ⟨r.vw, r.er, hx _ _ r.ex, fun i ds a h1 h2 => hn a (r.yo i ds a h1 h2)⟩
theorem Post.back {K : PySem.W.Frag} {sk : Option Addr} {G0 H0 G Hb : Hp} {E : Ends} {s' : S} {o : Out} (hx : ∀ G' H', Ex sk G Hb G' H' → Ex sk G0 H0 G' H') (hn : ∀ a, Hb a = none → H0 a = none) (k : Post K sk G0 H0 E s' o) : Post K sk G Hb E s' o := by
  cases o with
  | nx ρ => exact fun σ' G' H' r => k σ' G' H' (r.back hx hn)
  | bk ρ => exact fun σ' G' H' r => k σ' G' H' (r.back hx hn)
  | ct ρ => exact fun σ' G' H' r => k σ' G' H' (r.back hx hn)
  | rt d => exact fun v G' H' w x q => k v G' H' w (hx _ _ x) q
  | rl d => exact fun p vs G' H' w x hp np hl gp dl => k p vs G' H' w (hx _ _ x) (hn p hp) np hl gp dl
section
variable {X : Cx} {tg : Expr} {pos : Pos}
theorem P.for {iter : Expr} {body : List Stmt} {it : M (List D)} {p : Pat} {fb : M Out} (hp : PassesOwn (model X.prog X.w) X.A X.env X.xe) (hc : X.calm = true) (hi : PI X tg iter (tI X.K it)) (hg : PG X tg (tG X.K p)) (hb : PSs X body (tS X.K fb))
    (hs : ∀ x, foldedSetIterable iter X.env x = pure x := by intro _; rfl) : PS X (.For tg iter body [] pos) (tS X.K (sFor it p fb)) := by
  refine psI (ps_for hp hc hi hg hb hs) fun E σ H ⟨sk, G0, H0, G, ρ, s, o, s', r, e, k⟩ => ?_
  unfold sFor at e
  split at e
  · rename_i xs s1 e1
    refine ⟨sk, G, ρ, s, xs, s1, r.vw, r.er, e1, fun J G1 H1 w1 x1 y => ?_⟩
    obtain ⟨Hb, rb, hx, hn⟩ := (r.on w1 x1).rebase
    have kb := k.back hx hn
    refine ⟨fun i m σ H => m = xs.length - i ∧ i ≤ xs.length ∧ ∃ G ρ t, SR X.K sk G1 Hb G H σ ρ t ∧ forL p fb (xs.drop i) ρ t = some (o, s'), ⟨_, rfl, Nat.zero_le _, G1, ρ, s1, rb, e⟩, ?_⟩
    rintro i m σ2 H2 ⟨rfl, hi, G2, ρ2, t2, r2, e2⟩
    have l2 : Le G1 G2 := r2.ex.gs
    by_cases hlt : i < xs.length
    · right
      rw [List.drop_eq_getElem_cons hlt] at e2
      have hx : xs[i]? = some xs[i] := List.getElem?_eq_getElem hlt
      obtain ⟨go, yl⟩ := y.item G2 H2 l2 r2.vw.sub i _ hx
      refine ⟨go, fun σ' H' => ∃ G ρ t, SR X.K sk G1 Hb G H' σ' ρ t ∧ forL p fb (xs.drop (i + 1)) ρ t = some (o, s'), fun σ' H' q => ⟨_, by omega, rfl, hlt, q⟩, fun v H3 yv => ?_⟩
      obtain ⟨G3, g3, d3⟩ := yl v H3 yv
      unfold forL at e2
      split at e2
      · cases e2
      · rename_i ρ3 t3 e3
        refine ⟨sk, G1, Hb, G3, ρ2, t2, xs[i], ρ3, t3, r2.grow g3, .inl d3, e3, fun σ4 G4 H4 l4 _ r4 => ?_⟩
        cases q : fb ρ3 t3 with
        | none => rw [q] at e2; cases e2
        | some r =>
          obtain ⟨o5, t5⟩ := r
          rw [q] at e2
          refine ⟨sk, G1, Hb, G4, ρ3, t3, o5, t5, r4, q, ?_⟩
          cases o5 with
          | nx ρ5 => exact fun σ' G' H' r' => ⟨G', ρ5, t5, r', e2⟩
          | ct ρ5 => exact fun σ' G' H' r' => ⟨G', ρ5, t5, r', e2⟩
          | bk ρ5 =>
            cases e2
            exact kb
          | rt d =>
            cases e2
            exact kb
          | rl d =>
            cases e2
            exact kb
    · have hl : i = xs.length := by omega
      subst hl
      left
      rw [List.drop_length] at e2
      cases e2
      exact ⟨y.stop G2 H2 l2 r2.vw.sub, kb σ2 G2 H2 r2⟩
  · cases e
theorem P.while {c : Expr} {body : List Stmt} {fc : M Bool} {fb : M Out} (turns : Env → S → Nat) (hp : PassesOwn (model X.prog X.w) X.A X.env X.xe) (hc : PT X c (tQ X.K fc)) (hb : PSs X body (tS X.K fb)) : PS X (.While c body [] pos) (tS X.K (sWh turns fc fb)) := by
  refine psI (ps_while hp hc hb) fun E σ H ⟨sk, G0, H0, G, ρ, s, o, s', r, e, k⟩ => ?_
  unfold sWh at e
  refine ⟨fun m σ H => ∃ G ρ t, SR X.K sk G0 H0 G H σ ρ t ∧ whL fc fb m ρ t = some (o, s'), ⟨turns ρ s, G, ρ, s, r, e⟩, ?_⟩
  rintro m σ2 H2 ⟨G2, ρ2, t2, r2, e2⟩
  cases m with
  | zero => cases e2
  | succ n =>
    unfold whL at e2
    cases q : fc ρ2 t2 with
    | none => rw [q] at e2; cases e2
    | some b =>
      obtain ⟨b, t3⟩ := b
      rw [q] at e2
      refine ⟨sk, G2, ρ2, t2, b, t3, r2.vw, r2.er, q, fun G3 H3 w3 x3 => ?_⟩
      cases b with
      | false =>
        cases e2
        exact k σ2 G3 H3 (r2.on w3 x3)
      | true =>
        refine ⟨fun σ H => ∃ G ρ t, SR X.K sk G0 H0 G H σ ρ t ∧ whL fc fb n ρ t = some (o, s'), fun σ' H' q => ⟨n, Nat.lt_succ_self _, q⟩, ?_⟩
        cases q5 : fb ρ2 t3 with
        | none => simp only [q5] at e2; cases e2
        | some r5 =>
          obtain ⟨o5, t5⟩ := r5
          simp only [q5] at e2
          refine ⟨sk, G0, H0, G3, ρ2, t3, o5, t5, r2.on w3 x3, q5, ?_⟩
          cases o5 with
          | nx ρ5 => exact fun σ' G' H' r' => ⟨G', ρ5, t5, r', e2⟩
          | ct ρ5 => exact fun σ' G' H' r' => ⟨G', ρ5, t5, r', e2⟩
          | bk ρ5 =>
            cases e2
            exact k
          | rt d =>
            cases e2
            exact k
          | rl d =>
            cases e2
            exact k
end
end PL
namespace PL
open PySem PySem.Spec PyProof.Rows L2
/-! ### comprehensions -/
def wipeE (ρ : Env) : List Nat → Env
  | [] => ρ
  | v :: vs => (wipeE ρ vs).set v none
def lcGo (p : Pat) (c : M Bool) (f : M D) (ρ0 : Env) : List D → S → Option (List D × S)
  | [], s => some ([], s)
  | x :: xs, s => match bnd p x ρ0 s with
    | none => none
    | some (ρ1, s1) => match c ρ1 s1 with
      | none => none
      | some (true, s2) => (match f ρ1 s2 with
        | none => none
        | some (d, s3) => if isD d = true then (match lcGo p c f ρ0 xs s3 with
          | some (ds, s4) => some (d :: ds, s4)
          | none => none) else none)
      | some (false, s2) => lcGo p c f ρ0 xs s2
def mLc (it : M (List D)) (vs : List Nat) (p : Pat) (c : M Bool) (f : M D) : M (List D) := fun ρ s => match it ρ s with
  | some (xs, s1) => if xs.length ≤ sizeLine then lcGo p c f (wipeE ρ vs) xs s1 else none
  | none => none
theorem wipe_get {σ : L2.St} {vs : List Nat} {j : Nat} (h : j ∉ vs) : (wipe σ vs)[j]? = σ[j]? := by
  induction vs with
  | nil => rfl
  | cons v vs ih =>
    rw [List.mem_cons, not_or] at h
    unfold wipe
    rw [List.getElem?_set_ne (Ne.symm h.1), ih h.2]
theorem wipe_in {σ : L2.St} {vs : List Nat} {j : Nat} (h : j ∈ vs) : (wipe σ vs)[j]? = if j < σ.length then some none else none := by
  induction vs with
  | nil => cases h
  | cons v vs ih =>
    unfold wipe
    by_cases e : v = j
    · subst e
      by_cases l : v < σ.length
      · rw [List.getElem?_set_self (by rw [wipe_length]; exact l), if_pos l]
      · rw [List.getElem?_eq_none (by rw [List.length_set, wipe_length]; omega), if_neg l]
    · rw [List.getElem?_set_ne e]
      exact ih ((List.mem_cons.mp h).resolve_left (Ne.symm e))
theorem wipe_off {σ σ2 : L2.St} {vs l : List Nat} (hl : ∀ i ∈ l, i ∈ vs) (h : Off l (wipe σ vs) σ2) (hlen : σ2.length = (wipe σ vs).length) : wipe σ2 vs = wipe σ vs := by
  apply List.ext_getElem?
  intro j
  by_cases hj : j ∈ vs
  · rw [wipe_in hj, wipe_in hj, hlen, wipe_length]
  · rw [wipe_get hj, h j (fun z => hj (hl j z))]
theorem wipeE_get {ρ : Env} {vs : List Nat} {i : Nat} {c : Cell} (h : (wipeE ρ vs)[i]? = some (some c)) : ρ[i]? = some (some c) ∧ i ∉ vs := by
  induction vs with
  | nil => exact ⟨h, by simp⟩
  | cons v vs ih =>
    unfold wipeE at h
    rcases get_set h with ⟨_, z, _⟩ | ⟨n, z⟩
    · cases z
    · obtain ⟨a, b⟩ := ih z
      exact ⟨a, by rw [List.mem_cons, not_or]; exact ⟨n, b⟩⟩
theorem wipeE_length {ρ : Env} {vs : List Nat} : (wipeE ρ vs).length = ρ.length := by
  induction vs with
  | nil => rfl
  | cons v vs ih => unfold wipeE; rw [List.length_set, ih]
theorem ER.wipe {K : PySem.W.Frag} {sk : Option Addr} {G H : Hp} {σ : L2.St} {ρ : Env} (r : ER K sk G H σ ρ) (vs : List Nat) : ER K sk G H (L2.wipe σ vs) (wipeE ρ vs) :=
  ⟨by rw [wipe_length, wipeE_length, r.len], fun i d h => by
    obtain ⟨a, b⟩ := wipeE_get h
    rw [wipe_get b]
    exact r.fz i d a, fun i ds h => by
    obtain ⟨a, b⟩ := wipeE_get h
    rw [wipe_get b]
    exact r.ow i ds a, fun i j ds es a n h1 h2 h3 => by
    obtain ⟨a1, b1⟩ := wipeE_get h1
    obtain ⟨a2, b2⟩ := wipeE_get h2
    rw [wipe_get b1] at h3
    rw [wipe_get b2]
    exact r.ne i j ds es a n a1 a2 h3⟩
section
variable {X : Cx} {tg : Expr} {pos : Pos}
theorem SR.init {K : PySem.W.Frag} {sk : Option Addr} {G H : Hp} {σ : L2.St} {ρ : Env} {s : S} (w : Vw K sk G H s) (r : ER K sk G H σ ρ) : ∃ Hb, SR K sk G Hb G H σ ρ s := by
  classical
  let own : Addr → Prop := fun a => ∃ (i : Nat) (ds : List D), ρ[i]? = some (some (Cell.ow ds)) ∧ σ[i]? = some (some (V.ref a))
  let Hb : Hp := fun a => if own a then none else H a
  refine ⟨Hb, w, r, ⟨.refl, fun a o e _ => ?_, fun _ _ e => .inl e, fun a e => ?_⟩, fun i ds a h1 h2 => ?_⟩
  · have e' : (if own a then none else H a) = some o := e
    split at e'
    · cases e'
    · exact e'
  · show (if own a then none else H a) = none
    split
    · rfl
    · exact e
  · show (if own a then none else H a) = none
    rw [if_pos ⟨i, ds, h1, h2⟩]
mutual
theorem bnd_len : ∀ {p : Pat} {d : D} {ρ ρ' : Env} {s s' : S}, bnd p d ρ s = some (ρ', s') → ρ.length = ρ'.length
  | .nm i, d, ρ, ρ', s, s', e => by unfold bnd at e; cases e; simp
  | .tp ps, .tuple ds, ρ, ρ', s, s', e => by unfold bnd at e; exact bnds_len e
  | .sb i k, d, ρ, ρ', s, s', e => by
    unfold bnd at e
    split at e
    · split at e
      · cases e; rfl
      · cases e
    · cases e
  | .tp ps, .none, ρ, ρ', s, s', e => by unfold bnd at e; cases e
  | .tp ps, .bool _, ρ, ρ', s, s', e => by unfold bnd at e; cases e
  | .tp ps, .int _, ρ, ρ', s, s', e => by unfold bnd at e; cases e
  | .tp ps, .str _, ρ, ρ', s, s', e => by unfold bnd at e; cases e
  | .tp ps, .list ds, ρ, ρ', s, s', e => by unfold bnd at e; exact bnds_len e
  | .tp ps, .dict _, ρ, ρ', s, s', e => by unfold bnd at e; cases e
theorem bnds_len : ∀ {ps : List Pat} {ds : List D} {ρ ρ' : Env} {s s' : S}, bnds ps ds ρ s = some (ρ', s') → ρ.length = ρ'.length
  | [], [], ρ, ρ', s, s', e => by unfold bnds at e; cases e; rfl
  | p :: ps, d :: ds, ρ, ρ', s, s', e => by
    unfold bnds at e
    split at e
    · rename_i ρ1 s1 e1
      rw [bnd_len e1, bnds_len e]
    · cases e
  | [], _ :: _, ρ, ρ', s, s', e => by unfold bnds at e; cases e
  | _ :: _, [], ρ, ρ', s, s', e => by unfold bnds at e; cases e
end
theorem tLc_of {K : PySem.W.Frag} {it : M (List D)} {vs : List Nat} {p : Pat} {fc : M Bool} {f : M D} (hv : ∀ i ∈ slo p, i ∈ vs) {σ : L2.St} {H : Hp} {Q : VK} (t : tL K (mLc it vs p fc f) σ H Q) : tLc (tIE K it) (tG K p) (tQ K fc) (tP K f) vs σ H Q := by
  obtain ⟨sk, G, ρ, s, ds, s', w, r, e, k⟩ := t
  have k' := k
  unfold mLc at e
  split at e
  · rename_i xs s1 e1
    split at e
    · rename_i hsz
      refine ⟨sk, G, ρ, s, xs, s1, w, r, e1, fun J G1 H1 w1 x1 y L hL => ?_⟩
      have nL : sk ≠ some L := fun z => by
        obtain ⟨_, ws, h6, _⟩ := w1.sack L z
        rw [h6] at hL; cases hL
      have gL : G1 L = none := by
        cases q : G1 L with
        | none => rfl
        | some u => rw [w1.sub L u q] at hL; cases hL
      refine ⟨fun i m H => m = xs.length - i ∧ i ≤ xs.length ∧ ∃ G t acc ad es, Vw K sk G H t ∧ Ex sk G1 H1 G H ∧ H L = some (.lst acc) ∧ G L = none ∧ acc.length ≤ i ∧ DpAll K G acc ad ∧ lcGo p fc f (wipeE ρ vs) (xs.drop i) t = some (es, s') ∧ ds = ad ++ es,
        ⟨_, rfl, Nat.zero_le _, G1, s1, [], [], ds, ?_, ?_, upd_same, gL, Nat.zero_le _, .nil, e, rfl⟩, ?_⟩
      · refine ⟨fun a o e => by rw [upd_ne (ne_of_none (w1.sub a o e) hL)]; exact w1.sub a o e, fun a e => ?_⟩
        obtain ⟨gn, ws, h6, h7⟩ := w1.sack a e
        exact ⟨gn, ws, by rw [upd_ne (ne_of_none h6 hL)]; exact h6, h7⟩
      · refine ⟨.refl, fun a o e _ => by rw [upd_ne (ne_of_none e hL)]; exact e, fun _ _ e => .inl e, fun a e => ?_⟩
        by_cases z : a = L
        · subst z; exact hL
        · rw [upd_ne z] at e; exact e
      rintro i m H2 ⟨rfl, hi, G2, t2, acc, ad, es, w2, x2, hl2, gl2, al, da, e2, rfl⟩
      by_cases hlt : i < xs.length
      · right
        rw [List.drop_eq_getElem_cons hlt] at e2
        have hx : xs[i]? = some xs[i] := List.getElem?_eq_getElem hlt
        obtain ⟨go, yl⟩ := y.item G2 H2 x2 w2.sub i _ hx
        refine ⟨go, fun H' => ∃ G t acc ad' es', Vw K sk G H' t ∧ Ex sk G1 H1 G H' ∧ H' L = some (.lst acc) ∧ G L = none ∧ acc.length ≤ i + 1 ∧ DpAll K G acc ad' ∧ lcGo p fc f (wipeE ρ vs) (xs.drop (i + 1)) t = some (es', s') ∧ ad ++ es = ad' ++ es', fun H' q => ⟨_, by omega, rfl, hlt, q⟩, fun v H3 yv => ?_⟩
        obtain ⟨G3, g3, d3⟩ := yl v H3 yv
        unfold lcGo at e2
        split at e2
        · cases e2
        · rename_i ρ3 t3 e3
          have e3' : ER K sk G3 H3 (L2.wipe σ vs) (wipeE ρ vs) := (((r.ex x1).ex x2).ex (g3.ex sk)).wipe vs
          obtain ⟨Hb, r3⟩ := SR.init (g3.vw w2) e3'
          refine ⟨sk, G3, Hb, G3, _, t2, xs[i], ρ3, t3, r3, .inl d3, e3, fun σ4 G4 H4 x4 of4 r4 => ⟨?_, ?_⟩⟩
          · exact wipe_off hv of4 (by rw [r4.er.len, ← bnd_len e3, ← e3'.len])
          have x14 : Ex sk G1 H1 G4 H4 := (x2.trans (g3.ex sk)).trans x4
          have x24 : Ex sk G2 H2 G4 H4 := (g3.ex sk).trans x4
          have hl4 : H4 L = some (.lst acc) := x24.hs L _ hl2 nL
          have gl4 : G4 L = none := x24.free hl2 gl2
          cases q : fc ρ3 t3 with
          | none => simp only [q] at e2; cases e2
          | some b =>
            obtain ⟨b, t5⟩ := b
            simp only [q] at e2
            refine ⟨sk, G4, ρ3, t3, b, t5, r4.vw, r4.er, q, fun G5 H5 w5 x5 => ?_⟩
            have x45 := x24.trans x5
            cases b with
            | false =>
              show (if false = true then _ else _)
              rw [if_neg Bool.false_ne_true]
              exact ⟨G5, t5, acc, ad, es, w5, x14.trans x5, x5.hs L _ hl4 nL, x5.free hl4 gl4, by omega, DpAll.up x45.gs _ _ da, e2, rfl⟩
            | true =>
              show (if true = true then _ else _)
              rw [if_pos rfl]
              cases q6 : f ρ3 t5 with
              | none => simp only [q6] at e2; cases e2
              | some r6 =>
                obtain ⟨d6, t6⟩ := r6
                simp only [q6] at e2
                split at e2
                · rename_i hd6
                  split at e2
                  · rename_i es7 t7 e7
                    cases e2
                    refine ⟨sk, G5, ρ3, t5, d6, t6, w5, r4.er.ex x5, q6, fun y6 G6 H6 w6 x6 q7 => ?_⟩
                    have x56 := x5.trans x6
                    have hl6 : H6 L = some (.lst acc) := x56.hs L _ hl4 nL
                    have gl6 : G6 L = none := x56.free hl4 gl4
                    have w8 : Vw K sk G6 (upd H6 L (.lst (acc ++ [y6]))) t6 := ⟨fun a o e => by
                      have n : a ≠ L := fun z => by subst z; rw [gl6] at e; cases e
                      rw [upd_ne n]; exact w6.sub a o e, fun a e => by
                      obtain ⟨gn, ws, h6, h7⟩ := w6.sack a e
                      exact ⟨gn, ws, by rw [upd_ne (fun z => nL (by rw [← z]; exact e))]; exact h6, h7⟩⟩
                    refine ⟨acc, hl6, by omega, G6, t6, acc ++ [y6], ad ++ [d6], es7, w8, ?_, upd_same, gl6, by simp; omega, DpAll.app (DpAll.up (x45.trans x6).gs _ _ da) (.cons (q7.dp hd6) .nil), e7, by simp⟩
                    have x16 := x14.trans x56
                    refine ⟨x16.gs, fun a o e n => ?_, x16.nw, fun a e => ?_⟩
                    · have : a ≠ L := fun z => by subst z; rw [hL] at e; cases e
                      rw [upd_ne this]; exact x16.hs a o e n
                    · by_cases z : a = L
                      · subst z; exact hL
                      · rw [upd_ne z] at e; exact x16.th a e
                  · cases e2
                · cases e2
      · have hl : i = xs.length := by omega
        subst hl
        left
        rw [List.drop_length] at e2
        cases e2
        refine ⟨y.stop G2 H2 x2 w2.sub, ?_⟩
        have x12 := x1.trans x2
        exact k' L acc G2 H2 w2 x12 (x1.th L hL) nL hl2 gl2 (by rw [List.append_nil]; exact da)
    · cases e
  · cases e
theorem P.lc {elt iter : Expr} {ifs : List Expr} {scope : Scope} {own : List (Str × Nat)} {it : M (List D)} {p : Pat} {fc : M Bool} {f : M D} (hc : X.calm = true) (hN : X.N.Nodup) (hi : PI X tg iter (tIE X.K it)) (ok : BlkOk X.N X.env.scope scope own) (hv : ∀ i ∈ slo p, i ∈ own.map (·.2))
    (hg : ∀ (s : Shared) (H : Hp) (C : Addr) (cl : List (Str × Addr)) (fp : List Addr), PG (X.blk s H scope (compEnvC scope cl C X.env) fp) tg (tG X.K p)) (ht : ∀ (s : Shared) (H : Hp) (C : Addr) (cl : List (Str × Addr)) (fp : List Addr), PTs (X.blk s H scope (compEnvC scope cl C X.env) fp) ifs (tQ X.K fc))
    (he : ∀ (s : Shared) (H : Hp) (C : Addr) (cl : List (Str × Addr)) (fp : List Addr), PE (X.blk s H scope (compEnvC scope cl C X.env) fp) elt (tP X.K f)) (hs : ∀ x, foldedSetIterable iter X.env x = pure x := by intro _; rfl) :
    PE X (.ListComp elt [⟨tg, iter, ifs, 0⟩] scope pos) (tL X.K (mLc it (own.map (·.2)) p fc f)) :=
  peI (pe_lc hc hN hi ok hg ht he hs) fun _ _ _ t => tLc_of hv t
theorem P.nif : PTs X [] (tQ X.K (qC true)) := ⟨fun pins s σ H Q I ⟨sk, G, ρ, sS, b, s', w, r, e, k⟩ => by
  cases e
  exact (pts_nil (X := X)).run pins s σ H Q I (k G H w .refl)⟩
theorem P.one_if {c : Expr} {fc : M Bool} (h : PT X c (tQ X.K fc)) : PTs X [c] (tQ X.K fc) := pts_one h
theorem P.ownLc {i : Nat} {y : Str} {py : Pos} {elt iter : Expr} {ifs : List Expr} {scope : Scope} {own : List (Str × Nat)} {spos : Pos} {it : M (List D)} {p : Pat} {fc : M Bool} {f : M D} (hc : X.calm = true) (hN : X.N.Nodup) (hy : X.N[i]? = some y) (hyl : X.env.scope.names.lookup y = some .local)
    (hsw : swapsWith (.ListComp elt [⟨tg, iter, ifs, 0⟩] scope pos) (some (.Name y py)) spos.line X.env = pure true) (hi : PI X tg iter (tIE X.K it)) (ok : BlkOk X.N X.env.scope scope own) (hv : ∀ i ∈ slo p, i ∈ own.map (·.2))
    (hg : ∀ (s : Shared) (H : Hp) (C : Addr) (cl : List (Str × Addr)) (fp : List Addr), PG (X.blk s H scope (compEnvC scope cl C X.env) fp) tg (tG X.K p)) (ht : ∀ (s : Shared) (H : Hp) (C : Addr) (cl : List (Str × Addr)) (fp : List Addr), PTs (X.blk s H scope (compEnvC scope cl C X.env) fp) ifs (tQ X.K fc))
    (he : ∀ (s : Shared) (H : Hp) (C : Addr) (cl : List (Str × Addr)) (fp : List Addr), PE (X.blk s H scope (compEnvC scope cl C X.env) fp) elt (tP X.K f)) (hs : ∀ x, foldedSetIterable iter X.env x = pure x := by intro _; rfl) :
    PS X (.Assign [.Name y py] (.ListComp elt [⟨tg, iter, ifs, 0⟩] scope pos) spos) (tS X.K (sOwn i (mLc it (own.map (·.2)) p fc f))) := by
  refine psI (ps_setLc hc hN hy hyl hsw hi ok hg ht he hs) fun E σ H t => ?_
  have q := tAsgL_of t
  exact tLc_of hv q
end
/-! ### defs and calls -/
abbrev Fn := List D → S → Option (D × S)
def startE (N : Nat) (ds : List D) : Env := ds.map (fun d => some (Cell.fz d)) ++ List.replicate (N - ds.length) none
/-- a def with n parameters and N names -/
def fnM (n N : Nat) (body : M Out) : Fn := fun ds s => if ds.length = n then (match body (startE N ds) s with
  | some (.rt d, s') => some (d, s')
  | some (.nx _, s') => some (.none, s')
  | _ => none) else none
def spF (K : PySem.W.Frag) (F : Fn) : Sp := fun vs H Q _ => ∃ sk G ds s d s', Vw K sk G H s ∧ Paired (Dq K sk G) vs ds ∧ F ds s = some (d, s') ∧ ∀ v G' H', Vw K sk G' H' s' → Ex sk G H G' H' → Dq K sk G' v d → Q v H'
theorem Paired.get {α β : Type} {R : α → β → Prop} : ∀ {xs : List α} {ys : List β} {i : Nat} {y : β}, Paired R xs ys → ys[i]? = some y → ∃ x, xs[i]? = some x ∧ R x y
  | _, _, _, _, .nil, e => by simp at e
  | _, _, 0, _, .cons h t, e => by simp at e; subst e; exact ⟨_, rfl, h⟩
  | _, _, i + 1, _, .cons h t, e => by
    obtain ⟨v, a, b⟩ := Paired.get (i := i) t (by simpa using e)
    exact ⟨v, by simpa using a, b⟩
theorem startE_get {N : Nat} {ds : List D} {i : Nat} {c : Cell} (h : (startE N ds)[i]? = some (some c)) : ∃ d, c = .fz d ∧ ds[i]? = some d := by
  unfold startE at h
  by_cases hi : i < ds.length
  · rw [List.getElem?_append_left (by simpa using hi), List.getElem?_map] at h
    cases q : ds[i]? with
    | none => rw [q] at h; cases h
    | some d => rw [q] at h; cases h; exact ⟨d, rfl, rfl⟩
  · rw [List.getElem?_append_right (by simp; omega)] at h
    have z := List.getElem?_eq_some_iff.mp h
    obtain ⟨hz, e⟩ := z
    rw [List.getElem_replicate] at e
    cases e
theorem start_get {N : List Str} {vs : List V} {i : Nat} {v : V} (h : vs[i]? = some v) : (L2.start N vs)[i]? = some (some v) := by
  have hi : i < vs.length := (List.getElem?_eq_some_iff.mp h).1
  unfold L2.start
  rw [List.getElem?_append_left (by simpa using hi), List.getElem?_map, h]
  rfl
theorem P.fn {P : Program} {w : World} {K : PySem.W.Frag} {mg : Str → Option Value} {base : Heap} {k : Nat} {f : Addr} {nm qu : Str} {pars : Arguments} {bd : List Stmt} {sc : Scope} {dvs : List V} {kws : List (Str × V)} {fd : FuncData} {N ps : List Str} {F : M Out} {n m : Nat}
    (D : FunD K nm qu pars bd sc dvs kws f fd) (S : FnScope N ps sc) (hn : ps.length = n) (hm : N.length = m)
    (body : ∀ (cdv : Value) (A : Around) (outer : List PySem.Env) (s : Shared) (H : Hp) (E : XK), A.guards = some [] → Room k (A.deeper (envOfC qu sc s.heap.objs.size f cdv)) →
      PSs (cxOf CX0 P w K mg base N qu sc f cdv A outer s H E).nox bd (tS K F)) : FnG P w K mg base CX0 (k + 1) f fd ps (spF K (fnM n m F)) := by
  subst hn; subst hm
  refine fnG_of D S (fun vs H Q E ⟨sk, G, ds, s, d, s', w, p, e, k⟩ => ?_) fun cdv A outer s H vs Q E hg hr h => ?_
  · unfold fnM at e
    split at e
    · rw [Paired.length p]; assumption
    · cases e
  · refine ⟨_, PSs.nox (body cdv A outer s H E hg hr), ?_⟩
    obtain ⟨sk, G, ds, s1, d, s', w1, p, e, k1⟩ := h
    unfold fnM at e
    split at e
    · rename_i hl
      have lv : vs.length = ps.length := by rw [Paired.length p]; exact hl
      have r : SR K sk G H G H (L2.start N vs) (startE N.length ds) s1 := by
        refine ⟨w1, ⟨?_, fun i d h => ?_, fun i es h => ?_, fun i j es fs a n h1 h2 h3 => ?_⟩, .refl, fun i es a h1 h2 => ?_⟩
        · unfold L2.start startE; simp [Paired.length p]
        · obtain ⟨d', e1, e2⟩ := startE_get h
          cases e1
          obtain ⟨v, h1, h2⟩ := Paired.get p e2
          exact ⟨v, start_get h1, h2⟩
        · obtain ⟨d', e1, e2⟩ := startE_get h; cases e1
        · obtain ⟨d', e1, e2⟩ := startE_get h1; cases e1
        · obtain ⟨d', e1, e2⟩ := startE_get h1; cases e1
      split at e
      · rename_i d' s2 e1
        cases e
        exact ⟨sk, G, H, G, _, s1, _, _, r, e1, fun v G' H' w' x q => k1 v G' H' w' x q⟩
      · rename_i ρ' s2 e1
        cases e
        exact ⟨sk, G, H, G, _, s1, _, _, r, e1, fun σ' G' H' r' => k1 .non G' H' r'.vw r'.ex (.inl .non)⟩
      · cases e
    · cases e
section
variable {X : Cx} {pos : Pos}
def mF (F : Fn) (a : M (List D)) : M D := fun ρ s => match a ρ s with
  | some (ds, s1) => F ds s1
  | none => none
theorem P.call {k : Nat} {f : Addr} {fd : FuncData} {ps : List Str} {x : Str} {p : Pos} {e : Expr} {es : List Expr} {F : Fn} {fa : M (List D)} (hF : FnG X.prog X.w X.K X.mg X.base CX0 k f fd ps (spF X.K F)) (hgd : X.A.guards = some []) (hr : Room k X.A) (hg : Gl X x) (hm : X.mg x = some (.ref f)) (hk : PySem.W.keepIn X.K (.ref f) = true) (hb : Binds X.K fd ps [])
    (ha : PA X (e :: es) (tA X.K fa)) (hdb : (x == ("__debug__" : Str)) = false := by decide) (he : starEach (e :: es) X.env = (false, eval e X.env) :: starEach es X.env := by rfl) (hpl : (backTo pos (starEach es X.env)).any (·.1) = false := by rfl) :
    PE X (.Call (.Name x p) (e :: es) [] pos) (tP X.K (mF F fa)) := by
  refine peI (pe_callG hF hgd hr hg hm hk hb ha hdb he hpl) fun σ H Q ⟨sk, G, ρ, s, d, s', w, r, e, k⟩ => ?_
  unfold mF at e
  split at e
  · rename_i ds s1 e1
    refine ⟨sk, G, ρ, s, ds, s1, w, r, e1, fun vs G1 H1 w1 x1 p1 => ?_⟩
    show spF X.K F (vs ++ []) H1 Q E0
    rw [List.append_nil]
    exact ⟨sk, G1, ds, s1, d, s', w1, p1, e, fun v G2 H2 w2 x2 q => k v G2 H2 w2 (x1.trans x2) q⟩
  · cases e
/-- a, b = e1, e2 stored from the right -/
def sPar (i j : Nat) (a : M (List D)) : M Out := fun ρ s => match a ρ s with
  | some ([d, e], s1) => some (.nx ((ρ.set i (some (.fz d))).set j (some (.fz e))), s1)
  | _ => none
theorem P.par {i j : Nat} {x y : Str} {a b : Expr} {ta : M (List D)} {px py pt : Pos} {kt k2 pt2} (hc : X.calm = true) (hN : X.N.Nodup) (hi : X.N[i]? = some x) (hj : X.N[j]? = some y) (hij : i ≠ j)
    (hx : X.env.scope.names.lookup x = some .local) (hy : X.env.scope.names.lookup y = some .local) (ha : PA X [a, b] (tA X.K ta))
    (hw : swappedStores [.Tuple [.Name x px, .Name y py] kt pt] (.Tuple [a, b] k2 pt2) X.env = pure (some [x, y]))
    (hs : swapsWithSole [.Tuple [.Name x px, .Name y py] kt pt] (.Tuple [a, b] k2 pt2) pos.line X.env = pure false := by rfl) :
    PS X (.Assign [.Tuple [.Name x px, .Name y py] kt pt] (.Tuple [a, b] k2 pt2) pos) (tS X.K (sPar i j ta)) := by
  refine psI (ps_par hc hN hi hj hij hx hy ha hw hs) fun E σ H ⟨sk, G0, H0, G, ρ, s, o, s', r, e, k⟩ => ?_
  unfold sPar at e
  split at e
  · rename_i d1 d2 s1 e1
    cases e
    refine ⟨sk, G, ρ, s, _, _, r.vw, r.er, e1, fun vs G1 H1 w1 x1 p => ?_⟩
    cases p with
    | cons h1 t =>
      cases t with
      | cons h2 t =>
        cases t
        exact ⟨_, _, rfl, k _ G1 H1 (((r.on w1 x1).setF i h1).setF j h2)⟩
  · cases e
/-- a, b = e1, [..] and a, b = [..], e2 -/
def sParFO (i j : Nat) (a : M D) (b : M (List D)) : M Out := fun ρ s => match a ρ s with
  | some (d, s1) => (match b ρ s1 with
    | some (es, s2) => some (.nx ((ρ.set i (some (.fz d))).set j (some (.ow es))), s2)
    | none => none)
  | none => none
def sParOF (i j : Nat) (a : M (List D)) (b : M D) : M Out := fun ρ s => match a ρ s with
  | some (es, s1) => (match b ρ s1 with
    | some (d, s2) => some (.nx ((ρ.set i (some (.ow es))).set j (some (.fz d))), s2)
    | none => none)
  | none => none
theorem P.parFO {i j : Nat} {x y : Str} {a b : Expr} {fa : M D} {fb : M (List D)} {px py pt : Pos} {kt k2 pt2} (hc : X.calm = true) (hN : X.N.Nodup) (hi : X.N[i]? = some x) (hj : X.N[j]? = some y) (hij : i ≠ j)
    (hx : X.env.scope.names.lookup x = some .local) (hy : X.env.scope.names.lookup y = some .local) (ha : PE X a (tP X.K fa)) (hb : PE X b (tL X.K fb))
    (hw : swappedStores [.Tuple [.Name x px, .Name y py] kt pt] (.Tuple [a, b] k2 pt2) X.env = pure (some [x, y]))
    (hs : swapsWithSole [.Tuple [.Name x px, .Name y py] kt pt] (.Tuple [a, b] k2 pt2) pos.line X.env = pure false := by rfl)
    (h1 : starEach (a :: [b]) X.env = (false, eval a X.env) :: starEach [b] X.env := by rfl) (h2 : starEach (b :: []) X.env = (false, eval b X.env) :: starEach [] X.env := by rfl) :
    PS X (.Assign [.Tuple [.Name x px, .Name y py] kt pt] (.Tuple [a, b] k2 pt2) pos) (tS X.K (sParFO i j fa fb)) := by
  refine psI (ps_par hc hN hi hj hij hx hy (pa_cons ha (pa_cons hb pa_nil h2) h1) hw hs) fun E σ H ⟨sk, G0, H0, G, ρ, s, o, s', r, e, k⟩ => ?_
  unfold sParFO at e
  split at e
  · rename_i d s1 e1
    split at e
    · rename_i es s2 e2
      cases e
      refine P.then r.vw r.er e1 fun v G1 H1 w1 x1 r1 q1 => ?_
      refine ⟨sk, G1, ρ, s1, es, _, w1, r1, e2, fun p vs G2 H2 w2 x2 hp np hl gp dl => ?_⟩
      have rr := ((r.on w1 x1).on w2 x2).setF i (q1.up x2.gs)
      refine ⟨_, _, rfl, k _ G2 H2 (rr.setO j hl gp np ?_ dl fun m ds q z => ?_)⟩
      · exact (r.on w1 x1).h0 hp
      · rcases get_set q with ⟨_, z1, _⟩ | ⟨n, z1⟩
        · cases z1
        · rw [List.getElem?_set_ne (Ne.symm n)] at z
          exact r1.nw hp m ds z1 z
    · cases e
  · cases e
theorem P.parOF {i j : Nat} {x y : Str} {a b : Expr} {fa : M (List D)} {fb : M D} {px py pt : Pos} {kt k2 pt2} (hc : X.calm = true) (hN : X.N.Nodup) (hi : X.N[i]? = some x) (hj : X.N[j]? = some y) (hij : i ≠ j)
    (hx : X.env.scope.names.lookup x = some .local) (hy : X.env.scope.names.lookup y = some .local) (ha : PE X a (tL X.K fa)) (hb : PE X b (tP X.K fb))
    (hw : swappedStores [.Tuple [.Name x px, .Name y py] kt pt] (.Tuple [a, b] k2 pt2) X.env = pure (some [x, y]))
    (hs : swapsWithSole [.Tuple [.Name x px, .Name y py] kt pt] (.Tuple [a, b] k2 pt2) pos.line X.env = pure false := by rfl)
    (h1 : starEach (a :: [b]) X.env = (false, eval a X.env) :: starEach [b] X.env := by rfl) (h2 : starEach (b :: []) X.env = (false, eval b X.env) :: starEach [] X.env := by rfl) :
    PS X (.Assign [.Tuple [.Name x px, .Name y py] kt pt] (.Tuple [a, b] k2 pt2) pos) (tS X.K (sParOF i j fa fb)) := by
  refine psI (ps_par hc hN hi hj hij hx hy (pa_cons ha (pa_cons hb pa_nil h2) h1) hw hs) fun E σ H ⟨sk, G0, H0, G, ρ, s, o, s', r, e, k⟩ => ?_
  unfold sParOF at e
  split at e
  · rename_i es s1 e1
    split at e
    · rename_i d s2 e2
      cases e
      refine ⟨sk, G, ρ, s, es, _, r.vw, r.er, e1, fun p vs G1 H1 w1 x1 hp np hl gp dl => ?_⟩
      refine P.then w1 (r.er.ex x1) e2 fun v G2 H2 w2 x2 r2 q2 => ?_
      have rr := ((r.on w1 x1).on w2 x2).setO i (x2.hs p _ hl np) (x2.free hl gp) np (r.h0 hp) (DpAll.up x2.gs _ _ dl) fun m ds q => r.er.nw hp m ds q
      exact ⟨_, _, rfl, k _ G2 H2 (rr.setF j q2)⟩
    · cases e
  · cases e
/-- a, b = e1, [..] by way of a pair (a name of them is captured) -/
theorem P.asgFO {i j : Nat} {x y : Str} {a b : Expr} {fa : M D} {fb : M (List D)} {px py pt : Pos} {kt k2 pt2} (hc : X.calm = true) (hN : X.N.Nodup) (hi : X.N[i]? = some x) (hj : X.N[j]? = some y)
    (hx : Loc X.env.scope x) (hy : Loc X.env.scope y) (ha : PE X a (tP X.K fa)) (hb : PE X b (tL X.K fb))
    (hs : swapsWithSole [.Tuple [.Name x px, .Name y py] kt pt] (.Tuple [a, b] k2 pt2) pos.line X.env = pure false := by rfl) (hw : swappedStores [.Tuple [.Name x px, .Name y py] kt pt] (.Tuple [a, b] k2 pt2) X.env = pure none := by rfl)
    (h0 : (assignEach [.Tuple [.Name x px, .Name y py] kt pt] X.env).map (·.2) = [assign (.Tuple [.Name x px, .Name y py] kt pt) X.env] := by rfl)
    (h1 : starEach (a :: [b]) X.env = (false, eval a X.env) :: starEach [b] X.env := by rfl) (h2 : starEach (b :: []) X.env = (false, eval b X.env) :: starEach [] X.env := by rfl)
    (h3 : (assignEach [.Name x px, .Name y py] X.env).map (·.2) = assign (.Name x px) X.env :: (assignEach [.Name y py] X.env).map (·.2) := by rfl) (h4 : (assignEach [.Name y py] X.env).map (·.2) = assign (.Name y py) X.env :: (assignEach [] X.env).map (·.2) := by rfl)
    (h5 : (assignEach [.Name x px, .Name y py] X.env).length = 2 := by rfl) (h6 : (assignEach [.Name x px, .Name y py] X.env).findIdx? (·.1) = none := by rfl)
    (hfx : X.fn x = true ∨ X.env.scope.names.lookup x = some .local := by first | exact .inl rfl | exact .inr rfl | assumption) (hfy : X.fn y = true ∨ X.env.scope.names.lookup y = some .local := by first | exact .inl rfl | exact .inr rfl | assumption) :
    PS X (.Assign [.Tuple [.Name x px, .Name y py] kt pt] (.Tuple [a, b] k2 pt2) pos) (tS X.K (sParFO i j fa fb)) := by
  refine psI (ps_asg (pe_tup (pa_cons ha (pa_cons hb pa_nil h2) h1)) (pg_tup hc (pgs_cons (pg_name hN hi hx hfx) (pgs_cons (pg_name hN hj hy hfy) pgs_nil h4) h3) h5 h6) hs hw h0) fun E σ H ⟨sk, G0, H0, G, ρ, s, o, s', r, e, k⟩ => ?_
  unfold sParFO at e
  split at e
  · rename_i d s1 e1
    split at e
    · rename_i es s2 e2
      cases e
      refine P.then r.vw r.er e1 fun v G1 H1 w1 x1 r1 q1 => ?_
      refine ⟨sk, G1, ρ, s1, es, _, w1, r1, e2, fun p vs G2 H2 w2 x2 hp np hl gp dl => ?_⟩
      refine ⟨(by show 2 ≤ sizeLine; decide), fun t ht => ?_⟩
      have gt : G2 t = none := by
        cases q : G2 t with
        | none => rfl
        | some u => rw [w2.sub t u q] at ht; cases ht
      have nt : sk ≠ some t := fun z => by
        obtain ⟨_, ws, h6, _⟩ := w2.sack t z
        rw [h6] at ht; cases ht
      have up : ∀ b o, H2 b = some o → upd H2 t (.tup [v, .ref p]) b = some o := fun b o e => by rw [upd_ne (ne_of_none e ht)]; exact e
      have w3 : Vw X.K sk G2 (upd H2 t (.tup [v, .ref p])) _ := ⟨fun b o e => up b o (w2.sub b o e), fun b e => by
        obtain ⟨gn, ws, h6, h7⟩ := w2.sack b e
        exact ⟨gn, ws, up b _ h6, h7⟩⟩
      have x3 : Ex sk G2 H2 G2 (upd H2 t (.tup [v, .ref p])) := ⟨.refl, fun b o e _ => up b o e, fun _ _ e => .inl e, fun b e => by
        by_cases z : b = t
        · subst z; exact ht
        · rw [upd_ne z] at e; exact e⟩
      have rr := (((r.on w1 x1).on w2 x2).on w3 x3).setF i ((q1.up x2.gs).up x3.gs)
      refine ⟨t, [v, .ref p], rfl, SqT.of upd_same, rfl, v, _, rfl, .ref p, _, rfl, rfl, k _ G2 _ (rr.setO j (up p _ hl) gp np ?_ dl fun m ds q z => ?_)⟩
      · exact (r.on w1 x1).h0 hp
      · rcases get_set q with ⟨_, z1, _⟩ | ⟨n, z1⟩
        · cases z1
        · rw [List.getElem?_set_ne (Ne.symm n)] at z
          exact r1.nw hp m ds z1 z
    · cases e
  · cases e
/-- a, b, c = e1, e2, e3 with plain local names: stored from the right -/
theorem ps_par3 {i j l : Nat} {x y z : Str} {a b c : Expr} {ta : TA} {px py pz pt : Pos} {kt k2 pt2} (hc : X.calm = true) (hN : X.N.Nodup) (hi : X.N[i]? = some x) (hj : X.N[j]? = some y) (hl : X.N[l]? = some z) (hij : i ≠ j) (hil : i ≠ l) (hjl : j ≠ l)
    (hx : X.env.scope.names.lookup x = some .local) (hy : X.env.scope.names.lookup y = some .local) (hz : X.env.scope.names.lookup z = some .local) (ha : PA X [a, b, c] ta)
    (hw : swappedStores [.Tuple [.Name x px, .Name y py, .Name z pz] kt pt] (.Tuple [a, b, c] k2 pt2) X.env = pure (some [x, y, z]))
    (hs : swapsWithSole [.Tuple [.Name x px, .Name y py, .Name z pz] kt pt] (.Tuple [a, b, c] k2 pt2) pos.line X.env = pure false := by rfl) :
    PS X (.Assign [.Tuple [.Name x px, .Name y py, .Name z pz] kt pt] (.Tuple [a, b, c] k2 pt2) pos) (fun D σ H => ta σ H fun vs H1 => ∃ v w u, vs = [v, w, u] ∧ D.nx (((σ.set i (some v)).set j (some w)).set l (some u)) H1) := by
  refine ⟨fun pins s σ H D I h => ?_⟩
  rw [exec_Assign_arm]
  refine wpAny_bind (wpAny_standAt ?_)
  rw [hs]
  refine wpAny_bind (wpAny_pure ?_)
  rw [if_neg (by decide)]
  refine wpAny_bind (Tuple_ (thn (ha.run _ pins s σ H _ I h) fun us s1 ⟨vs, H1, I1, r1, q1⟩ => ?_))
  obtain ⟨v, w, u, e1, q1⟩ := q1
  subst e1
  obtain ⟨u1, u2, u3, rfl, rv, rw', ru⟩ : ∃ u1 u2 u3, us = [u1, u2, u3] ∧ RelV v u1 ∧ RelV w u2 ∧ RelV u u3 := by
    cases r1 with
    | cons p q => cases q with
      | cons p' q' => cases q' with
        | cons p'' q'' => cases q''; exact ⟨_, _, _, rfl, p, p', p''⟩
  refine wpAny_newObj_type ?_ (by show 3 ≤ sizeLine; decide)
  have I2 : Inv X pins σ H1 { s1 with heap := s1.heap.push { cls := .type "tuple", data := .seq [u1, u2, u3].toArray } } := I1.kept (t' := s1.toks) fun b o e => Heap.get?_push_of_some _ e
  rw [hw]
  refine wpAny_bind (wpAny_pure ?_)
  show wpAny (model X.prog X.w) X.A (do rule "assign.swapped-stores"; let items ← unpackItems (.ref s1.heap.objs.size) 3 none; assignInOrder [fun v => bindName X.env z v, fun v => bindName X.env y v, fun v => bindName X.env x v] items.reverse; pure Flow.next) _ _ _
  refine wpAny_bind (wpAny_rule (wpAny_bind (unpackItems_tuple (items := #[u1, u2, u3]) (I.ok.hd hc) (IsTup.new s1.heap _) fun h' hx' => ?_)))
  have I3 := I2.kept (h' := h') (t' := s1.toks) fun b o e => hx' b o (Nat.ne_of_lt (Heap.lt_size e)) e
  show wpAny _ _ (assignInOrder [fun v => bindName X.env z v, fun v => bindName X.env y v, fun v => bindName X.env x v] [u3, u2, u1] >>= fun _ => pure Flow.next) _ _ _
  refine wpAny_bind (assignInOrder_cons (wpAny_bindName (store_ok I3 hN hl (.inl hz) ru (fun s2 I4 => ?_) (.inr hz))))
  refine assignInOrder_cons (wpAny_bindName (store_ok I4 hN hj (.inl hy) rw' (fun s3 I5 => ?_) (.inr hy)))
  refine assignInOrder_cons (wpAny_bindName (store_ok I5 hN hi (.inl hx) rv (fun s4 I6 => assignInOrder_nil (wpAny_pure ?_)) (.inr hx)))
  rw [List.set_comm _ _ (Ne.symm hjl), List.set_comm _ _ (Ne.symm hil), List.set_comm _ _ (Ne.symm hij)] at I6
  exact ⟨_, H1, I6, q1⟩
def sPar3 (i j l : Nat) (a : M (List D)) : M Out := fun ρ s => match a ρ s with
  | some ([d, e, f], s1) => some (.nx (((ρ.set i (some (.fz d))).set j (some (.fz e))).set l (some (.fz f))), s1)
  | _ => none
theorem P.par3 {i j l : Nat} {x y z : Str} {a b c : Expr} {ta : M (List D)} {px py pz pt : Pos} {kt k2 pt2} (hc : X.calm = true) (hN : X.N.Nodup) (hi : X.N[i]? = some x) (hj : X.N[j]? = some y) (hl : X.N[l]? = some z) (hij : i ≠ j) (hil : i ≠ l) (hjl : j ≠ l)
    (hx : X.env.scope.names.lookup x = some .local) (hy : X.env.scope.names.lookup y = some .local) (hz : X.env.scope.names.lookup z = some .local) (ha : PA X [a, b, c] (tA X.K ta))
    (hw : swappedStores [.Tuple [.Name x px, .Name y py, .Name z pz] kt pt] (.Tuple [a, b, c] k2 pt2) X.env = pure (some [x, y, z]))
    (hs : swapsWithSole [.Tuple [.Name x px, .Name y py, .Name z pz] kt pt] (.Tuple [a, b, c] k2 pt2) pos.line X.env = pure false := by rfl) :
    PS X (.Assign [.Tuple [.Name x px, .Name y py, .Name z pz] kt pt] (.Tuple [a, b, c] k2 pt2) pos) (tS X.K (sPar3 i j l ta)) := by
  refine psI (ps_par3 hc hN hi hj hl hij hil hjl hx hy hz ha hw hs) fun E σ H ⟨sk, G0, H0, G, ρ, s, o, s', r, e, k⟩ => ?_
  unfold sPar3 at e
  split at e
  · rename_i d1 d2 d3 s1 e1
    cases e
    refine ⟨sk, G, ρ, s, _, _, r.vw, r.er, e1, fun vs G1 H1 w1 x1 p => ?_⟩
    cases p with
    | cons h1 t => cases t with
      | cons h2 t => cases t with
        | cons h3 t =>
          cases t
          exact ⟨_, _, _, rfl, k _ G1 H1 ((((r.on w1 x1).setF i h1).setF j h2).setF l h3)⟩
  · cases e
/-- x += e of a number -/
def aAdd : D → D → Option D
  | .int p, .int q => some (.int (p + q))
  | _, _ => none
def sAug (i : Nat) (f : D → D → Option D) (a : M D) : M Out := fun ρ s => match ρ[i]? with
  | some (some (Cell.fz (.int x))) => (match a ρ s with
    | some (y, s1) => (match f (.int x) y with
      | some z => some (.nx (ρ.set i (some (.fz z))), s1)
      | none => none)
    | none => none)
  | _ => none
theorem P.augAdd {i : Nat} {x : Str} {e : Expr} {f : M D} {pos' : Pos} (hN : X.N.Nodup) (hi : X.N[i]? = some x) (hx : Loc X.env.scope x) (he : PE X e (tP X.K f)) (hf : X.fn x = true ∨ X.env.scope.names.lookup x = some .local := by first | exact .inl rfl | exact .inr rfl | assumption) :
    PS X (.AugAssign (.Name x pos') .Add e pos) (tS X.K (sAug i aAdd f)) := by
  refine psI (ps_aug hN hi hx he ip_add hf) fun E σ H ⟨sk, G0, H0, G, ρ, s, o, s', r, e, k⟩ => ?_
  unfold sAug at e
  split at e
  · rename_i x0 e0
    split at e
    · rename_i y s1 e1
      split at e
      · rename_i z ez
        cases e
        unfold aAdd at ez
        split at ez
        · rename_i p q ep
          cases ep
          cases ez
          obtain ⟨v, h1, h2⟩ := r.er.fz i _ e0
          refine ⟨v, h1, P.then r.vw r.er e1 fun v' G1 H1 w1 x1 r1 q1 => ⟨_, _, Dp.int_of h2, Dp.int_of q1, ?_⟩⟩
          exact k _ G1 H1 ((r.on w1 x1).setF i (.inl (.int _)))
        · cases ez
      · cases e
    · cases e
  · cases e
/-! ### a def that hands back a new list; the sack is made of it -/
abbrev FnL := List D → S → Option (List D × S)
def fnL (n N : Nat) (body : M Out) : FnL := fun ds s => if ds.length = n then (match body (startE N ds) s with
  | some (.rl d, s') => some (d, s')
  | _ => none) else none
def spL (K : PySem.W.Frag) (F : FnL) : Sp := fun vs H Q _ => ∃ sk G ds s es s', Vw K sk G H s ∧ Paired (Dq K sk G) vs ds ∧ F ds s = some (es, s') ∧
  ∀ p xs G' H', Vw K sk G' H' s' → Ex sk G H G' H' → H p = none → sk ≠ some p → H' p = some (.lst xs) → G' p = none → DpAll K G' xs es → Q (.ref p) H'
end
theorem P.fnl {P : Program} {w : World} {K : PySem.W.Frag} {mg : Str → Option Value} {base : Heap} {k : Nat} {f : Addr} {nm qu : Str} {pars : Arguments} {bd : List Stmt} {sc : Scope} {dvs : List V} {kws : List (Str × V)} {fd : FuncData} {N ps : List Str} {F : M Out} {n m : Nat}
    (D : FunD K nm qu pars bd sc dvs kws f fd) (S : FnScope N ps sc) (hn : ps.length = n) (hm : N.length = m)
    (body : ∀ (cdv : Value) (A : Around) (outer : List PySem.Env) (s : Shared) (H : Hp) (E : XK), A.guards = some [] → Room k (A.deeper (envOfC qu sc s.heap.objs.size f cdv)) →
      PSs (cxOf CX0 P w K mg base N qu sc f cdv A outer s H E).nox bd (tS K F)) : FnG P w K mg base CX0 (k + 1) f fd ps (spL K (fnL n m F)) := by
  subst hn; subst hm
  refine fnG_of D S (fun vs H Q E ⟨sk, G, ds, s, d, s', w, p, e, k⟩ => ?_) fun cdv A outer s H vs Q E hg hr h => ?_
  · unfold fnL at e
    split at e
    · rw [Paired.length p]; assumption
    · cases e
  · refine ⟨_, PSs.nox (body cdv A outer s H E hg hr), ?_⟩
    obtain ⟨sk, G, ds, s1, d, s', w1, p, e, k1⟩ := h
    unfold fnL at e
    split at e
    · rename_i hl
      have lv : vs.length = ps.length := by rw [Paired.length p]; exact hl
      have r : SR K sk G H G H (L2.start N vs) (startE N.length ds) s1 := by
        refine ⟨w1, ⟨?_, fun i d h => ?_, fun i es h => ?_, fun i j es fs a n h1 h2 h3 => ?_⟩, .refl, fun i es a h1 h2 => ?_⟩
        · unfold L2.start startE; simp [Paired.length p]
        · obtain ⟨d', e1, e2⟩ := startE_get h
          cases e1
          obtain ⟨v, h1, h2⟩ := Paired.get p e2
          exact ⟨v, start_get h1, h2⟩
        · obtain ⟨d', e1, e2⟩ := startE_get h; cases e1
        · obtain ⟨d', e1, e2⟩ := startE_get h1; cases e1
        · obtain ⟨d', e1, e2⟩ := startE_get h1; cases e1
      split at e
      · rename_i d' s2 e1
        cases e
        exact ⟨sk, G, H, G, _, s1, _, _, r, e1, fun p vs G' H' w' x hp np hl gp dl => k1 p vs G' H' w' x hp np hl gp dl⟩
      · cases e
    · cases e
section
variable {X : Cx} {pos : Pos}
def mFL (F : FnL) (a : M (List D)) : M (List D) := fun ρ s => match a ρ s with
  | some (ds, s1) => F ds s1
  | none => none
theorem P.callL {k : Nat} {f : Addr} {fd : FuncData} {ps : List Str} {x : Str} {p : Pos} {e : Expr} {es : List Expr} {F : FnL} {fa : M (List D)} (hF : FnG X.prog X.w X.K X.mg X.base CX0 k f fd ps (spL X.K F)) (hgd : X.A.guards = some []) (hr : Room k X.A) (hg : Gl X x) (hm : X.mg x = some (.ref f)) (hk : PySem.W.keepIn X.K (.ref f) = true) (hb : Binds X.K fd ps [])
    (ha : PA X (e :: es) (tA X.K fa)) (hdb : (x == ("__debug__" : Str)) = false := by decide) (he : starEach (e :: es) X.env = (false, eval e X.env) :: starEach es X.env := by rfl) (hpl : (backTo pos (starEach es X.env)).any (·.1) = false := by rfl) :
    PE X (.Call (.Name x p) (e :: es) [] pos) (tL X.K (mFL F fa)) := by
  refine peI (pe_callG hF hgd hr hg hm hk hb ha hdb he hpl) fun σ H Q ⟨sk, G, ρ, s, d, s', w, r, e, k⟩ => ?_
  unfold mFL at e
  split at e
  · rename_i ds s1 e1
    refine ⟨sk, G, ρ, s, ds, s1, w, r, e1, fun vs G1 H1 w1 x1 p1 => ?_⟩
    show spL X.K F (vs ++ []) H1 Q E0
    rw [List.append_nil]
    exact ⟨sk, G1, ds, s1, d, s', w1, p1, e, fun p xs G2 H2 w2 x2 hp np hl gp dl => k p xs G2 H2 w2 (x1.trans x2) (x1.th p hp) np hl gp dl⟩
  · cases e
/-- f(new list), the new list being the sack -/
def mSack (F : Fn) (a : M (List D)) : M D := fun ρ s => match a ρ s with
  | some (ks, s1) => (match F [SACK] ks with
    | some (d, _) => if isD d = true then some (d, s1) else none
    | none => none)
  | none => none
theorem P.callS {k : Nat} {f : Addr} {fd : FuncData} {ps : List Str} {x : Str} {p : Pos} {e : Expr} {F : Fn} {fa : M (List D)} (hF : FnG X.prog X.w X.K X.mg X.base CX0 k f fd ps (spF X.K F)) (hgd : X.A.guards = some []) (hr : Room k X.A) (hg : Gl X x) (hm : X.mg x = some (.ref f)) (hk : PySem.W.keepIn X.K (.ref f) = true) (hb : Binds X.K fd ps [])
    (ha : PE X e (tL X.K fa)) (hdb : (x == ("__debug__" : Str)) = false := by decide) (he : starEach [e] X.env = (false, eval e X.env) :: starEach [] X.env := by rfl) (hpl : (backTo pos (starEach [] X.env)).any (·.1) = false := by rfl) :
    PE X (.Call (.Name x p) [e] [] pos) (tP X.K (mSack F fa)) := by
  refine peI (pe_callG hF hgd hr hg hm hk hb (pa_cons ha pa_nil he) hdb he hpl) fun σ H Q ⟨sk, G, ρ, s, d, s', w, r, e, k⟩ => ?_
  unfold mSack at e
  split at e
  · rename_i ks s1 e1
    split at e
    · rename_i d' s3 e3
      split at e
      · rename_i hd
        cases e
        refine ⟨sk, G, ρ, s, ks, _, w, r, e1, fun q vs G1 H1 w1 x1 hp np hl gp dl => ?_⟩
        refine ⟨some q, G1, [SACK], ks, d, s3, ⟨w1.sub, fun a ea => ?_⟩, .cons (.inr ⟨rfl, q, rfl, rfl⟩) .nil, e3, fun v G2 H2 w2 x2 qv => ?_⟩
        · cases ea
          exact ⟨gp, vs, hl, dl⟩
        · refine k v G2 H2 ⟨w2.sub, fun a ea => ?_⟩ ⟨x1.gs.trans x2.gs, fun a o h n => ?_, fun a o h => ?_, fun a h => x1.th a (x2.th a h)⟩ (.inl (qv.dp hd))
          · obtain ⟨gn, ws, h6, h7⟩ := w1.sack a ea
            have hne : some q ≠ some a := fun z => np (by rw [ea]; exact z.symm)
            exact ⟨x2.free h6 gn, ws, x2.hs a _ h6 hne, DpAll.up x2.gs _ _ h7⟩
          · refine x2.hs a o (x1.hs a o h n) fun z => ?_
            cases z
            rw [hp] at h; cases h
          · rcases x2.nw a o h with z | z
            · exact x1.nw a o z
            · exact .inr (x1.th a z)
      · cases e
    · cases e
  · cases e
end
end PL
namespace PL
open PySem PySem.Spec PyProof.Rows L2
theorem isD_up {K : PySem.W.Frag} {sk : Option Addr} {G H : Hp} {v : V} {d : D} (l : Le G H) (h : Dq K sk G v d) (n : isD d = true) : Dp K H v d := Dp.up l _ _ (h.dp n)
/-! ### operators -/
def dAdd : D → D → Option D
  | .int i, .int j => some (.int (i + j))
  | .tuple a, .tuple b => if a.length + b.length ≤ sizeLine then some (.tuple (a ++ b)) else none
  | .list a, .list b => if a.length + b.length ≤ sizeLine then some (.list (a ++ b)) else none
  | .str x, .str y => if x.length + y.length ≤ sizeLine then some (.str (x ++ y)) else none
  | _, _ => none
def dSub : D → D → Option D
  | .int i, .int j => some (.int (i - j))
  | _, _ => none
def dMul : D → D → Option D
  | .int i, .int j => if i.natAbs.log2 + j.natAbs.log2 < 1000000 then some (.int (i * j)) else none
  | _, _ => none
def dDiv : D → D → Option D
  | .int i, .int j => if 0 < j ∧ j.natAbs.log2 < 9000 then some (.int (i / j)) else none
  | _, _ => none
def dMod : D → D → Option D
  | .int i, .int j => if 0 < j then some (.int (i % j)) else none
  | _, _ => none
def dPow : D → D → Option D
  | .int i, .int j => if 0 ≤ j ∧ j ≤ 1000000 ∧ i.natAbs < 2 ^ 64 then some (.int (i ^ j.toNat)) else none
  | _, _ => none
def dShl : D → D → Option D
  | .int i, .int j => if 0 ≤ j ∧ j ≤ 1000000 ∧ i.natAbs < 2 ^ 64 then some (.int (i * 2 ^ j.toNat)) else none
  | _, _ => none
def dNeg : D → Option D
  | .int i => some (.int (-i))
  | _ => none
def dCmp (p : Int → Int → Bool) : D → D → Option D
  | .int i, .int j => some (.bool (p i j))
  | _, _ => none
def okEq (d : D) : Bool := d.plain && decide (d.depth ≤ 64)
def dEq : D → D → Option D := fun a b => if okEq a = true ∧ okEq b = true then some (.bool (PyData.eqv a b)) else none
def dNe : D → D → Option D := fun a b => if okEq a = true ∧ okEq b = true then some (.bool (!PyData.eqv a b)) else none
theorem okEq_isD {d : D} (h : okEq d = true) : isD d = true := by
  cases d <;> first | rfl | cases h
theorem okEq_plain {d : D} (h : okEq d = true) : d.plain = true := (Bool.and_eq_true_iff.mp h).1
theorem okEq_depth {d : D} (h : okEq d = true) : d.depth ≤ 64 := of_decide_eq_true (Bool.and_eq_true_iff.mp h).2
def rEqP (K : PySem.W.Frag) : R2 := fun x y H Q => ∃ d e, Dp K H x d ∧ Dp K H y e ∧ okEq d = true ∧ okEq e = true ∧ Q (.bl (PyData.eqv d e)) H
def rNeP (K : PySem.W.Frag) : R2 := fun x y H Q => ∃ d e, Dp K H x d ∧ Dp K H y e ∧ okEq d = true ∧ okEq e = true ∧ Q (.bl (!PyData.eqv d e)) H
theorem op_eqP {X : Cx} (hu : X.A.units + 64 < cLine) : OpR X (compareOp .Eq) (rEqP X.K) := by
  intro pins s σ H x y v u Q I rx ry h
  obtain ⟨d, e, hd, he, sd, se, q⟩ := h
  obtain ⟨as, r1⟩ := Dp.reads I d x v hd rx
  obtain ⟨bs, r2⟩ := Dp.reads I e y u he ry
  have h1 := okEq_depth sd
  have h2 : min d.depth e.depth ≤ d.depth := Nat.min_le_left _ _
  exact SeqAt.eq_plain r1 r2 (okEq_plain sd) (okEq_plain se) (by omega) ⟨.bl _, H, I, rfl, q⟩
theorem op_neP {X : Cx} (hu : X.A.units + 64 < cLine) : OpR X (compareOp .NotEq) (rNeP X.K) := by
  intro pins s σ H x y v u Q I rx ry h
  obtain ⟨d, e, hd, he, sd, se, q⟩ := h
  obtain ⟨as, r1⟩ := Dp.reads I d x v hd rx
  obtain ⟨bs, r2⟩ := Dp.reads I e y u he ry
  have h1 := okEq_depth sd
  have h2 : min d.depth e.depth ≤ d.depth := Nat.min_le_left _ _
  exact SeqAt.ne_plain r1 r2 (okEq_plain sd) (okEq_plain se) (by omega) ⟨.bl _, H, I, rfl, q⟩
/-- x in a row of data -/
def inOf : D → Option (List D)
  | .list ds => some ds
  | .tuple ds => some ds
  | _ => none
def rInP (K : PySem.W.Frag) : R2 := fun x y H Q => ∃ d e ds, Dp K H x d ∧ Dp K H y e ∧ inOf e = some ds ∧ okEq d = true ∧ PyData.plainAll ds = true ∧ Q (.bl (ds.any fun z => PyData.eqv z d)) H
def rNotInP (K : PySem.W.Frag) : R2 := fun x y H Q => ∃ d e ds, Dp K H x d ∧ Dp K H y e ∧ inOf e = some ds ∧ okEq d = true ∧ PyData.plainAll ds = true ∧ Q (.bl (!ds.any fun z => PyData.eqv z d)) H
theorem op_inP {X : Cx} (hu : X.A.units + 65 < cLine) : OpR X (compareOp .In) (rInP X.K) := by
  intro pins s σ H x y v u Q I rx ry h
  obtain ⟨d, e, ds, hd, he, hs, sd, se, q⟩ := h
  obtain ⟨as, r1⟩ := Dp.reads I d x v hd rx
  obtain ⟨bs, r2⟩ := Dp.reads I e y u he ry
  have h1 := okEq_depth sd
  have h2 : min (PyData.depthAll ds) d.depth ≤ d.depth := Nat.min_le_right _ _
  unfold inOf at hs
  split at hs
  · cases hs; exact SeqAt.in_list_data r2 r1 se (okEq_plain sd) (by omega) ⟨.bl _, H, I, rfl, q⟩
  · cases hs; exact SeqAt.in_tuple_data r2 r1 se (okEq_plain sd) (by omega) ⟨.bl _, H, I, rfl, q⟩
  · cases hs
theorem op_notInP {X : Cx} (hu : X.A.units + 65 < cLine) : OpR X (compareOp .NotIn) (rNotInP X.K) := by
  intro pins s σ H x y v u Q I rx ry h
  obtain ⟨d, e, ds, hd, he, hs, sd, se, q⟩ := h
  obtain ⟨as, r1⟩ := Dp.reads I d x v hd rx
  obtain ⟨bs, r2⟩ := Dp.reads I e y u he ry
  have h1 := okEq_depth sd
  have h2 : min (PyData.depthAll ds) d.depth ≤ d.depth := Nat.min_le_right _ _
  unfold inOf at hs
  split at hs
  · cases hs; exact SeqAt.notIn_list_data r2 r1 se (okEq_plain sd) (by omega) ⟨.bl _, H, I, rfl, q⟩
  · cases hs; exact SeqAt.notIn_tuple_data r2 r1 se (okEq_plain sd) (by omega) ⟨.bl _, H, I, rfl, q⟩
  · cases hs
def isNone : D → Bool
  | .none => true
  | _ => false
def dIsN : D → D → Option D
  | a, .none => if isD a = true then some (.bool (isNone a)) else none
  | _, _ => none
def dNotN : D → D → Option D
  | a, .none => if isD a = true then some (.bool (!isNone a)) else none
  | _, _ => none
def dIsB : D → D → Option D
  | .bool a, .bool b => some (.bool (decide (a = b)))
  | _, _ => none
def dIsNB : D → D → Option D
  | .bool a, .bool b => some (.bool (!decide (a = b)))
  | _, _ => none
section
variable {X : Cx}
theorem w2_I0 {K : PySem.W.Frag} {g : Int → Int → V} {f : D → D → Option D} (hf : ∀ a b d, f a b = some d → ∃ i j, a = .int i ∧ b = .int j ∧ ∀ G, Dp K G (g i j) d) : W2 K (rI0 g) f := fun x y a b d sk G H Q l ha hb e k => by
  obtain ⟨i, j, rfl, rfl, h⟩ := hf a b d e
  exact ⟨i, j, Dp.int_of ha, Dp.int_of hb, k _ G H (.refl l) (h G)⟩
theorem w2_I {K : PySem.W.Frag} {C : Int → Int → Prop} {g : Int → Int → V} {f : D → D → Option D} (hf : ∀ a b d, f a b = some d → ∃ i j, a = .int i ∧ b = .int j ∧ C i j ∧ ∀ G, Dp K G (g i j) d) : W2 K (rI C g) f := fun x y a b d sk G H Q l ha hb e k => by
  obtain ⟨i, j, rfl, rfl, c, h⟩ := hf a b d e
  exact ⟨i, j, Dp.int_of ha, Dp.int_of hb, c, k _ G H (.refl l) (h G)⟩
theorem w2_cmp {K : PySem.W.Frag} {p : Int → Int → Bool} : W2 K (rI0 fun i j => .bl (p i j)) (dCmp p) := w2_I0 fun a b d e => by
  unfold dCmp at e
  split at e
  · cases e; exact ⟨_, _, rfl, rfl, fun G => .bl _⟩
  · cases e
theorem w_sub {K : PySem.W.Frag} : W2 K (rI0 fun i j => .int (i - j)) dSub := w2_I0 fun a b d e => by
  unfold dSub at e
  split at e
  · cases e; exact ⟨_, _, rfl, rfl, fun G => .int _⟩
  · cases e
theorem w_mul {K : PySem.W.Frag} : W2 K (rI CMulW fun i j => .int (i * j)) dMul := w2_I fun a b d e => by
  unfold dMul at e
  split at e
  · split at e
    · rename_i h; cases e; exact ⟨_, _, rfl, rfl, h, fun G => .int _⟩
    · cases e
  · cases e
theorem w_div {K : PySem.W.Frag} : W2 K (rI CDivW fun i j => .int (i / j)) dDiv := w2_I fun a b d e => by
  unfold dDiv at e
  split at e
  · split at e
    · rename_i h; cases e; exact ⟨_, _, rfl, rfl, h, fun G => .int _⟩
    · cases e
  · cases e
theorem w_mod {K : PySem.W.Frag} : W2 K (rI (fun _ j => 0 < j) fun i j => .int (i % j)) dMod := w2_I fun a b d e => by
  unfold dMod at e
  split at e
  · split at e
    · rename_i h; cases e; exact ⟨_, _, rfl, rfl, h, fun G => .int _⟩
    · cases e
  · cases e
theorem w_pow {K : PySem.W.Frag} : W2 K (rI CPow fun i j => .int (i ^ j.toNat)) dPow := w2_I fun a b d e => by
  unfold dPow at e
  split at e
  · split at e
    · rename_i h; cases e; exact ⟨_, _, rfl, rfl, h, fun G => .int _⟩
    · cases e
  · cases e
theorem w_shl {K : PySem.W.Frag} : W2 K (rI CPow fun i j => .int (i * 2 ^ j.toNat)) dShl := w2_I fun a b d e => by
  unfold dShl at e
  split at e
  · split at e
    · rename_i h; cases e; exact ⟨_, _, rfl, rfl, h, fun G => .int _⟩
    · cases e
  · cases e
theorem w_neg {K : PySem.W.Frag} : W1 K (rU fun i => .int (-i)) dNeg := fun x a d sk G H Q l ha e k => by
  unfold dNeg at e
  split at e
  · cases e; exact ⟨_, Dp.int_of ha, k _ G H (.refl l) (.int _)⟩
  · cases e
theorem w_eq {K : PySem.W.Frag} : W2 K (rEqP K) dEq := fun x y a b d sk G H Q l ha hb e k => by
  unfold dEq at e
  split at e
  · rename_i h
    cases e
    exact ⟨a, b, isD_up l ha (okEq_isD h.1), isD_up l hb (okEq_isD h.2), h.1, h.2, k _ G H (.refl l) (.bl _)⟩
  · cases e
theorem w_ne {K : PySem.W.Frag} : W2 K (rNeP K) dNe := fun x y a b d sk G H Q l ha hb e k => by
  unfold dNe at e
  split at e
  · rename_i h
    cases e
    exact ⟨a, b, isD_up l ha (okEq_isD h.1), isD_up l hb (okEq_isD h.2), h.1, h.2, k _ G H (.refl l) (.bl _)⟩
  · cases e
theorem isNone_eq {K : PySem.W.Frag} {sk : Option Addr} {G : Hp} {x : V} {a : D} (h : Dq K sk G x a) (n : isD a = true) : decide (x = .non) = isNone a := by
  have h' := h.dp n
  cases h' <;> first | rfl | exact decide_eq_false (by intro e; cases e)
theorem w_isN {K : PySem.W.Frag} : W2 K (fun x y H Q => y = .non ∧ Q (.bl (decide (x = .non))) H) dIsN := fun x y a b d sk G H Q l ha hb e k => by
  unfold dIsN at e
  split at e
  · split at e
    · rename_i h
      cases e
      have hb' := hb.dp rfl
      cases hb'
      rw [isNone_eq ha h]
      exact ⟨rfl, k _ G H (.refl l) (.bl _)⟩
    · cases e
  · cases e
theorem w_notN {K : PySem.W.Frag} : W2 K (fun x y H Q => y = .non ∧ Q (.bl (!decide (x = .non))) H) dNotN := fun x y a b d sk G H Q l ha hb e k => by
  unfold dNotN at e
  split at e
  · split at e
    · rename_i h
      cases e
      have hb' := hb.dp rfl
      cases hb'
      rw [isNone_eq ha h]
      exact ⟨rfl, k _ G H (.refl l) (.bl _)⟩
    · cases e
  · cases e
theorem w_isB {K : PySem.W.Frag} : W2 K (fun x y H Q => ∃ a b, x = .bl a ∧ y = .bl b ∧ Q (.bl (decide (a = b))) H) dIsB := fun x y a b d sk G H Q l ha hb e k => by
  unfold dIsB at e
  split at e
  · cases e
    exact ⟨_, _, Dp.bl_of ha, Dp.bl_of hb, k _ G H (.refl l) (.bl _)⟩
  · cases e
theorem w_isNB {K : PySem.W.Frag} : W2 K (fun x y H Q => ∃ a b, x = .bl a ∧ y = .bl b ∧ Q (.bl (!decide (a = b))) H) dIsNB := fun x y a b d sk G H Q l ha hb e k => by
  unfold dIsNB at e
  split at e
  · cases e
    exact ⟨_, _, Dp.bl_of ha, Dp.bl_of hb, k _ G H (.refl l) (.bl _)⟩
  · cases e
/-- list + list, each of them any that is read -/
def rCatL (K : PySem.W.Frag) : R2 := fun x y H Q => ∃ l b xs zs, x = .ref l ∧ y = .ref b ∧ SqL K H l xs ∧ SqL K H b zs ∧ xs.length + zs.length ≤ sizeLine ∧ ∀ p, H p = none → Q (.ref p) (upd H p (.lst (xs ++ zs)))
theorem op_catL : OpR X (binaryOp .Add) (rCatL X.K) := by
  intro pins s σ H x y v u Q I rx ry h
  obtain ⟨l, b, xs, zs, rfl, rfl, hH, hB, hz, q⟩ := h
  cases rx
  cases ry
  obtain ⟨its, r, ⟨⟨c1, d1, dt1, sl1⟩, n, e, hc, hd, hdt⟩, _⟩ := I.list hH
  obtain ⟨its2, r2, ⟨⟨c2, d2, dt2, sl2⟩, n2, e2, hc2, hd2, hdt2⟩, _⟩ := I.list hB
  simp only at hc hd hdt hc2 hd2 hdt2
  subst hc hd hdt hc2 hd2 hdt2
  have ee : its.toArray ++ its2.toArray = (its ++ its2).toArray := by simp
  have hsz : its.toArray.size + its2.toArray.size ≤ sizeLine := by rw [List.size_toArray, List.size_toArray, ← r.length, ← r2.length]; exact hz
  refine concat_meets ⟨_, e, rfl⟩ ⟨_, e2, rfl⟩ noFill_list_add seq_list_add PySem.F.slot_list_add PySem.F.entry_list_add (PySem.F.args_list_add_2 _ _) (list_addW l b its.toArray its2.toArray n n2 _ _ sl1 sl2 hsz) ⟨e, e2, ?_⟩
  rw [ee]
  exact ⟨.ref _, _, I.lnew (t' := s.toks) (r.append r2) (by rw [List.length_append]; omega), rfl, q _ I.fresh⟩
def rAdd2 (K : PySem.W.Frag) : R2 := fun x y H Q => rI0 (fun i j => .int (i + j)) x y H Q ∨ rCatA K x y H Q ∨ rCatL K x y H Q ∨ (∃ i j, x = .str i ∧ y = .str j ∧ i.length + j.length ≤ sizeLine ∧ Q (.str (i ++ j)) H)
theorem op_addA : OpR X (binaryOp .Add) (rAdd2 X.K) := OpR.or op_add (OpR.or op_catA (OpR.or op_catL op_add_str))
theorem DpAll.nil_iff {K : PySem.W.Frag} {G : Hp} {vs : List V} {ds : List D} (h : DpAll K G vs ds) : vs = [] ↔ ds = [] := by cases h <;> simp
theorem w_add {K : PySem.W.Frag} : W2 K (rAdd2 K) dAdd := fun x y a b d sk G H Q l ha hb e k => by
  unfold dAdd at e
  split at e
  · cases e
    exact .inl ⟨_, _, Dp.int_of ha, Dp.int_of hb, k _ G H (.refl l) (.int _)⟩
  · split at e
    · rename_i hz
      cases e
      obtain ⟨p, xs, rfl, h1, h2⟩ := Dp.tup_of ha
      obtain ⟨q, ys, rfl, h3, h4⟩ := Dp.tup_of hb
      refine .inr (.inl ⟨p, q, xs, ys, rfl, rfl, SqT.up l h1, SqT.up l h3, by rw [DpAll.length h2, DpAll.length h4]; exact hz, fun z => ?_, fun z1 z2 => ?_, fun z1 z2 r hr => ?_⟩)
      · rw [(DpAll.nil_iff h2).mp z] at k
        exact k _ G H (.refl l) (.tup h3 (by simpa using h4))
      · rw [(DpAll.nil_iff h4).mp z2] at k
        exact k _ G H (.refl l) (.tup h1 (by simpa using h2))
      · have g := Grow.new l hr (.tup (xs ++ ys))
        exact k _ _ _ g (.tup (SqT.of upd_same) (DpAll.up g.gs _ _ (DpAll.app h2 h4)))
    · cases e
  · split at e
    · rename_i hz
      cases e
      obtain ⟨p, xs, rfl, h1, h2⟩ := Dp.lst_of ha
      obtain ⟨q, ys, rfl, h3, h4⟩ := Dp.lst_of hb
      refine .inr (.inr (.inl ⟨p, q, xs, ys, rfl, rfl, SqL.up l h1, SqL.up l h3, by rw [DpAll.length h2, DpAll.length h4]; exact hz, fun r hr => ?_⟩))
      have g := Grow.new l hr (.lst (xs ++ ys))
      exact k _ _ _ g (.lst (SqL.of upd_same) (DpAll.up g.gs _ _ (DpAll.app h2 h4)))
    · cases e
  · split at e
    · rename_i hz
      cases e
      exact .inr (.inr (.inr ⟨_, _, Dp.str_of ha, Dp.str_of hb, hz, k _ G H (.refl l) (.str _)⟩))
    · cases e
  · cases e
/-! ### items, slices -/
def dIx : D → D → Option D
  | .list xs, .int i => atI xs i
  | .tuple xs, .int i => atI xs i
  | .str z, .int i => if z.length ≤ sizeLine then (match atI z.cps.toList i with
    | some c => some (.str ⟨#[c]⟩)
    | none => none) else none
  | _, _ => none
theorem w_ix {K : PySem.W.Frag} : W2 K (rIx K) dIx := fun x y a b d sk G H Q l ha hb e k => by
  unfold dIx at e
  split at e
  · obtain ⟨p, xs, rfl, h1, h2⟩ := Dp.lst_of ha
    obtain ⟨v, h3, h4⟩ := DpAll.atI h2 e
    exact .inl ⟨p, xs, _, v, rfl, Dp.int_of hb, SqL.up l h1, h3, k v G H (.refl l) h4⟩
  · obtain ⟨p, xs, rfl, h1, h2⟩ := Dp.tup_of ha
    obtain ⟨v, h3, h4⟩ := DpAll.atI h2 e
    exact .inr (.inl ⟨p, xs, _, v, rfl, Dp.int_of hb, SqT.up l h1, h3, k v G H (.refl l) h4⟩)
  · split at e
    · rename_i hz
      split at e
      · rename_i c hc
        cases e
        exact .inr (.inr ⟨_, _, c, Dp.str_of ha, Dp.int_of hb, hz, hc, k _ G H (.refl l) (.str _)⟩)
      · cases e
    · cases e
  · cases e
def cutD (xs : List D) (lo hi : Option Int) : List D := (xs.drop (HT.sIx xs.length 0 lo)).take (HT.sIx xs.length xs.length hi - HT.sIx xs.length 0 lo)
theorem DpAll.cut {K : PySem.W.Frag} {G : Hp} {vs : List V} {ds : List D} (h : DpAll K G vs ds) (lo hi : Option Int) : DpAll K G (cutV vs lo hi) (cutD ds lo hi) := by
  unfold cutV cutD
  rw [DpAll.length h]
  exact DpAll.take _ (DpAll.drop _ h)
/-! slices -/
def lOf (x : Option (List D)) : Option (List D) := x
abbrev MO := M (Option Int)
def tOo (K : PySem.W.Frag) (F : MO) : TO := fun σ H Q => ∃ sk G ρ s b s', Vw K sk G H s ∧ ER K sk G H σ ρ ∧ F ρ s = some (b, s') ∧ ∀ G' H', Vw K sk G' H' s' → Ex sk G H G' H' → Q b H'
def oNo : MO := fun _ s => some (none, s)
def oSome (a : M D) : MO := mThen a fun x => mLift (match x with
  | .int i => some (some i)
  | _ => none)
theorem poI {e : Option Expr} {t t' : TO} (h : PO X e t) (i : ∀ σ H Q, t' σ H Q → t σ H Q) : PO X e t' := ⟨fun pins s σ H Q I w => h.run pins s σ H Q I (i _ _ _ w)⟩
theorem P.ono : PO X none (tOo X.K oNo) := poI po_none fun σ H Q ⟨sk, G, ρ, s, b, s', w, r, e, k⟩ => by
  cases e
  exact k G H w .refl
theorem P.osome {e : Expr} {f : M D} (h : PE X e (tP X.K f)) : PO X (some e) (tOo X.K (oSome f)) := poI (po_some h) fun σ H Q ⟨sk, G, ρ, s, b, s', w, r, e, k⟩ => by
  obtain ⟨a, s1, q1, q⟩ := mThen_some e
  obtain ⟨q2, rfl⟩ := mLift_some q
  split at q2
  · cases q2
    exact P.then w r q1 fun v G' H' w' x r' q => ⟨_, Dp.int_of q, k G' H' w' x⟩
  · cases q2
def dSl : D → Option Int → Option Int → Option D
  | .list xs, lo, hi => some (.list (cutD xs lo hi))
  | .tuple xs, lo, hi => some (.tuple (cutD xs lo hi))
  | _, _, _ => none
def mSl (a : M D) (lo hi : MO) : M D := mThen a fun x => mThen lo fun l => mThen hi fun h => mLift (dSl x l h)
theorem cut_all (xs : List V) (lo hi : Option Int) (h : HT.sIx xs.length 0 lo = 0 ∧ HT.sIx xs.length xs.length hi = xs.length) : cutV xs lo hi = xs := by
  unfold cutV
  rw [h.1, h.2]
  simp
theorem P.sl {e : Expr} {lo hi : Option Expr} {f : M D} {fl fh : MO} {p2 pos : Pos} (he : PE X e (tP X.K f)) (hl : PO X lo (tOo X.K fl)) (hu : PO X hi (tOo X.K fh)) : PE X (.Subscript e (.Slice lo hi none p2) pos) (tP X.K (mSl f fl fh)) := by
  refine peI (pe_slice (SlR.or sl_list sl_tupA) he hl hu) fun σ H Q ⟨sk, G, ρ, s, d, s', w, r, e, k⟩ => ?_
  obtain ⟨a, s1, q1, q⟩ := mThen_some e
  obtain ⟨l, s2, q2, q⟩ := mThen_some q
  obtain ⟨u, s3, q3, q⟩ := mThen_some q
  obtain ⟨q4, rfl⟩ := mLift_some q
  refine P.then w r q1 fun v G1 H1 w1 x1 r1 qv => ?_
  refine ⟨sk, G1, ρ, s1, l, s2, w1, r1, q2, fun G2 H2 w2 x2 => ?_⟩
  refine ⟨sk, G2, ρ, s2, u, s', w2, r1.ex x2, q3, fun G3 H3 w3 x3 => ?_⟩
  have x := x2.trans x3
  unfold dSl at q4
  split at q4
  · cases q4
    obtain ⟨p, xs, rfl, h1, h2⟩ := Dp.lst_of qv
    refine .inl ⟨p, xs, rfl, SqL.up w3.sub (SqL.up x.gs h1), fun q hq => ?_⟩
    have g := Grow.new w3.sub hq (.lst (cutV xs l u))
    exact k _ _ _ (g.vw w3) ((x1.trans x).trans (g.ex sk)) (.inl (.lst (SqL.of upd_same) (DpAll.up (x.gs.trans g.gs) _ _ (DpAll.cut h2 l u))))
  · cases q4
    obtain ⟨p, xs, rfl, h1, h2⟩ := Dp.tup_of qv
    refine .inr ⟨p, xs, rfl, SqT.up w3.sub (SqT.up x.gs h1), fun z => ?_, fun z q hq => ?_⟩
    · have c := DpAll.cut h2 l u
      rw [cut_all xs l u z] at c
      exact k _ _ _ w3 (x1.trans x) (.inl (.tup (SqT.up x.gs h1) (DpAll.up x.gs _ _ c)))
    · have g := Grow.new w3.sub hq (.tup (cutV xs l u))
      exact k _ _ _ (g.vw w3) ((x1.trans x).trans (g.ex sk)) (.inl (.tup (SqT.of upd_same) (DpAll.up (x.gs.trans g.gs) _ _ (DpAll.cut h2 l u))))
  · cases q4
/-! displays -/
def isDs (ds : List D) : Bool := ds.all isD
def mTup (a : M (List D)) : M D := mThen a fun ds => mLift (if ds.length ≤ sizeLine ∧ isDs ds = true then some (.tuple ds) else none)
theorem dall_of {K : PySem.W.Frag} {sk : Option Addr} {G : Hp} : ∀ {vs : List V} {ds : List D}, Paired (Dq K sk G) vs ds → isDs ds = true → DpAll K G vs ds
  | _, _, .nil, _ => .nil
  | _, _, .cons h t, e => by
    unfold isDs at e
    rw [List.all_cons, Bool.and_eq_true] at e
    exact .cons (h.dp e.1) (dall_of t e.2)
theorem P.tup {es : List Expr} {f : M (List D)} {x1} {pos : Pos} (h : PA X es (tA X.K f)) : PE X (.Tuple es x1 pos) (tP X.K (mTup f)) :=
  peI (pe_tup h) fun σ H Q ⟨sk, G, ρ, s, d, s', w, r, e, k⟩ => by
    obtain ⟨ds, s1, q1, q⟩ := mThen_some e
    obtain ⟨q2, rfl⟩ := mLift_some q
    split at q2
    · rename_i hc
      cases q2
      refine ⟨sk, G, ρ, s, ds, s', w, r, q1, fun vs G' H' w' x ps => ?_⟩
      have dl := dall_of ps hc.2
      refine ⟨by rw [DpAll.length dl]; exact hc.1, fun p hp => ?_⟩
      have g := Grow.new w'.sub hp (.tup vs)
      exact k _ _ _ (g.vw w') (x.trans (g.ex sk)) (.inl (.tup (SqT.of upd_same) (DpAll.up g.gs _ _ dl)))
    · cases q2
def mLst (a : M (List D)) : M (List D) := mThen a fun ds => mLift (if ds.length ≤ sizeLine ∧ isDs ds = true then some ds else none)
theorem P.list {es : List Expr} {f : M (List D)} {pos : Pos} (h : PA X es (tA X.K f)) : PE X (.List es pos) (tL X.K (mLst f)) := by
  have h2 : PA X es (tA X.K (mLst f)) := paI h fun σ H Q ⟨sk, G, ρ, s, d, s', w, r, e, k⟩ => by
    obtain ⟨ds, s1, q1, q⟩ := mThen_some e
    obtain ⟨q2, rfl⟩ := mLift_some q
    split at q2
    · cases q2
      exact ⟨sk, G, ρ, s, _, s', w, r, q1, k⟩
    · cases q2
  refine P.lst h2 (fun ρ s ds s' e => ?_) fun ρ s ds s' e => ?_
  · obtain ⟨ds1, s1, q1, q⟩ := mThen_some e
    obtain ⟨q2, rfl⟩ := mLift_some q
    split at q2
    · rename_i hc; cases q2; exact hc.1
    · cases q2
  · obtain ⟨ds1, s1, q1, q⟩ := mThen_some e
    obtain ⟨q2, rfl⟩ := mLift_some q
    split at q2
    · rename_i hc; cases q2; exact hc.2
    · cases q2
/-! ### built-ins -/
def bLen : List D → Option D
  | [.list xs] => some (.int xs.length)
  | [.tuple xs] => some (.int xs.length)
  | [.str z] => if z.length ≤ sizeLine then some (.int z.length) else none
  | _ => none
def rLen (K : PySem.W.Frag) : List V → Hp → VK → Prop := fun xs H Q => (∃ p ys, xs = [.ref p] ∧ (SqL K H p ys ∨ SqT K H p ys) ∧ Q (.int ys.length) H) ∨ (∃ z, xs = [.str z] ∧ z.length ≤ sizeLine ∧ Q (.int z.length) H)
theorem call_lenA : CallR X (.builtin "len") (rLen X.K) := CallR.or call_len_seq call_len_str
theorem one_of {α β : Type} {R : α → β → Prop} {xs : List α} {y : β} (h : Paired R xs [y]) : ∃ x, xs = [x] ∧ R x y := by
  cases h with
  | cons a t => cases t; exact ⟨_, rfl, a⟩
theorem two_of {α β : Type} {R : α → β → Prop} {xs : List α} {y z : β} (h : Paired R xs [y, z]) : ∃ x u, xs = [x, u] ∧ R x y ∧ R u z := by
  cases h with
  | cons a t =>
    obtain ⟨u, rfl, b⟩ := one_of t
    exact ⟨_, _, rfl, a, b⟩
theorem three_of {α β : Type} {R : α → β → Prop} {xs : List α} {y z q : β} (h : Paired R xs [y, z, q]) : ∃ x u v, xs = [x, u, v] ∧ R x y ∧ R u z ∧ R v q := by
  cases h with
  | cons a t =>
    obtain ⟨u, v, rfl, b, c⟩ := two_of t
    exact ⟨_, _, _, rfl, a, b, c⟩
theorem w_len {K : PySem.W.Frag} : WC K (rLen K) bLen := fun xs as d sk G H Q l ps e k => by
  unfold bLen at e
  split at e
  · cases e
    obtain ⟨x, rfl, h⟩ := one_of ps
    obtain ⟨p, ys, rfl, h1, h2⟩ := Dp.lst_of h
    rw [← DpAll.length h2] at k
    exact .inl ⟨p, ys, rfl, .inl (SqL.up l h1), k _ G H (.refl l) (.int _)⟩
  · cases e
    obtain ⟨x, rfl, h⟩ := one_of ps
    obtain ⟨p, ys, rfl, h1, h2⟩ := Dp.tup_of h
    rw [← DpAll.length h2] at k
    exact .inl ⟨p, ys, rfl, .inr (SqT.up l h1), k _ G H (.refl l) (.int _)⟩
  · split at e
    · rename_i hz
      cases e
      obtain ⟨x, rfl, h⟩ := one_of ps
      exact .inr ⟨_, by rw [Dp.str_of h], hz, k _ G H (.refl l) (.int _)⟩
    · cases e
  · cases e
def bAbs : List D → Option D
  | [.int i] => some (.int (if i < 0 then -i else i))
  | _ => none
theorem w_abs {K : PySem.W.Frag} : WC K (fun xs H Q => ∃ i, xs = [.int i] ∧ Q (.int (if i < 0 then -i else i)) H) bAbs := fun xs as d sk G H Q l ps e k => by
  unfold bAbs at e
  split at e
  · cases e
    obtain ⟨x, rfl, h⟩ := one_of ps
    exact ⟨_, by rw [Dp.int_of h], k _ G H (.refl l) (.int _)⟩
  · cases e
def bInt : List D → Option D
  | [.int i] => some (.int i)
  | [.bool k] => some (.int (if k then 1 else 0))
  | _ => none
theorem w_int {K : PySem.W.Frag} : WC K (fun xs H Q => (∃ i, xs = [.int i] ∧ Q (.int i) H) ∨ ∃ k, xs = [.bl k] ∧ Q (.int (if k then 1 else 0)) H) bInt := fun xs as d sk G H Q l ps e k => by
  unfold bInt at e
  split at e
  · cases e
    obtain ⟨x, rfl, h⟩ := one_of ps
    exact .inl ⟨_, by rw [Dp.int_of h], k _ G H (.refl l) (.int _)⟩
  · cases e
    obtain ⟨x, rfl, h⟩ := one_of ps
    exact .inr ⟨_, by rw [Dp.bl_of h], k _ G H (.refl l) (.int _)⟩
  · cases e
def bDivmod : List D → Option D
  | [.int i, .int j] => if 0 < j ∧ j < 1073741824 then some (.tuple [.int (i / j), .int (i % j)]) else none
  | _ => none
theorem w_divmod {K : PySem.W.Frag} : WC K (fun xs H Q => ∃ i j, xs = [.int i, .int j] ∧ CDiv i j ∧ ∀ p, H p = none → Q (.ref p) (upd H p (.tup [.int (i / j), .int (i % j)]))) bDivmod := fun xs as d sk G H Q l ps e k => by
  unfold bDivmod at e
  split at e
  · split at e
    · rename_i hc
      cases e
      obtain ⟨x, u, rfl, h, h2⟩ := two_of ps
      refine ⟨_, _, by rw [Dp.int_of h, Dp.int_of h2], hc, fun p hp => ?_⟩
      exact k _ _ _ (Grow.new l hp _) (.tup (SqT.of upd_same) (.cons (.int _) (.cons (.int _) .nil)))
    · cases e
  · cases e
def bMin : List D → Option D
  | [.int i, .int j] => some (.int (if j < i then j else i))
  | _ => none
def bMax : List D → Option D
  | [.int i, .int j] => some (.int (if j > i then j else i))
  | _ => none
theorem w_min {K : PySem.W.Frag} : WC K (fun xs H Q => ∃ i j, xs = [.int i, .int j] ∧ Q (.int (if j < i then j else i)) H) bMin := fun xs as d sk G H Q l ps e k => by
  unfold bMin at e
  split at e
  · cases e
    obtain ⟨x, u, rfl, h, h2⟩ := two_of ps
    exact ⟨_, _, by rw [Dp.int_of h, Dp.int_of h2], k _ G H (.refl l) (.int _)⟩
  · cases e
theorem w_max {K : PySem.W.Frag} : WC K (fun xs H Q => ∃ i j, xs = [.int i, .int j] ∧ Q (.int (if j > i then j else i)) H) bMax := fun xs as d sk G H Q l ps e k => by
  unfold bMax at e
  split at e
  · cases e
    obtain ⟨x, u, rfl, h, h2⟩ := two_of ps
    exact ⟨_, _, by rw [Dp.int_of h, Dp.int_of h2], k _ G H (.refl l) (.int _)⟩
  · cases e
def bMin3 : List D → Option D
  | [.int a, .int b, .int c] => some (.int (if b < a then (if c < b then c else b) else (if c < a then c else a)))
  | _ => none
theorem call_min3 (hc : X.calm = true) : CallR X (.builtin "min") (fun xs H Q => ∃ a b c, xs = [.int a, .int b, .int c] ∧ Q (.int (if b < a then (if c < b then c else b) else (if c < a then c else a))) H) := by
  intro pins s σ H xs us Q I r h
  obtain ⟨a, b, c, rfl, q⟩ := h
  obtain ⟨x, y, z, rfl, ⟨t, rfl⟩, ⟨u, rfl⟩, ⟨v, rfl⟩⟩ : ∃ x y z, us = [x, y, z] ∧ RelV (.int a) x ∧ RelV (.int b) y ∧ RelV (.int c) z := by
    cases r with
    | cons h1 r => cases r with
      | cons h2 r => cases r with
        | cons h3 r => cases r; exact ⟨_, _, _, rfl, h1, h2, h3⟩
  refine min_three_ints (I.ok.hd hc) fun h' tk k => ⟨_, H, I.kept k, ?_, q⟩
  by_cases h1 : b < a
  · rw [if_pos h1, if_pos h1]
    by_cases h2 : c < b
    · rw [if_pos h2, if_pos h2]; exact ⟨_, rfl⟩
    · rw [if_neg h2, if_neg h2]; exact ⟨_, rfl⟩
  · rw [if_neg h1, if_neg h1]
    by_cases h2 : c < a
    · rw [if_pos h2, if_pos h2]; exact ⟨_, rfl⟩
    · rw [if_neg h2, if_neg h2]; exact ⟨_, rfl⟩
theorem w_min3 {K : PySem.W.Frag} : WC K (fun xs H Q => ∃ a b c, xs = [.int a, .int b, .int c] ∧ Q (.int (if b < a then (if c < b then c else b) else (if c < a then c else a))) H) bMin3 := fun xs as d sk G H Q l ps e k => by
  unfold bMin3 at e
  split at e
  · cases e
    obtain ⟨x, u, v, rfl, h, h2, h3⟩ := three_of ps
    exact ⟨_, _, _, by rw [Dp.int_of h, Dp.int_of h2, Dp.int_of h3], k _ G H (.refl l) (.int _)⟩
  · cases e
/-- lists of ints, of bools -/
def intsOf : List D → Option (List Int)
  | [] => some []
  | .int i :: ds => (intsOf ds).map (i :: ·)
  | _ :: _ => none
def boolsOf : List D → Option (List Bool)
  | [] => some []
  | .bool i :: ds => (boolsOf ds).map (i :: ·)
  | _ :: _ => none
theorem ints_of {K : PySem.W.Frag} {G : Hp} : ∀ {vs : List V} {ds : List D} {ns : List Int}, DpAll K G vs ds → intsOf ds = some ns → vs = ns.map V.int
  | _, [], _, h, e => by cases h; cases e; rfl
  | _, d :: ds, ns, h, e => by
    cases h with
    | cons a t =>
      cases d with
      | int i =>
        unfold intsOf at e
        cases q : intsOf ds with
        | none => rw [q] at e; cases e
        | some ms =>
          rw [q] at e
          cases e
          cases a
          rw [ints_of t q]
          rfl
      | _ => cases e
theorem bools_of {K : PySem.W.Frag} {G : Hp} : ∀ {vs : List V} {ds : List D} {ns : List Bool}, DpAll K G vs ds → boolsOf ds = some ns → vs = ns.map V.bl
  | _, [], _, h, e => by cases h; cases e; rfl
  | _, d :: ds, ns, h, e => by
    cases h with
    | cons a t =>
      cases d with
      | bool i =>
        unfold boolsOf at e
        cases q : boolsOf ds with
        | none => rw [q] at e; cases e
        | some ms =>
          rw [q] at e
          cases e
          cases a
          rw [bools_of t q]
          rfl
      | _ => cases e
def bAll : List D → Option D
  | [.list ds] => (boolsOf ds).map fun bs => .bool (bs.all id)
  | _ => none
def bAny : List D → Option D
  | [.list ds] => (boolsOf ds).map fun bs => .bool (bs.any id)
  | _ => none
theorem w_all {K : PySem.W.Frag} : WC K (rAll K) bAll := fun xs as d sk G H Q l ps e k => by
  unfold bAll at e
  split at e
  · rename_i ds
    cases q : boolsOf ds with
    | none => rw [q] at e; cases e
    | some bs =>
      rw [q] at e; cases e
      obtain ⟨x, rfl, h⟩ := one_of ps
      obtain ⟨p, ys, rfl, h1, h2⟩ := Dp.lst_of h
      have e2 := bools_of h2 q
      subst e2
      exact ⟨p, bs, rfl, SqL.up l h1, k _ G H (.refl l) (.bl _)⟩
  · cases e
theorem w_any {K : PySem.W.Frag} : WC K (rAny K) bAny := fun xs as d sk G H Q l ps e k => by
  unfold bAny at e
  split at e
  · rename_i ds
    cases q : boolsOf ds with
    | none => rw [q] at e; cases e
    | some bs =>
      rw [q] at e; cases e
      obtain ⟨x, rfl, h⟩ := one_of ps
      obtain ⟨p, ys, rfl, h1, h2⟩ := Dp.lst_of h
      have e2 := bools_of h2 q
      subst e2
      exact ⟨p, bs, rfl, SqL.up l h1, k _ G H (.refl l) (.bl _)⟩
  · cases e
def bSum : List D → Option D
  | [.list ds] => (intsOf ds).map fun ns => .int ns.sum
  | _ => none
theorem w_sum {K : PySem.W.Frag} : WC K (rSum K) bSum := fun xs as d sk G H Q l ps e k => by
  unfold bSum at e
  split at e
  · rename_i ds
    cases q : intsOf ds with
    | none => rw [q] at e; cases e
    | some bs =>
      rw [q] at e; cases e
      obtain ⟨x, rfl, h⟩ := one_of ps
      obtain ⟨p, ys, rfl, h1, h2⟩ := Dp.lst_of h
      have e2 := ints_of h2 q
      subst e2
      exact ⟨p, bs, rfl, SqL.up l h1, k _ G H (.refl l) (.int _)⟩
  · cases e
def minL : Int → List Int → Int
  | m, [] => m
  | m, x :: xs => minL (if x < m then x else m) xs
theorem minL_spec : ∀ (xs : List Int) (m : Int), (minL m xs = m ∨ minL m xs ∈ xs) ∧ minL m xs ≤ m ∧ ∀ y ∈ xs, minL m xs ≤ y
  | [], m => ⟨.inl rfl, Int.le_refl _, fun y h => by cases h⟩
  | x :: xs, m => by
    obtain ⟨a, b, c⟩ := minL_spec xs (if x < m then x else m)
    unfold minL
    by_cases h : x < m
    · rw [if_pos h] at a b c ⊢
      refine ⟨.inr ?_, by omega, fun y hy => ?_⟩
      · rcases a with a | a
        · rw [a]; exact List.mem_cons_self
        · exact List.mem_cons_of_mem _ a
      · rcases List.mem_cons.mp hy with rfl | hy
        · exact b
        · exact c y hy
    · rw [if_neg h] at a b c ⊢
      refine ⟨?_, b, fun y hy => ?_⟩
      · rcases a with a | a
        · exact .inl a
        · exact .inr (List.mem_cons_of_mem _ a)
      · rcases List.mem_cons.mp hy with rfl | hy
        · omega
        · exact c y hy
def bMinL : List D → Option D
  | [.list ds] => (intsOf ds).bind fun ns => match ns with
    | [] => none
    | m :: xs => some (.int (minL m xs))
  | _ => none
theorem w_minL {K : PySem.W.Frag} : WC K (rMin K) bMinL := fun xs as d sk G H Q l ps e k => by
  unfold bMinL at e
  split at e
  · rename_i ds
    cases q : intsOf ds with
    | none => rw [q] at e; cases e
    | some bs =>
      rw [q] at e
      cases bs with
      | nil => cases e
      | cons m bs =>
        cases e
        obtain ⟨x, rfl, h⟩ := one_of ps
        obtain ⟨p, ys, rfl, h1, h2⟩ := Dp.lst_of h
        have e2 := ints_of h2 q
        subst e2
        refine ⟨p, m :: bs, rfl, SqL.up l h1, by simp, fun z hz hl => ?_⟩
        obtain ⟨a, b, c⟩ := minL_spec bs m
        have e3 : z = minL m bs := by
          have h5 : z ≤ minL m bs := by
            rcases a with a | a
            · rw [a]; exact hl m List.mem_cons_self
            · exact hl _ (List.mem_cons_of_mem _ a)
          have h6 : minL m bs ≤ z := by
            rcases List.mem_cons.mp hz with rfl | hz
            · exact b
            · exact c z hz
          omega
        rw [e3]
        exact k _ G H (.refl l) (.int _)
  · cases e
end
end PL
namespace PySem.W
open PySem PySem.Spec PyProof.Rows
theorem pl_args3 (a b c : Value) : argsOk "math.gcd" ⟨[a, b, c], []⟩ := by unfold argsOk; kernel_rfl
theorem pl_run3 (a : Int) (t : Tok) (b : Int) (u : Tok) (c : Int) (v : Tok) :
    Gives (Builtin.«math.gcd» ⟨[.int a t, .int b u, .int c v], []⟩) (.int (((((Nat.gcd 0 a.natAbs).gcd b.natAbs).gcd c.natAbs : Nat) : Int))) :=
  .of_wp fun M A E s Q h => by obtain ⟨hp, g, d, tk, os⟩ := s; wp_walk; exact ⟨_, rfl, h⟩
theorem pl_gcd3 {prog : Program} {w : World} {A : Around} {E : Value → Shared → Prop} {s : Shared} {Q : Value → Shared → Prop} {a b c : Int} {t u v : Tok}
    (h : Q (.int ((((a.natAbs.gcd b.natAbs).gcd c.natAbs : Nat) : Int)) s.toks) { s with toks := s.toks + 1 }) : wpAny (model prog w) A (call (.builtin "math.gcd") [.int a t, .int b u, .int c v]) Q E s := by
  have g := pl_run3 a t b u c v
  rw [Nat.gcd_zero_left] at g
  exact call_function_meets MGF.kind_gcd MGF.plain_gcd MGF.entry_gcd (pl_args3 _ _ _) g.meets h
end PySem.W
namespace PL
open PySem PySem.Spec PyProof.Rows L2
section
variable {X : Cx} {pos : Pos}
/-! ### isinstance -/
def tyN : D → String
  | .none => "NoneType"
  | .bool _ => "bool"
  | .int _ => "int"
  | .str _ => "str"
  | .list _ => "list"
  | .tuple _ => "tuple"
  | .dict _ => "dict"
def isT (T : String) : D → Bool
  | .none => T == "NoneType"
  | .bool _ => T == "bool" || T == "int"
  | .int _ => T == "int"
  | .str _ => T == "str"
  | .list _ => T == "list"
  | .tuple _ => T == "tuple"
  | .dict _ => T == "dict"
def dIs (T : String) : D → Option D := fun d => if isD d = true then some (.bool (isT T d)) else none
def okT (T : String) : Bool := ["NoneType", "bool", "int", "str", "list", "tuple"].all fun a => kitB a T == some (if a == "bool" then T == "bool" || T == "int" else T == a)
theorem okT_int : okT "int" = true := by decide +kernel
theorem okT_bool : okT "bool" = true := by decide +kernel
theorem okT_tuple : okT "tuple" = true := by decide +kernel
theorem okT_list : okT "list" = true := by decide +kernel
theorem okT_str : okT "str" = true := by decide +kernel
theorem tyx_of {K : PySem.W.Frag} {H : Hp} {v : V} {d : D} (h : Dp K H v d) : TyX K H v (.type (tyN d)) := by
  cases h with
  | non => exact .base .non
  | bl b => exact .base (.bl b)
  | int i => exact .base (.int i)
  | str x => exact .base (.str x)
  | lst hs _ =>
    rcases hs with (h | ⟨o, h⟩) | ⟨o, its, n, hk, hc, _⟩
    · exact .base (.lst h)
    · exact .base (.frz h)
    · exact .kList hk hc
  | tup hs _ =>
    rcases hs with (h | ⟨o, h⟩) | ⟨o, its, n, hk, hc, _⟩
    · exact .base (.tup h)
    · exact .fTuple h
    · exact .kTuple hk hc
theorem kit_isT {T : String} (h : okT T = true) {d : D} (n : isD d = true) : kitB (tyN d) T = some (isT T d) := by
  unfold okT at h
  simp only [List.all_cons, List.all_nil, Bool.and_eq_true, Bool.and_true, beq_iff_eq] at h
  obtain ⟨h1, h2, h3, h4, h5, h6⟩ := h
  cases d with
  | none => exact h1
  | bool b => exact h2
  | int i => exact h3
  | str x => exact h4
  | list x => exact h5
  | tuple x => exact h6
  | dict x => cases n
theorem P.isi {a : Expr} {f : M D} {T : Str} {TT : String} {p p2 : Pos} (hg : Gl X "isinstance") (hm : X.mg "isinstance" = none) (ha : PE X a (tP X.K f)) (hg2 : Gl X T) (hm2 : X.mg T = none) (hv : bootBuiltins T = some (.type TT)) (ok : okT TT = true) (hn : T ≠ "__name__" := by decide) (hd : (T == ("__debug__" : Str)) = false := by decide)
    (hs : starEach [a, .Name T p2] X.env = (false, eval a X.env) :: starEach [.Name T p2] X.env := by rfl) (hpl : (backTo pos (starEach [.Name T p2] X.env)).any (·.1) = false := by rfl) :
    PE X (.Call (.Name "isinstance" p) [a, .Name T p2] [] pos) (tP X.K (m1 (dIs TT) f)) := by
  refine peI (pe_callB call_isi hg hm (by decide +kernel) (pa_cons ha (pa_cons (pe_bltn (v := .ty TT) hg2 hm2 hv rfl hn hd) pa_nil) hs) (he := hs) (hpl := hpl)) fun σ H Q ⟨sk, G, ρ, s, d, s', w, r, e, k⟩ => ?_
  obtain ⟨x, s1, q1, q⟩ := mThen_some e
  obtain ⟨q2, rfl⟩ := mLift_some q
  unfold dIs at q2
  split at q2
  · rename_i hx
    cases q2
    refine P.then w r q1 fun v G' H' w' x' r' q => ?_
    exact ⟨v, .ty TT, .type (tyN x), .type TT, isT TT x, rfl, .ty _, tyx_of (isD_up w'.sub q hx), kit_ty (kit_isT ok hx), k _ G' H' w' x' (.inl (.bl _))⟩
  · cases q2
/-! ### repr -/
def bRepr : List D → Option D
  | [d] => if isD d = true ∧ d.showable = true ∧ d.depth ≤ 60 ∧ d.shown.length ≤ sizeLine then some (.str d.shown) else none
  | _ => none
theorem w_repr {K : PySem.W.Frag} : WC K (rRepr K) bRepr := fun xs as d sk G H Q l ps e k => by
  unfold bRepr at e
  split at e
  · split at e
    · rename_i hc
      cases e
      obtain ⟨x, rfl, h⟩ := one_of ps
      exact ⟨x, _, rfl, .inl (isD_up l h hc.1), hc.2.1, hc.2.2.1, hc.2.2.2, k _ G H (.refl l) (.str _)⟩
    · cases e
  · cases e
/-! ### math -/
def gcdI (a b : Int) : Int := ((a.natAbs.gcd b.natAbs : Nat) : Int)
def gcdI3 (a b c : Int) : Int := (((a.natAbs.gcd b.natAbs).gcd c.natAbs : Nat) : Int)
def bGcd : List D → Option D
  | [.int a, .int b] => some (.int (gcdI a b))
  | [.int a, .int b, .int c] => some (.int (gcdI3 a b c))
  | _ => none
def rGcdA : List V → Hp → VK → Prop := fun vs H Q => rGcd vs H Q ∨ ∃ a b c : Int, vs = [.int a, .int b, .int c] ∧ Q (.int (gcdI3 a b c)) H
theorem cr_gcdA : CallR X (.builtin "math.gcd") rGcdA := CallR.or cr_gcd fun pins s σ H vs us Q I r h => by
  obtain ⟨a, b, c, rfl, q⟩ := h
  cases r with
  | cons r1 r => cases r with
    | cons r2 r => cases r with
      | cons r3 r =>
        cases r
        obtain ⟨t, rfl⟩ := r1
        obtain ⟨u, rfl⟩ := r2
        obtain ⟨v, rfl⟩ := r3
        exact PySem.W.pl_gcd3 ⟨.int _, H, I.tok _, ⟨_, rfl⟩, q⟩
theorem w_gcd {K : PySem.W.Frag} : WC K rGcdA bGcd := fun xs as d sk G H Q l ps e k => by
  unfold bGcd at e
  split at e
  · cases e
    obtain ⟨x, u, rfl, h, h2⟩ := two_of ps
    exact .inl ⟨_, _, by rw [Dp.int_of h, Dp.int_of h2], k _ G H (.refl l) (.int _)⟩
  · cases e
    obtain ⟨x, u, v, rfl, h, h2, h3⟩ := three_of ps
    exact .inr ⟨_, _, _, by rw [Dp.int_of h, Dp.int_of h2, Dp.int_of h3], k _ G H (.refl l) (.int _)⟩
  · cases e
theorem P.callG {id : String} {x : Str} {p : Pos} {e : Expr} {es : List Expr} {r : List V → Hp → VK → Prop} {f : List D → Option D} {fa : M (List D)} (hc : CallR X (.builtin id) r) (h : WC X.K r f) (hg : Gl X x) (hm : X.mg x = some (.builtin id)) (ha : PA X (e :: es) (tA X.K fa)) (hdb : (x == ("__debug__" : Str)) = false := by decide) (he : starEach (e :: es) X.env = (false, eval e X.env) :: starEach es X.env := by rfl) (hpl : (backTo pos (starEach es X.env)).any (·.1) = false := by rfl) :
    PE X (.Call (.Name x p) (e :: es) [] pos) (tP X.K (mCall f fa)) :=
  peI (pe_callBfun hc hg hm ha hdb he hpl) fun _ _ _ t => tCB_of h t
/-! ### list(..), tuple(..) -/
def bTuple : List D → Option D
  | [.list xs] => some (.tuple xs)
  | [.tuple xs] => some (.tuple xs)
  | _ => none
theorem w_tuple {K : PySem.W.Frag} : WC K (fun xs H Q => ∃ p ys, xs = [.ref p] ∧ ((SqL K H p ys ∧ ∀ l, H l = none → Q (.ref l) (upd H l (.tup ys))) ∨ (SqT K H p ys ∧ Q (.ref p) H))) bTuple := fun xs as d sk G H Q l ps e k => by
  unfold bTuple at e
  split at e
  · cases e
    obtain ⟨x, rfl, h⟩ := one_of ps
    obtain ⟨p, ys, rfl, h1, h2⟩ := Dp.lst_of h
    refine ⟨p, ys, rfl, .inl ⟨SqL.up l h1, fun q hq => ?_⟩⟩
    have g := Grow.new l hq (.tup ys)
    exact k _ _ _ g (.tup (SqT.of upd_same) (DpAll.up g.gs _ _ h2))
  · cases e
    obtain ⟨x, rfl, h⟩ := one_of ps
    obtain ⟨p, ys, rfl, h1, h2⟩ := Dp.tup_of h
    exact ⟨p, ys, rfl, .inr ⟨SqT.up l h1, k _ G H (.refl l) (.tup h1 h2)⟩⟩
  · cases e
def bList : List D → Option D
  | [.list xs] => some (.list xs)
  | [.tuple xs] => some (.list xs)
  | _ => none
theorem w_list {K : PySem.W.Frag} : WC K (fun xs H Q => ∃ p ys, xs = [.ref p] ∧ (SqL K H p ys ∨ SqT K H p ys) ∧ ∀ l, H l = none → Q (.ref l) (upd H l (.lst ys))) bList := fun xs as d sk G H Q l ps e k => by
  unfold bList at e
  split at e
  · cases e
    obtain ⟨x, rfl, h⟩ := one_of ps
    obtain ⟨p, ys, rfl, h1, h2⟩ := Dp.lst_of h
    refine ⟨p, ys, rfl, .inl (SqL.up l h1), fun q hq => ?_⟩
    have g := Grow.new l hq (.lst ys)
    exact k _ _ _ g (.lst (SqL.of upd_same) (DpAll.up g.gs _ _ h2))
  · cases e
    obtain ⟨x, rfl, h⟩ := one_of ps
    obtain ⟨p, ys, rfl, h1, h2⟩ := Dp.tup_of h
    refine ⟨p, ys, rfl, .inr (SqT.up l h1), fun q hq => ?_⟩
    have g := Grow.new l hq (.lst ys)
    exact k _ _ _ g (.lst (SqL.of upd_same) (DpAll.up g.gs _ _ h2))
  · cases e
/-! ### a module's constant -/
theorem P.glob {x : Str} {v : V} {u : Value} {d : D} (hg : Gl X x) (hm : X.mg x = some u) (r : RelV v u) (q : ∀ G, Dp X.K G v d) (hd : (x == ("__debug__" : Str)) = false := by decide) : PE X (.Name x pos) (tP X.K (mC d)) :=
  P.c (pe_glob hg hm r hd) q
/-- a module's constant is worth d -/
def Cst (K : PySem.W.Frag) (mg : Str → Option Value) (x : Str) (d : D) : Prop := ∃ v u, mg x = some u ∧ RelV v u ∧ ∀ G, Dp K G v d
theorem P.cst {x : Str} {d : D} (hg : Gl X x) (c : Cst X.K X.mg x d) (hd : (x == ("__debug__" : Str)) = false := by decide) : PE X (.Name x pos) (tP X.K (mC d)) := by
  obtain ⟨v, u, h1, h2, h3⟩ := c
  exact P.glob hg h1 h2 h3 hd
/-! ### in, not in -/
def dIn : D → D → Option D := fun d e => match inOf e with
  | some ds => if okEq d = true ∧ PyData.plainAll ds = true then some (.bool (ds.any fun z => PyData.eqv z d)) else none
  | none => none
def dNotIn : D → D → Option D := fun d e => match inOf e with
  | some ds => if okEq d = true ∧ PyData.plainAll ds = true then some (.bool (!ds.any fun z => PyData.eqv z d)) else none
  | none => none
theorem inOf_isD {e : D} {ds : List D} (h : inOf e = some ds) : isD e = true := by
  cases e <;> first | rfl | cases h
theorem w_in {K : PySem.W.Frag} : W2 K (rInP K) dIn := fun x y a b d sk G H Q l ha hb e k => by
  unfold dIn at e
  split at e
  · rename_i ds hs
    split at e
    · rename_i h
      cases e
      exact ⟨a, b, ds, isD_up l ha (okEq_isD h.1), isD_up l hb (inOf_isD hs), hs, h.1, h.2, k _ G H (.refl l) (.bl _)⟩
    · cases e
  · cases e
theorem w_notIn {K : PySem.W.Frag} : W2 K (rNotInP K) dNotIn := fun x y a b d sk G H Q l ha hb e k => by
  unfold dNotIn at e
  split at e
  · rename_i ds hs
    split at e
    · rename_i h
      cases e
      exact ⟨a, b, ds, isD_up l ha (okEq_isD h.1), isD_up l hb (inOf_isD hs), hs, h.1, h.2, k _ G H (.refl l) (.bl _)⟩
    · cases e
  · cases e
/-! ### a call by names alone -/
/-- the keywords' values -/
def tK (K : PySem.W.Frag) (F : M (List D)) : TA := tA K F
theorem pkI {kws : List Keyword} {t t' : TA} (h : PK X kws t) (i : ∀ σ H Q, t' σ H Q → t σ H Q) : PK X kws t' := ⟨fun pos pins s σ H Q I w => h.run pos pins s σ H Q I (i _ _ _ w)⟩
theorem P.knil : PK X [] (tA X.K aNil) := pkI pk_nil fun σ H Q ⟨sk, G, ρ, s, d, s', w, e, q, k⟩ => by
  cases q
  exact k [] G H w .refl .nil
theorem P.kcons {e : Expr} {nm : Option Str} {kpos : Pos} {kws : List Keyword} {f : M D} {g : M (List D)} (ha : PE X e (tP X.K f)) (hr : PK X kws (tA X.K g)) : PK X (⟨nm, e, kpos⟩ :: kws) (tA X.K (aCons f g)) :=
  pkI (pk_cons ha hr) fun σ H Q ⟨sk, G, ρ, s, d, s', w, e, q, k⟩ => by
    obtain ⟨a, s1, q1, q⟩ := mThen_some q
    obtain ⟨b, s2, q2, q⟩ := mThen_some q
    obtain ⟨q3, rfl⟩ := mLift_some q
    cases q3
    refine P.then w e q1 fun x G1 H1 w1 x1 e1 dx => ?_
    exact ⟨sk, G1, ρ, s1, b, s', w1, e1, q2, fun vs G' H' w' x' ps => k _ G' H' w' (x1.trans x') (.cons (dx.up x'.gs) ps)⟩
/-- values in the order perm -/
def reord {α : Type} (perm : List Nat) (xs : List α) : List α := perm.filterMap fun i => xs[i]?
theorem Paired.reord {α β : Type} {R : α → β → Prop} {xs : List α} {ys : List β} (h : Paired R xs ys) : ∀ perm : List Nat, Paired R (reord perm xs) (reord perm ys)
  | [] => .nil
  | i :: p => by
    have ih := Paired.reord h p
    unfold PL.reord at ih ⊢
    rw [List.filterMap_cons, List.filterMap_cons]
    cases q : ys[i]? with
    | none =>
      have : xs[i]? = none := by
        rw [List.getElem?_eq_none_iff] at q ⊢
        rw [Paired.length h]; exact q
      rw [this]
      exact ih
    | some y =>
      obtain ⟨x, e, r⟩ := Paired.get h q
      rw [e]
      exact .cons r ih
def mFK (F : Fn) (perm : List Nat) (a : M (List D)) : M D := fun ρ s => match a ρ s with
  | some (ds, s1) => F (reord perm ds) s1
  | none => none
theorem P.callK {k : Nat} {f : Addr} {fd : FuncData} {ps ks : List Str} {x : Str} {p : Pos} {kws : List Keyword} {F : Fn} {fa : M (List D)} (perm : List Nat) (hF : FnG X.prog X.w X.K X.mg X.base CX0 k f fd ps (spF X.K F)) (hgd : X.A.guards = some []) (hr : Room k X.A) (hg : Gl X x) (hm : X.mg x = some (.ref f)) (hk : PySem.W.keepIn X.K (.ref f) = true)
    (hb : ∀ (s : Shared) (ws : List Value), ws.length = ks.length → BindsTo s fd ⟨[], ks.zip ws⟩ (ps.zip (reord perm ws)))
    (hkw : PK X kws (tA X.K fa)) (hlen : ∀ ρ s ds s', fa ρ s = some (ds, s') → ds.length = ks.length) (hall : (backToKw pos (keywordEach kws X.env)).all (·.1.isSome) = true := by rfl) (hks : (backToKw pos (keywordEach kws X.env)).filterMap (·.1) = ks := by rfl)
    (hdb : (x == ("__debug__" : Str)) = false := by decide)
    (hpl : ((backTo pos (starEach [] X.env)).any (·.1) || (backToKw pos (keywordEach kws X.env)).any (·.1.isNone)) = false := by rfl) :
    PE X (.Call (.Name x p) [] kws pos) (tP X.K (mFK F perm fa)) := by
  refine ⟨fun pins s σ H Q I ⟨sk, G, ρ, sS, d, s', w, r, e, k⟩ => ?_⟩
  unfold mFK at e
  split at e
  · rename_i ds s1 e1
    have hl := hlen _ _ _ _ e1
    refine wpAny_Call_Name_kw (ld_glob I hg hm ?_ hdb)
    refine PySem.W.callWith_KW0 (first := []) (h₀ := X.base) I.ok.mod.kin hk hall ?_ hpl
    refine thn (hkw.run pos pins s σ H (fun zs H2 => zs.length = ks.length ∧ spF X.K F (reord perm zs) H2 Q E0) I ⟨sk, G, ρ, sS, ds, s1, w, r, e1, fun vs G1 H1 w1 x1 p1 => ⟨by rw [Paired.length p1]; exact hl, ?_⟩⟩) fun ws s2 ⟨zs, H2, I2, rz, hz, q2⟩ => ⟨I2.kIn, ?_⟩
    · exact ⟨sk, G1, _, s1, d, s', w1, Paired.reord p1 perm, e, fun v G2 H2 w2 x2 q => k v G2 H2 w2 (x1.trans x2) q⟩
    · rw [hks]
      have rr : Vals (reord perm zs) (reord perm ws) := Paired.reord rz perm
      refine wpAny_call (codeAny_mono (hF.run X.A X.stack s2 H2 ⟨[], ks.zip ws⟩ (reord perm ws) (reord perm zs) Q E0 hgd hr I2.env0 (hb s2 ws (by rw [← rz.length]; exact hz)) rr q2) fun r s' hq => ?_)
      cases r with
      | error e => exact hq.elim
      | ok fl =>
        cases fl with
        | ret u => exact I2.after hq
        | next => exact hq.elim
        | brk => exact hq.elim
        | cont => exact hq.elim
  · cases e
end
end PL
namespace PL
open PySem PySem.Spec PyProof.Rows L2
abbrev FnP (K : PySem.W.Frag) (x : Str) (st : Stmt) (f : Addr) (fd : FuncData) : Prop := FunD K x x (defArgs st) (defBody st) (defScope st) [] [] f fd
section
variable {X : Cx} {tg : Expr} {pos : Pos}
theorem P.v (i : Nat) {x : Str} (hN : X.N[i]? = some x := by rfl) (hv : Vis X.env.scope x := by first | exact Or.inl rfl | exact Or.inr (Or.inl rfl) | exact Or.inr (Or.inr rfl)) (hd : (x == ("__debug__" : Str)) = false := by decide) (hcd : (x == ("__classdict__" : Str)) = false := by decide) : PE X (.Name x pos) (tP X.K (mVar i)) := P.var hN hv hd hcd
theorem P.lenOv (i : Nat) {x : Str} {p p1 : Pos} (hg : Gl X "len") (hm : X.mg "len" = none) (hN : X.N[i]? = some x := by rfl) (hv : Vis X.env.scope x := by first | exact Or.inl rfl | exact Or.inr (Or.inl rfl) | exact Or.inr (Or.inr rfl)) (hd : (x == ("__debug__" : Str)) = false := by decide) (hcd : (x == ("__classdict__" : Str)) = false := by decide) :
    PE X (.Call (.Name "len" p) [.Name x p1] [] pos) (tP X.K (mLenO i)) := P.lenO hN hv hg hm hd hcd
theorem P.iterOv (i : Nat) {x : Str} {p1 : Pos} (hN : X.N[i]? = some x := by rfl) (hv : Vis X.env.scope x := by first | exact Or.inl rfl | exact Or.inr (Or.inl rfl) | exact Or.inr (Or.inr rfl)) (hd : (x == ("__debug__" : Str)) = false := by decide) (hcd : (x == ("__classdict__" : Str)) = false := by decide) : PI X tg (.Name x p1) (tIE X.K (mItO i)) := P.iterO hN hv hd hcd
theorem P.ixOv (i : Nat) {x : Str} {b : Expr} {f : M D} {p1 : Pos} (hb : PE X b (tP X.K f)) (hN : X.N[i]? = some x := by rfl) (hv : Vis X.env.scope x := by first | exact Or.inl rfl | exact Or.inr (Or.inl rfl) | exact Or.inr (Or.inr rfl)) (hs : PlainIx b := by exact fun _ _ => rfl) (hd : (x == ("__debug__" : Str)) = false := by decide) (hcd : (x == ("__classdict__" : Str)) = false := by decide) :
    PE X (.Subscript (.Name x p1) b pos) (tP X.K (mIxO i f)) := P.ixO hN hv hb hs hd hcd
theorem P.skv (i : Nat) {k : Nat} {x : Str} {j} {p1 p2 : Pos} (hN : X.N[i]? = some x := by rfl) (hv : Vis X.env.scope x := by first | exact Or.inl rfl | exact Or.inr (Or.inl rfl) | exact Or.inr (Or.inr rfl)) (hd : (x == ("__debug__" : Str)) = false := by decide) (hcd : (x == ("__classdict__" : Str)) = false := by decide) (hs : PlainIx (.Constant (.int (k : Nat)) j p2) := by exact fun _ _ => rfl) :
    PE X (.Subscript (.Name x p1) (.Constant (.int (k : Nat)) j p2) pos) (tP X.K (mSk i k)) := P.sk hN hv hd hcd hs
theorem P.gsubv (i : Nat) {k : Nat} {x : Str} {j} {p1 p2 : Pos} (hN : X.N[i]? = some x := by rfl) (hv : Vis X.env.scope x := by first | exact Or.inl rfl | exact Or.inr (Or.inl rfl) | exact Or.inr (Or.inr rfl)) (hd : (x == ("__debug__" : Str)) = false := by decide) (hcd : (x == ("__classdict__" : Str)) = false := by decide)
    (ha : ∀ v, assign (.Subscript (.Name x p1) (.Constant (.int (k : Nat)) j p2) pos) X.env v = (do
      let ov ← holding [v] (eval (.Name x p1) X.env)
      let iv ← holding [v, ov] (eval (.Constant (.int (k : Nat)) j p2) X.env)
      standAt pos
      holding [v, ov, iv] (setItem ov iv v)
      release [v, ov, iv] []) := by intro _; rfl) : PG X (.Subscript (.Name x p1) (.Constant (.int (k : Nat)) j p2) pos) (tG X.K (.sb i k)) := P.gsub hN hv hd hcd ha
theorem P.appv (i : Nat) {x : Str} {e : Expr} {f : M D} {p1 apos cpos : Pos} (he : PE X e (tP X.K f)) (hN : X.N[i]? = some x := by rfl) (hv : Vis X.env.scope x := by first | exact Or.inl rfl | exact Or.inr (Or.inl rfl) | exact Or.inr (Or.inr rfl)) (hd : (x == ("__debug__" : Str)) = false := by decide) (hcd : (x == ("__classdict__" : Str)) = false := by decide)
    (hbase : attributeBase (.Name x p1) "append" X.env (eval (.Name x p1) X.env) = eval (.Name x p1) X.env := by rfl)
    (hfew : ((backTo cpos (starEach [e] X.env)).all (fun x => !x.1) && (backToKw cpos (keywordEach [] X.env)).all (fun x => x.1.isSome)
      && decide (([e] : List Expr).length + ([] : List Keyword).length + (if ([] : List Keyword).isEmpty then 0 else 1) < 30)) = true := by rfl)
    (hline : (apos.endLine == cpos.line) = true := by rfl) (hs : starEach [e] X.env = (false, eval e X.env) :: starEach [] X.env := by rfl) (hplain : (backTo cpos (starEach [] X.env)).any (·.1) = false := by rfl)
    (hsw : swapsWith (.Call (.Attribute (.Name x p1) "append" apos) [e] [] cpos) none pos.line X.env = pure false := by rfl) :
    PS X (.Expr (.Call (.Attribute (.Name x p1) "append" apos) [e] [] cpos) pos) (tS X.K (sApp i f)) := P.app hN hv he hd hcd hbase hfew hline hs hplain hsw
theorem P.popv (i : Nat) {x : Str} {p1 apos cpos : Pos} (hN : X.N[i]? = some x := by rfl) (hv : Vis X.env.scope x := by first | exact Or.inl rfl | exact Or.inr (Or.inl rfl) | exact Or.inr (Or.inr rfl)) (hd : (x == ("__debug__" : Str)) = false := by decide) (hcd : (x == ("__classdict__" : Str)) = false := by decide)
    (hbase : attributeBase (.Name x p1) "pop" X.env (eval (.Name x p1) X.env) = eval (.Name x p1) X.env := by rfl) (hline : (apos.endLine == cpos.line) = true := by rfl)
    (hsw : swapsWith (.Call (.Attribute (.Name x p1) "pop" apos) [] [] cpos) none pos.line X.env = pure false := by rfl) :
    PS X (.Expr (.Call (.Attribute (.Name x p1) "pop" apos) [] [] cpos) pos) (tS X.K (sPop i)) := P.pop hN hv hd hcd hbase hline hsw
end
theorem acs1 {a : M D} {ρ : PL.Env} {s s' : S} {ds : List D} (h : aCons a aNil ρ s = some (ds, s')) : ds.length = 1 := by
  obtain ⟨x, s1, q1, q⟩ := mThen_some h
  obtain ⟨y, s2, q2, q⟩ := mThen_some q
  obtain ⟨q3, rfl⟩ := mLift_some q
  cases q3; cases q2; rfl
theorem acsS {a : M D} {r : M (List D)} {n : Nat} (hr : ∀ {ρ : PL.Env} {s s' : S} {ds : List D}, r ρ s = some (ds, s') → ds.length = n) {ρ : PL.Env} {s s' : S} {ds : List D} (h : aCons a r ρ s = some (ds, s')) : ds.length = n + 1 := by
  obtain ⟨x, s1, q1, q⟩ := mThen_some h
  obtain ⟨y, s2, q2, q⟩ := mThen_some q
  obtain ⟨q3, rfl⟩ := mLift_some q
  cases q3
  simp [hr q2]
theorem acs2 {a b : M D} {ρ : PL.Env} {s s' : S} {ds : List D} (h : aCons a (aCons b aNil) ρ s = some (ds, s')) : ds.length = 2 := acsS acs1 h
theorem acs3 {a b c : M D} {ρ : PL.Env} {s s' : S} {ds : List D} (h : aCons a (aCons b (aCons c aNil)) ρ s = some (ds, s')) : ds.length = 3 := acsS acs2 h
theorem acs4 {a b c d : M D} {ρ : PL.Env} {s s' : S} {ds : List D} (h : aCons a (aCons b (aCons c (aCons d aNil))) ρ s = some (ds, s')) : ds.length = 4 := acsS acs3 h
end PL
namespace PL
open PySem PySem.Spec PyProof.Rows L2
/-! ### constants that the top has left -/
def flatB : Value → D → Bool
  | .none, .none => true
  | .bool a, .bool b => a == b
  | .int i _, .int j => i == j
  | .str x _, .str y => x == y
  | _, _ => false
def flatsB : List Value → List D → Bool
  | [], [] => true
  | v :: vs, d :: ds => flatB v d && flatsB vs ds
  | _, _ => false
/-- a flat value, a tuple of such -/
def cst1 (K : PySem.W.Frag) : Value → D → Bool
  | .ref a, .tuple ds => match K.lookup a with
    | some o => (match o.cls with
      | .type T => T == "tuple"
      | _ => false) && (match o.data with
      | .seq its _ => decide (its.size < 1000) && flatsB its.toList ds
      | _ => false)
    | none => false
  | v, d => flatB v d
def cst2s (K : PySem.W.Frag) : List Value → List D → Bool
  | [], [] => true
  | v :: vs, d :: ds => cst1 K v d && cst2s K vs ds
  | _, _ => false
def cst2 (K : PySem.W.Frag) : Value → D → Bool
  | .ref a, .tuple ds => match K.lookup a with
    | some o => (match o.cls with
      | .type T => T == "tuple"
      | _ => false) && (match o.data with
      | .seq its _ => decide (its.size < 1000) && cst2s K its.toList ds
      | _ => false)
    | none => false
  | v, d => flatB v d
def cstB (K : PySem.W.Frag) (x : Str) (d : D) : Bool := match PySem.W.nsIn K mainGlobals x with
  | some (some u) => cst2 K u d
  | _ => false
theorem flat_ok {K : PySem.W.Frag} : ∀ {u : Value} {d : D}, flatB u d = true → ∃ v, RelV v u ∧ ∀ G, Dp K G v d := by
  intro u d h
  unfold flatB at h
  split at h
  · exact ⟨.non, rfl, fun _ => .non⟩
  · rename_i a b
    have e : a = b := by simpa using h
    subst e
    exact ⟨.bl a, rfl, fun _ => .bl _⟩
  · rename_i i t j
    have e : i = j := by simpa using h
    subst e
    exact ⟨.int i, ⟨t, rfl⟩, fun _ => .int _⟩
  · rename_i x t y
    have e : x = y := eq_of_beq h
    subst e
    exact ⟨.str x, ⟨t, rfl⟩, fun _ => .str _⟩
  · cases h
theorem flats_ok {K : PySem.W.Frag} : ∀ {us : List Value} {ds : List D}, flatsB us ds = true → ∃ vs, Vals vs us ∧ ∀ G, DpAll K G vs ds
  | [], [], _ => ⟨[], .nil, fun _ => .nil⟩
  | u :: us, d :: ds, h => by
    unfold flatsB at h
    rw [Bool.and_eq_true] at h
    obtain ⟨v, r, q⟩ := flat_ok (K := K) h.1
    obtain ⟨vs, rs, qs⟩ := flats_ok (K := K) h.2
    exact ⟨v :: vs, .cons r rs, fun G => .cons (q G) (qs G)⟩
  | [], _ :: _, h => by cases h
  | _ :: _, [], h => by cases h
theorem big1000 {n : Nat} (h : n < 1000) : n ≤ sizeLine := by rw [sizeLine_eq]; omega
theorem tup_at {K : PySem.W.Frag} {a : Addr} {o : Obj} {its : Array Value} {n : Nat} {vs : List V} {ds : List D} (hk : K.lookup a = some o) (hc : (match o.cls with
      | .type T => T == "tuple"
      | _ => false) = true) (hd : o.data = .seq its n) (hz : its.size < 1000) (r : Vals vs its.toList) (q : ∀ G, DpAll K G vs ds) (G : Hp) : Dp K G (.ref a) (.tuple ds) := by
  refine .tup (xs := vs) (.inr ⟨o, its, n, hk, ?_, hd, big1000 hz, r⟩) (q G)
  split at hc
  · rename_i T e
    rw [e]
    rw [eq_of_beq hc]
  · cases hc
theorem cst1_ok {K : PySem.W.Frag} {u : Value} {d : D} (h : cst1 K u d = true) : ∃ v, RelV v u ∧ ∀ G, Dp K G v d := by
  unfold cst1 at h
  split at h
  · rename_i a ds
    split at h
    · rename_i o ho
      rw [Bool.and_eq_true] at h
      obtain ⟨h1, h2⟩ := h
      split at h2
      · rename_i its n hd
        rw [Bool.and_eq_true] at h2
        obtain ⟨vs, r, q⟩ := flats_ok (K := K) h2.2
        exact ⟨.ref a, rfl, tup_at ho h1 hd (of_decide_eq_true h2.1) r q⟩
      · cases h2
    · cases h
  · exact flat_ok h
theorem cst2s_ok {K : PySem.W.Frag} : ∀ {us : List Value} {ds : List D}, cst2s K us ds = true → ∃ vs, Vals vs us ∧ ∀ G, DpAll K G vs ds
  | [], [], _ => ⟨[], .nil, fun _ => .nil⟩
  | u :: us, d :: ds, h => by
    unfold cst2s at h
    rw [Bool.and_eq_true] at h
    obtain ⟨v, r, q⟩ := cst1_ok (K := K) h.1
    obtain ⟨vs, rs, qs⟩ := cst2s_ok (K := K) h.2
    exact ⟨v :: vs, .cons r rs, fun G => .cons (q G) (qs G)⟩
  | [], _ :: _, h => by cases h
  | _ :: _, [], h => by cases h
theorem cst2_ok {K : PySem.W.Frag} {u : Value} {d : D} (h : cst2 K u d = true) : ∃ v, RelV v u ∧ ∀ G, Dp K G v d := by
  unfold cst2 at h
  split at h
  · rename_i a ds
    split at h
    · rename_i o ho
      rw [Bool.and_eq_true] at h
      obtain ⟨h1, h2⟩ := h
      split at h2
      · rename_i its n hd
        rw [Bool.and_eq_true] at h2
        obtain ⟨vs, r, q⟩ := cst2s_ok (K := K) h2.2
        exact ⟨.ref a, rfl, tup_at ho h1 hd (of_decide_eq_true h2.1) r q⟩
      · cases h2
    · cases h
  · exact flat_ok h
theorem cst_ok {K : PySem.W.Frag} {h : Heap} {mg : Str → Option Value} (X : K.In h) (G : h.Ns mainGlobals mg) {x : Str} {d : D} (e : cstB K x d = true) : Cst K mg x d := by
  unfold cstB at e
  split at e
  · rename_i u hu
    obtain ⟨v, r, q⟩ := cst2_ok e
    exact ⟨v, u, PySem.W.mg_of X G hu, r, q⟩
  · cases e
/-- the law's promise: the script is data -/
theorem spF_law {K : PySem.W.Frag} {F : Fn} (hF : ∀ ns : List Int, ns.length ≤ 63 → (∀ z ∈ ns, Builtin.Int.intBits z ≤ 1048576) → ∃ s', F [.list (ns.map PyData.int)] [] = some (.bool true, s')) (H : Hp) (a : Addr) (ns : List Int) (hl : ns.length ≤ 63) (hb : ∀ z ∈ ns, Builtin.Int.intBits z ≤ 1048576) (hS : SqL K H a (ns.map V.int)) :
    spF K F [.ref a] H (fun v _ => v = .bl true) E0 := by
  obtain ⟨s', e⟩ := hF ns hl hb
  refine ⟨none, H, [.list (ns.map PyData.int)], [], _, s', ⟨.refl, fun _ z => by cases z⟩, .cons (.inl (.lst hS ?_)) .nil, e, fun v G' H' w x q => ?_⟩
  · clear hS hb hl e
    induction ns with
    | nil => exact .nil
    | cons n ns ih => exact .cons (.int n) ih
  · exact Dp.bl_of q
end PL
/-! tuples of whole numbers, of any sign, in their order: sorted of a list, sorted of a set -/
namespace PLS
open PySem PyProof.Rows
def lexL : List Int → List Int → Bool
  | _, [] => false
  | [], _ :: _ => true
  | x :: xs, y :: ys => if x = y then lexL xs ys else decide (x < y)
theorem lexL_irr : ∀ x : List Int, lexL x x = false
  | [] => rfl
  | x :: xs => by
    unfold lexL
    rw [if_pos rfl]
    exact lexL_irr xs
theorem lexL_tri : ∀ x y : List Int, lexL x y = true ∨ x = y ∨ lexL y x = true
  | [], [] => .inr (.inl rfl)
  | [], _ :: _ => .inl rfl
  | _ :: _, [] => .inr (.inr rfl)
  | x :: xs, y :: ys => by
    unfold lexL
    by_cases h : x = y
    · subst h
      rw [if_pos rfl]
      rcases lexL_tri xs ys with a | a | a
      · exact .inl a
      · exact .inr (.inl (by rw [a]))
      · exact .inr (.inr (by rw [if_pos rfl]; exact a))
    · rw [if_neg h, if_neg (Ne.symm h), decide_eq_true_eq, decide_eq_true_eq]
      omega
theorem lexL_tr : ∀ x y z : List Int, lexL x y = true → lexL y z = true → lexL x z = true
  | _, [], _, h, _ => by unfold lexL at h; cases h
  | _, _ :: _, [], _, h => by unfold lexL at h; cases h
  | [], _ :: _, _ :: _, _, _ => rfl
  | x :: xs, y :: ys, z :: zs, h1, h2 => by
    unfold lexL at *
    by_cases a : x = y
    · subst a
      rw [if_pos rfl] at h1
      by_cases b : x = z
      · subst b
        rw [if_pos rfl] at h2 ⊢
        exact lexL_tr xs ys zs h1 h2
      · rw [if_neg b] at h2 ⊢
        exact h2
    · rw [if_neg a, decide_eq_true_eq] at h1
      by_cases b : y = z
      · subst b
        rw [if_neg a, decide_eq_true_eq]
        exact h1
      · rw [if_neg b, decide_eq_true_eq] at h2
        rw [if_neg (by omega), decide_eq_true_eq]
        omega
theorem lexL_asym {x y : List Int} (h : lexL x y = true) : lexL y x = false := by
  cases q : lexL y x with
  | false => rfl
  | true =>
    have := lexL_tr _ _ _ h q
    rw [lexL_irr] at this
    cases this
theorem swo_key (k : Value → List Int) : SrtO.Swo fun v u => lexL (k v) (k u) := by
  refine ⟨fun _ _ h => lexL_asym h, fun x y z h1 h2 => ?_⟩
  cases q : lexL (k z) (k x) with
  | false => rfl
  | true =>
    rcases lexL_tri (k y) (k x) with a | a | a
    · rw [h1] at a; cases a
    · rw [a] at h2; rw [q] at h2; cases h2
    · have := lexL_tr _ _ _ q a
      rw [h2] at this; cases this
section
variable {prog : Program} {w : World} {A : Around} {s : Shared}
theorem kat_ints {Q : Bool → Shared → Prop} : ∀ {xs ys : List Value} {ns ms : List Int}, IntsAre xs ns → IntsAre ys ms → ∀ (i : Nat) (fin : Bool), fin = decide (xs.length < ys.length) → Q (lexL ns ms) s → PySem.W.KatLex prog w A true fin Q (xs.zip ys) i s
  | _, _, _, _, .nil, .nil, i, fin, e, h => by
    have e' : fin = false := e
    rw [e']
    exact PySem.W.kat_nil h
  | _, _, _, _, .nil, .cons m u r, i, fin, e, h => by
    have e' : fin = true := by rw [e]; simp
    rw [e']
    exact PySem.W.kat_nil h
  | _, _, _, _, .cons n t r, .nil, i, fin, e, h => by
    have e' : fin = false := by rw [e]; simp
    rw [e']
    exact PySem.W.kat_nil h
  | _, _, _, _, .cons (ns := ns) (vs := xs) n t r, .cons (ns := ms) (vs := ys) m u r', i, fin, e, h => by
    show PySem.W.KatLex prog w A true fin Q ((.int n t, .int m u) :: xs.zip ys) i s
    have ef : fin = decide (xs.length < ys.length) := by
      rw [e]
      simp
    refine PySem.W.kat_cons (SeqAt.EqAt.int_int n t m u prog w _ _ ?_)
    refine PySem.W.kat_go (fun e1 => ?_) (fun e1 => ?_)
    · have en : n = m := by simpa using e1
      subst en
      have h' : Q (lexL ns ms) s := by
        unfold lexL at h
        rw [if_pos rfl] at h
        exact h
      exact PySem.W.kat_yes (kat_ints r r' (i + 1) fin ef h')
    · have en : ¬ n = m := by simpa using e1
      have h' : Q (decide (n < m)) s := by
        unfold lexL at h
        rw [if_neg en] at h
        exact h
      refine PySem.W.kat_no ?_
      cases i with
      | zero => exact oneLt_int h'
      | succ i =>
        have z : (true && (i + 1 == 0)) = false := rfl
        rw [z]
        exact PySem.W.kat_one _ _ (PyProof.Rows.lt_int h')
theorem tups_cmp {vs : List Value} {k : Value → List Int} (hp : ∀ v ∈ vs, TS.TupInts s.heap v (k v)) : SrtO.Cmp prog w A s (tuples' true) (fun p => p.1 ∈ vs) (SrtO.lt2 fun v u => lexL (k v) (k u)) := by
  intro p q hm hm'
  obtain ⟨a, xs, e1, ⟨o, ho, hc, n, hd⟩, i1⟩ := hp _ hm
  obtain ⟨b, ys, e2, ⟨o', ho', hc', n', hd'⟩, i2⟩ := hp _ hm'
  rw [e1, e2]
  refine PySem.W.kat_lt ho hd ho' hd' (kat_ints i1 i2 0 _ (by simp) ?_)
  exact ⟨rfl, rfl⟩
theorem heads_of {h : Heap} : ∀ {vs : List Value}, (∀ v ∈ vs, ∃ ns, TS.TupInts h v ns ∧ ns ≠ []) → ∃ fs : List Value, PySem.W.KatTups h vs fs ∧ fs.length = vs.length ∧ ∀ f ∈ fs, ∃ x t, f = Value.int x t
  | [], _ => ⟨[], PySem.W.KatTups.nil, rfl, fun _ hm => by simp at hm⟩
  | v :: vs, hp => by
    obtain ⟨fs, h1, h2, h3⟩ := heads_of (vs := vs) fun u hm => hp u (List.mem_cons_of_mem _ hm)
    obtain ⟨ns, ⟨a, xs, rfl, ⟨o, ho, hc, n, hd⟩, i⟩, hn⟩ := hp v List.mem_cons_self
    have : ∃ x t rest, xs.toList = Value.int x t :: rest := by
      generalize xs.toList = l at i
      cases i with
      | nil => exact absurd rfl hn
      | cons x t r => exact ⟨_, _, _, rfl⟩
    obtain ⟨x, t, rest, ex⟩ := this
    have e0 : xs[0]? = some (Value.int x t) := by
      rw [← Array.getElem?_toList, ex]
      rfl
    refine ⟨.int x t :: fs, PySem.W.KatTups.cons ho hc hd e0 h1, by rw [List.length_cons, List.length_cons, h2], fun f hm => ?_⟩
    rcases List.mem_cons.mp hm with z | z
    · exact ⟨x, t, z⟩
    · exact h3 f z
theorem tups_sortable {a : Addr} {vs : List Value} {k : Value → List Int} (h0 : 0 < vs.length) (hp : ∀ v ∈ vs, TS.TupInts s.heap v (k v) ∧ k v ≠ []) (ha : ∀ o, s.heap.get? a = some o → o.cls ≠ .type "tuple") : SrtO.SortableO prog w A s a vs fun v u => lexL (k v) (k u) := by
  intro h' keep
  have hp' : ∀ v ∈ vs, TS.TupInts h' v (k v) := fun v hm => (hp v hm).1.keeps fun b o e c => keep b o (fun z => ha o (by rw [← z]; exact e) c) e
  obtain ⟨fs, h1, h2, h3⟩ := heads_of fun v hm => ⟨_, hp' v hm, (hp v hm).2⟩
  refine ⟨tuples' true, fun Q E hq => ?_, tups_cmp hp'⟩
  refine PySem.W.kat_kind (T := .type "int") h1 (by omega) (fun f hm => ?_) (by rfl) ?_
  · obtain ⟨x, t, rfl⟩ := h3 f hm
    exact PySem.W.Looks.now
  · have e : (Value.type "int" != Value.type "tuple") = true := by first | decide +kernel | rfl | decide
    rw [e]
    exact hq
end
end PLS
namespace PL
open PySem PySem.Spec PyProof.Rows L2 PLS
section
variable {X : Cx}
/-- sorted(xs), xs a list of tuples of whole numbers -/
def rSrt (K : PySem.W.Frag) : List V → Hp → VK → Prop := fun vs H Q => ∃ (a : Addr) (xs : List V), vs = [V.ref a] ∧ SqL K H a xs ∧ (∀ x ∈ xs, ∃ ns, TupI K H x ns ∧ ns ≠ []) ∧
  ∀ (ys : List V) (p : Addr), ys.Perm xs → ys.Pairwise (fun x y => ∀ n m, TupI K H x n → TupI K H y m → lexL m n = false) → H p = none → Q (.ref p) (upd H p (.lst ys))
theorem cr_srt : CallR X (.builtin "sorted") (rSrt X.K) := by
  intro pins s σ H vs us Q I r h
  obtain ⟨a, xs, rfl, hs, hx, q⟩ := h
  obtain ⟨its, rv, hl, hz⟩ := I.list hs
  rw [Vals.ref1 r]
  obtain ⟨e1, e2⟩ := refs_back rv fun x m => by
    obtain ⟨ns, ⟨t, e, _⟩, _⟩ := hx x m
    exact ⟨t, e⟩
  have raw : ∀ v ∈ its, TS.TupInts s.heap v (TS.intsOf s.heap v) ∧ TS.intsOf s.heap v ≠ [] := fun v hv => by
    obtain ⟨t, rfl⟩ := e2 v hv
    have hm : V.ref t ∈ xs := by rw [e1]; exact List.mem_map.mpr ⟨_, hv, rfl⟩
    obtain ⟨ns, ⟨t', e, ht⟩, hn⟩ := hx _ hm
    cases e
    have z := tupI_raw I ht
    rw [z.ints]
    exact ⟨z, hn⟩
  refine SrtO.sorted_ord (swo_key (TS.intsOf s.heap)) hl.isList (by rw [← rv.length]; exact hz) (fun h2 h₁ b hb kk => ?_) fun out h1 h2 => ?_
  · refine tups_sortable (s := { s with heap := h₁ }) (by omega) (fun v hm => ⟨(raw v hm).1.keeps fun c o e _ => (kk c o e).2, (raw v hm).2⟩) fun o e c => ?_
    have e' : some o = some (seqObj "list" its.toArray 0) := e.symm.trans hb
    cases e'
    exact absurd (Value.type.inj c) (by decide)
  · have h3 : ∀ u ∈ out, ∃ a, u = Value.ref a := fun u hu => e2 u (h2.perm.mem_iff.mp hu)
    obtain ⟨ep, hep⟩ := sortedAll_at s.heap its out.toArray
    have hp : (out.map backV).Perm xs := by rw [e1]; exact h2.perm.map backV
    refine ⟨.ref _, upd H (s.heap.objs.size + 1) (.lst (out.map backV)), I.laid (t' := s.toks) (fun _ _ => sortedAll_old) (Nat.le_succ _) ⟨by rw [hp.length_eq]; exact hz, out, ep, vals_back h3, hep⟩, rfl, q _ _ hp ?_ (I.hok.fresh (Nat.le_succ _))⟩
    rw [List.pairwise_map]
    refine h1.imp_of_mem fun {u v} hu hv huv n m hn hm => ?_
    obtain ⟨t, rfl⟩ := h3 u hu
    obtain ⟨t', rfl⟩ := h3 v hv
    obtain ⟨t2, et, ht⟩ := hn
    obtain ⟨t3, et', ht'⟩ := hm
    cases et; cases et'
    have i1 := (tupI_raw I ht).ints
    have i2 := (tupI_raw I ht').ints
    rw [← i1, ← i2]
    exact huv
/-- sorted(set), a set of tuples of whole numbers -/
def rSrtS (K : PySem.W.Frag) (P : Program) (w : World) : List V → Hp → VK → Prop := fun vs H Q => ∃ (a : Addr) (L : List (Addr × List Int)), vs = [V.ref a] ∧ H a = some (SetTO P w a L) ∧ (∀ p ∈ L, SqT K H p.1 (p.2.map V.int) ∧ p.2 ≠ []) ∧
  ∀ (L' : List (Addr × List Int)) (p : Addr), L'.Perm L → (L.map (·.2)).Nodup → L'.Pairwise (fun q r => lexL r.2 q.2 = false) → H p = none → Q (.ref p) (upd H p (.lst (L'.map fun q => V.ref q.1)))
theorem back_rows : ∀ (L : List (Addr × List Int)) {vs : List Value}, (∀ v ∈ vs, ∃ q ∈ L, v = Value.ref q.1) → ∃ L1 : List (Addr × List Int), vs = L1.map (fun q => Value.ref q.1) ∧ ∀ q ∈ L1, q ∈ L
  | L, [], _ => ⟨[], rfl, fun _ h => by cases h⟩
  | L, v :: vs, h => by
    obtain ⟨q, hq, e⟩ := h v List.mem_cons_self
    obtain ⟨M, e1, hs⟩ := back_rows L fun u hu => h u (List.mem_cons_of_mem _ hu)
    refine ⟨q :: M, by rw [e, e1]; rfl, fun r hr => ?_⟩
    cases hr with
    | head => exact hq
    | tail _ z => exact hs r z
theorem cr_srtS (hc : X.calm = true) : CallR X (.builtin "sorted") (rSrtS X.K X.prog X.w) := by
  intro pins s σ H vs us Q I r h
  obtain ⟨a, L, rfl, ha, hk, q⟩ := h
  have R0 : SetT0 X.prog X.w s.heap a L := (I.hok a _ ha).1
  obtain ⟨es, ep, t, R⟩ := R0.full fun p hp => I.isT (hk p hp).1
  rw [Vals.ref1 r]
  obtain ⟨o, ho, hex, hd⟩ := R.ob
  have hfew := R.few
  have hsz := R.size
  have rows : es.toList.map (·.2) = L.map fun q => Value.ref q.1 := by
    rw [R.rows]
    unfold rowsOf
    rw [List.map_map] <;> rfl
  refine Calls.call_function_entry kind_sorted plain_sorted entry_sorted (args_sorted1 _) ?_
  unfold Builtin.«sorted»
  refine wpAny_bind (m := checkCount "sorted" 1 1 _) (wpAny_pure (wpAny_bind (collect_set (A := X.A.in1) (I.ok.hd hc) ⟨o, ho, hex.1, hd⟩ R.fits (by unfold scanBound; omega) R.tab.ris R.led fun s1 ws k1 hz g1 o1 pm => ?_)))
  rw [rows] at pm
  have hlen : ws.length = L.length := by rw [pm.length_eq, List.length_map]
  have small : ws.length ≤ sizeLine := by rw [hlen, sizeLine_eq]; omega
  refine wpAny_bind (wpAny_newList ?_ small)
  have top : (s1.heap.push (seqObj "list" ws.toArray 0)).get? s1.heap.objs.size = some (seqObj "list" ws.toArray 0) := Heap.get?_push_size _ rfl
  generalize hh1 : s1.heap.push (seqObj "list" ws.toArray 0) = h1 at top
  have keep1 : ∀ b u, s.heap.get? b = some u → h1.get? b = some u := fun b u e => by rw [← hh1]; exact Heap.get?_push_of_some _ (k1 b u e)
  have raw : ∀ p ∈ L, TS.TupInts h1 (.ref p.1) p.2 := fun p hp => (tupI_raw I (hk p hp).1).keeps fun b u e _ => keep1 b u e
  have each : ∀ v ∈ ws, ∃ p ∈ L, v = Value.ref p.1 := fun v hv => by
    obtain ⟨p, hp, e⟩ := List.mem_map.mp (pm.mem_iff.mp hv)
    exact ⟨p, hp, e.symm⟩
  have sortable : 2 ≤ ws.length → SrtO.SortableO X.prog X.w X.A.in1.in1 { s1 with heap := h1 } s1.heap.objs.size ws fun v u => lexL (TS.intsOf h1 v) (TS.intsOf h1 u) := fun h2 => by
    refine tups_sortable (s := { s1 with heap := h1 }) (by omega) (fun v hv => ?_) fun u e c => ?_
    · obtain ⟨p, hp, rfl⟩ := each v hv
      have z := raw p hp
      rw [z.ints]
      exact ⟨z, (hk p hp).2⟩
    · have e' : some u = some (seqObj "list" ws.toArray 0) := e.symm.trans top
      cases e'
      exact absurd (Value.type.inj c) (by decide)
  refine wpAny_bind (wpAny_holding (wpAny_call_entry (s := { s1 with heap := h1 }) slot_list_sort ⟨_, top, rfl⟩ entry_list_sort (SrtO.list_sort_ord (swo_key (TS.intsOf h1)) top small sortable fun out so sb => ⟨_, rfl, ?_⟩) (args_list_sort _)))
  obtain ⟨c, hcc⟩ := sortedHeap_at (vs := ws) (out := out.toArray) top
  obtain ⟨L', e', hs'⟩ := back_rows L fun v hv => each v (sb.perm.mem_iff.mp hv)
  have inj : ∀ p ∈ L, ∀ r ∈ L, p.1 = r.1 → p = r := fun p hp r hr e => by
    have z1 := R.tup p hp
    have z2 := R.tup r hr
    rw [e] at z1
    exact Prod.ext e (z1.inj z2)
  have nL : L.Nodup := nodup_of_map R.nd
  have nref : (L.map fun q => Value.ref q.1).Nodup := List.pairwise_map.mpr (List.Pairwise.imp_of_mem (fun {p r} hp hr ne e => ne (inj p hp r hr (Value.ref.inj e))) nL)
  have pref : (L'.map fun q => Value.ref q.1).Perm (L.map fun q => Value.ref q.1) := by rw [← e']; exact sb.perm.trans pm
  have nL' : L'.Nodup := nodup_of_map (pref.nodup_iff.mpr nref)
  have pL : L'.Perm L := (List.perm_ext_iff_of_nodup nL' nL).mpr fun p => ⟨hs' p, fun hp => by
    obtain ⟨r, hr, e⟩ := List.mem_map.mp (pref.mem_iff.mpr (List.mem_map.mpr ⟨p, hp, rfl⟩))
    rw [← inj r (hs' r hr) p hp (Value.ref.inj e)]
    exact hr⟩
  have pw : L'.Pairwise (fun p r => lexL r.2 p.2 = false) := by
    rw [e'] at so
    refine List.Pairwise.imp_of_mem (fun {p r} hp hr hle => ?_) (List.pairwise_map.mp so)
    rw [← (raw p (hs' p hp)).ints, ← (raw r (hs' r hr)).ints]
    exact hle
  have news : ∀ b u, s.heap.get? b = some u → (sortedHeap h1 s1.heap.objs.size ws out.toArray).get? b = some u := fun b u e => by
    have z := k1 b u e
    have lt := Heap.lt_size z
    rw [sortedHeap_old (Nat.ne_of_lt lt) (by rw [← hh1, size_push']; exact Nat.lt_succ_of_lt lt)]
    exact keep1 b u e
  have hn : H s1.heap.objs.size = none := I.hok.fresh hz
  have hv : Vals (L'.map fun q => V.ref q.1) out := by rw [e']; exact vals_of_refs L'
  have fin : ∀ s2 : Shared, s2.heap = sortedHeap h1 s1.heap.objs.size ws out.toArray → s2.gens = s.gens → s2.os = s.os → EP X pins σ Q (.ref s1.heap.objs.size) s2 := fun s2 eh eg eo => by
    have J : Inv X pins σ (upd H s1.heap.objs.size (.lst (L'.map fun q => V.ref q.1))) s2 :=
      I.call' (ch := []) eo (Un.laid (by rw [eh]; exact news) hz hn) (I.hok.laid (by rw [eh]; exact news) hz ⟨by rw [List.length_map, pL.length_eq, sizeLine_eq]; omega, out, c, hv, by rw [eh]; exact hcc⟩) (by rw [eg]; exact I.bare) (fun _ z => nomatch z)
    exact ⟨.ref _, _, J, rfl, q L' _ pL R.nd pw hn⟩
  exact wpAny_pure ⟨_, rfl, fin _ rfl g1 o1⟩
end
end PL
/-! a set of tuples of whole numbers made by a comprehension -/
namespace PL
open PySem PySem.Spec PyProof.Rows L2 PLS PpSet
section
variable {X : Cx}
theorem addT {pins : List (Addr × Obj)} {σ : L2.St} {H : Hp} {s : Shared} {E : Value → Shared → Prop} {D c : Addr} {L : List (Addr × List Int)} {k : List Int} {Q : Value → Shared → Prop} (I : Inv X pins σ H s) (hD : H D = some (SetTO X.prog X.w D L))
    (hk : SqT X.K H c (k.map V.int)) (hL : ∀ p ∈ L, SqT X.K H p.1 (p.2.map V.int)) (hu : X.A.units + 64 < cLine) (few : L.length + 1 < 64)
    (h : ∀ L' s', (k ∈ L.map (·.2) → L' = L) → (k ∉ L.map (·.2) → L'.Perm ((c, k) :: L)) → Inv X pins σ (upd H D (SetTO X.prog X.w D L')) s' → Q .none s') : wpAny (model X.prog X.w) X.A (call (.builtin "set.add") [.ref D, .ref c]) Q E s := by
  have R0 : SetT0 X.prog X.w s.heap D L := (I.hok D _ hD).1
  obtain ⟨es, ep, t, R⟩ := R0.full fun p hp => I.isT (hL p hp)
  obtain ⟨o, ho, hex, hd⟩ := R.ob
  have ty : s.TypeIs (.ref D) "set" := ⟨o, ho, hex.1⟩
  refine wpAny_call_entry F.slot_set_add ty F.entry_set_add ?_ (F.args_set_add_2 _ _)
  unfold Builtin.«set.add» Builtin.Frozenset.oneOther
  simp only [List.isEmpty_nil, bind_assoc]
  unfold Builtin.Frozenset.addrOf setAdd
  refine wpAny_bind (wpAny_pure ?_)
  try dsimp only
  refine wpAny_bind (wpAny_pure ?_)
  try dsimp only
  refine wpAny_bind (wpAny_holding (wpAny_bind (wpAny_pyHash_tuple (by show X.A.units + 1 < cLine; omega) (I.isT hk) ?_)))
  refine add_at (s := { s with toks := s.toks + (k.length + 1) }) R (I.isT hk) (by show X.A.units + 1 < cLine; omega) few fun b h' L' es' ep' t' sb R' c1 c2 => ?_
  show wpAny _ _ (ret Value.none) _ _ _
  obtain ⟨o', ho', _⟩ := R'.ob
  exact wpAny_pure ⟨_, rfl, h L' _ c1 c2 (I.write (e := D) (t' := s.toks + (k.length + 1)) (by rw [hD]; trivial) (.inl rfl) (fun b u hb hu => (sb.2 b hb).trans hu) ⟨o', ho'⟩ (setTO_new R'.t0))⟩
end
/-- {elt for target in iter if ..}, elt a tuple of whole numbers; D is the new set -/
def tSt (X : Cx) (wi : TI) (g : TG) (tt : TT) (te : TE) (vs : List Nat) : TE := fun σ H Q => wi σ H fun J H1 => ∀ D, H1 D = none → ∃ W : Nat → Nat → Hp → Prop, (∃ m, W 0 m (upd H1 D (SetTO X.prog X.w D []))) ∧ ∀ i m H, W i m H →
  (J.stop i H ∧ Q (.ref D) H) ∨ (J.go i H ∧ ∃ Nx : Hp → Prop, (∀ H', Nx H' → ∃ m', m' < m ∧ W (i + 1) m' H') ∧ ∀ x H', J.yld i H x H' → g x (L2.wipe σ vs) H' fun σ2 H2 => L2.wipe σ2 vs = L2.wipe σ vs ∧ tt σ2 H2 fun b H3 =>
    if b = true then te σ2 H3 fun y H4 => ∃ (c : Addr) (k : List Int) (L : List (Addr × List Int)), y = .ref c ∧ SqT X.K H4 c (k.map V.int) ∧ H4 D = some (SetTO X.prog X.w D L) ∧ (∀ p ∈ L, SqT X.K H4 p.1 (p.2.map V.int)) ∧ L.length + 1 < 64 ∧
      ∀ L', (k ∈ L.map (·.2) → L' = L) → (k ∉ L.map (·.2) → L'.Perm ((c, k) :: L)) → Nx (upd H4 D (SetTO X.prog X.w D L'))
    else Nx H3)
section
variable {X : Cx}
theorem st_core {pins : List (Addr × Obj)} {s : Shared} {σ : L2.St} {H : Hp} {Q : VK} {elt tg iter : Expr} {ifs : List Expr} {scope : Scope} {own : List (PySem.Str × Nat)} {pos pos' : Pos} {wi : TI} {g : TG} {tt : TT} {te : TE} {use : Option (Value → Sem Unit)} {Qf : Value → Shared → Prop}
    (hc : X.calm = true) (hu : X.A.units + 64 < cLine) (hN : X.N.Nodup) (I : Inv X pins σ H s) (hi : PI X tg iter wi) (ok : BlkOk X.N X.env.scope scope own)
    (hg : ∀ (s : Shared) (H : Hp) (C : Addr) (cl : List (PySem.Str × Addr)) (fp : List Addr), PG (X.blk s H scope (compEnvC scope cl C X.env) fp) tg g)
    (ht : ∀ (s : Shared) (H : Hp) (C : Addr) (cl : List (PySem.Str × Addr)) (fp : List Addr), PTs (X.blk s H scope (compEnvC scope cl C X.env) fp) ifs tt)
    (he : ∀ (s : Shared) (H : Hp) (C : Addr) (cl : List (PySem.Str × Addr)) (fp : List Addr), PE (X.blk s H scope (compEnvC scope cl C X.env) fp) elt te) (hs : ∀ x, foldedSetIterable iter X.env x = pure x)
    (h : tSt X wi g tt te (own.map (·.2)) σ H Q)
    (back : ∀ D C s' m H', Inv X pins σ H' s' → Q (.ref D) H' → s'.heap.Ns C m → FpOk X pins H' C → compPost (model X.prog X.w) X.A X.xe use Qf (.ref D) C (.ok .next) s') :
    wpAny (model X.prog X.w) X.A (comprehension (.SetComp elt [⟨tg, iter, ifs, 0⟩] scope pos) scope X.env pos' (newSet (.type "set")) false (eval iter X.env) use) Qf X.xe s := by
  have frees : ∀ y ∈ scope.names, y.2 = .free → ∃ c, X.env.cells.lookup y.1 = some c := fun y hy e => (ok.free y hy e).elim (fun k => I.ok.has _ (.inl k)) fun k => I.ok.has _ (.inr k)
  refine wpAny_comprehension_free (use := use) rfl hs (closure_ok frees) ok.kind (fun y hy e => by rw [ok.uniq y hy, e]) (thn (hi.run pins s σ H _ I h) fun xv s1 hx => thn hx fun itv s2 h2 => ?_)
  obtain ⟨it, fp, tn, J, H2, rfl, I2, T, st2, f2, q⟩ := h2
  refine newSet_ok (newEnv_comp ?_)
  obtain ⟨D, hD⟩ : ∃ D, D = s2.heap.objs.size := ⟨_, rfl⟩
  have hDn : H2 D = none := I2.hok.fresh (Nat.le_of_eq hD.symm)
  obtain ⟨W, ⟨m0, w0⟩, turn⟩ := q D hDn
  rw [← hD]
  have old : ∀ b o, s2.heap.get? b = some o → (s2.heap.push { cls := .type "set", dict := none, data := .set #[] 0 (.fresh 0 0 (!X.w.params.followText "set-order")) }).get? b = some o := fun b o e => Heap.get?_push_of_some _ e
  have born : (s2.heap.push { cls := .type "set", dict := none, data := .set #[] 0 (.fresh 0 0 (!X.w.params.followText "set-order")) }).get? D = some { cls := .type "set", dict := none, data := .set #[] 0 (.fresh 0 0 (!X.w.params.followText "set-order")) } := by rw [hD]; exact Heap.get?_push_size _ rfl
  have size3 : (s2.heap.push { cls := .type "set", dict := none, data := .set #[] 0 (.fresh 0 0 (!X.w.params.followText "set-order")) }).objs.size = s2.heap.objs.size + 1 := by rw [Heap.size_push]
  generalize s2.heap.push { cls := .type "set", dict := none, data := .set #[] 0 (.fresh 0 0 (!X.w.params.followText "set-order")) } = h3 at old born size3 ⊢
  obtain ⟨s3, es3⟩ : ∃ s3 : Shared, s3 = { s2 with heap := h3 } := ⟨_, rfl⟩
  have e3 : s3.heap = h3 := by rw [es3]
  have I3 : Inv X pins σ (upd H2 D (SetTO X.prog X.w D [])) s3 := by
    rw [es3]
    exact I2.laid (t' := s2.toks) old (Nat.le_of_eq hD.symm) (setTO_new (setTR_fresh born).t0)
  have young : ∀ b ∈ fp, b < s2.heap.objs.size := fun b hb => let ⟨o, e, _⟩ := T.obj _ _ st2 b hb; Heap.lt_size e
  have f3 : ∀ b ∈ fp, FpOk X pins (upd H2 D (SetTO X.prog X.w D [])) b ∧ b < s3.heap.objs.size := fun b hb => by
    have lt := young b hb
    refine ⟨⟨?_, (f2 b hb).2⟩, by rw [e3, size3]; exact Nat.lt_succ_of_lt lt⟩
    rw [upd_ne (by rw [hD]; exact Nat.ne_of_lt lt)]
    exact (f2 b hb).1
  have st3 : tn 0 s3.heap := T.keep _ _ _ st2 fun b _ o e => by rw [e3]; exact old b o e
  obtain ⟨H3, eH3⟩ : ∃ H3, H3 = upd H2 D (SetTO X.prog X.w D []) := ⟨_, rfl⟩
  rw [← eH3] at I3 f3 w0
  have I4 := block_start I3 ok hN f3
  have pg := hg s3 H3 s3.heap.objs.size (cellsFrom (s3.heap.objs.size + 1) scope.names (cloFrom X.env.cells scope.names [])) fp
  have pt := ht s3 H3 s3.heap.objs.size (cellsFrom (s3.heap.objs.size + 1) scope.names (cloFrom X.env.cells scope.names [])) fp
  have pe := he s3 H3 s3.heap.objs.size (cellsFrom (s3.heap.objs.size + 1) scope.names (cloFrom X.env.cells scope.names [])) fp
  have nfp : ∀ b ∈ fp, H3 b = none := fun b hb => (f3 b hb).1.1
  have entry : ∀ (P : Prop), (codeAny (model X.prog X.w) X.A (.compStart (.SetComp elt [⟨tg, iter, ifs, 0⟩] scope pos) 0 (.ref it) (.ref D) (compEnvC scope (cellsFrom (s3.heap.objs.size + 1) scope.names (cloFrom X.env.cells scope.names [])) s3.heap.objs.size X.env)) (compPost (model X.prog X.w) X.A X.xe use Qf (.ref D) s3.heap.objs.size) { s3 with heap := pushCells (s3.heap.push { cls := .type "dict", data := .dict #[] }) scope.names } → P) → (codeAny (model X.prog X.w) X.A (.compStart (.SetComp elt [⟨tg, iter, ifs, 0⟩] scope pos) 0 (.ref it) (.ref D) (compEnvC scope (cellsFrom (s3.heap.objs.size + 1) scope.names (cloFrom X.env.cells scope.names [])) s3.heap.objs.size X.env)) (compPost (model X.prog X.w) X.A X.xe use Qf (.ref D) s3.heap.objs.size) { s3 with heap := pushCells (s3.heap.push { cls := .type "dict", data := .dict #[] }) scope.names }) → P := fun P f x => f x
  refine entry _ (fun x => ?_) ?_
  · rw [es3] at x
    exact x
  clear entry
  generalize hce : compEnvC scope (cellsFrom (s3.heap.objs.size + 1) scope.names (cloFrom X.env.cells scope.names [])) s3.heap.objs.size X.env = ce at I4 pg pt pe ⊢
  have cL : ce.locals = s3.heap.objs.size := by rw [← hce]; rfl
  generalize hs4 : ({ s3 with heap := pushCells (s3.heap.push { cls := .type "dict", data := .dict #[] }) scope.names } : Shared) = s4 at I4 ⊢
  have st4 : tn 0 s4.heap := T.keep _ _ _ st3 fun b _ o e => by rw [← hs4]; exact pushCells_keeps _ _ _ _ (Heap.get?_push_of_some _ e)
  have stay : ∀ {σ' : L2.St} {H' : Hp} {s' : Shared}, Inv (X.blk s3 H3 scope ce fp) [] σ' H' s' → (∀ b ∈ fp, H' b = none) → ∀ b ∈ fp, FpOk (X.blk s3 H3 scope ce fp) [] H' b := fun {σ' H' s'} J hn b hb =>
    ⟨hn b hb, (J.ok.exf b hb).1, J.ok.exfs b hb, .inl hb, fun x c e => (J.ok.exf b hb).2 x c e, fun p hp => by cases hp⟩
  have loop : codeAny (model X.prog X.w) X.A (.compLoop (.SetComp elt [⟨tg, iter, ifs, 0⟩] scope pos) 0 (.ref it) (.ref D) ce) (compPost (model X.prog X.w) X.A X.xe use Qf (.ref D) s3.heap.objs.size) s4 := by
    refine compLoopS_any (fun n z => ∃ i H', Inv (X.blk s3 H3 scope ce fp) [] (L2.wipe σ (own.map (·.2))) H' z ∧ tn i z.heap ∧ (∀ b ∈ fp, H' b = none) ∧ W i n H') ?_ m0 ⟨0, H3, I4, st4, nfp, w0⟩
    rintro n s5 ⟨i, H5, I5, st5, n5, w5⟩
    rcases turn i n H5 w5 with ⟨stop, qq⟩ | ⟨go, Nx, hNx, step⟩
    · refine thnF (T.done (X.blk s3 H3 scope ce fp) rfl rfl rfl hc i [] s5 _ H5 (fun _ _ => False) I5 (stay I5 n5) st5 stop) fun r s6 ⟨hr, I6⟩ => ?_
      cases hr
      have I7 : Inv X pins σ H5 s6 := I3.call' (ch := fp) I6.os I6.base I6.hok I6.bare fun b hb => ⟨(f3 b hb).1.2.2.2.1, (f3 b hb).1.2.1, (f3 b hb).1.2.2.2.2.1, (f3 b hb).1.2.2.2.2.2⟩
      have free : H5 ce.locals = none := I6.free
      obtain ⟨m, hn, _⟩ := I6.loc
      have hn' : s6.heap.Ns ce.locals m := hn
      rw [cL] at free hn'
      exact back D s3.heap.objs.size s6 m H5 I7 qq hn' (I3.fpOk (Nat.le_refl _) free)
    · refine thnF (T.item (X.blk s3 H3 scope ce fp) rfl rfl rfl hc i [] s5 _ H5 (fun _ _ => False) I5 (stay I5 n5) st5 go) fun r s6 ⟨u, hr, h6⟩ => ?_
      cases hr
      refine thnF h6 fun _ s7 ⟨x, H7, I7, r7, y7, st7, n7⟩ => ?_
      refine thnF (pg.run _ s7 _ H7 x u _ (I7.pinned (stay I7 n7) (T.obj _ _ st7)) r7 (step x H7 y7)) fun _ s8 ⟨σ8, H8, I8, hw8, q8⟩ => ?_
      refine thnF (pt.run _ s8 σ8 H8 _ I8 q8) fun b s9 ⟨H9, I9, q9⟩ => ?_
      have last : ∀ {z : Shared} {H' : Hp}, Inv (X.blk s3 H3 scope ce fp) ([] ++ pinsAt fp s7.heap) σ8 H' z → Nx H' → ∃ m, m < n ∧ ∃ i H', Inv (X.blk s3 H3 scope ce fp) [] (L2.wipe σ (own.map (·.2))) H' z ∧ tn i z.heap ∧ (∀ b ∈ fp, H' b = none) ∧ W i m H' := fun {z H'} J nx => by
        obtain ⟨m', hm, w'⟩ := hNx H' nx
        have pin : ∀ b ∈ fp, ∀ o, s7.heap.get? b = some o → z.heap.get? b = some o ∧ H' b = none := fun b hb o e => by
          have y := J.pin (b, o) (List.mem_append_right _ (List.mem_append_right _ (mem_pinsAt hb e)))
          exact ⟨y.1, y.2.1⟩
        have len : (L2.wipe σ (own.map (·.2))).length = σ8.length := by rw [← hw8, wipe_length]
        refine ⟨m', hm, i + 1, H', (J.unpinned (pins := [])).weak len (fun j v e => by rw [← hw8] at e; exact (wipe_some e).1), T.keep _ _ _ st7 fun b hb o e => (pin b hb o e).1, fun b hb => ?_, w'⟩
        obtain ⟨o, e, _⟩ := T.obj _ _ st7 b hb
        exact (pin b hb o e).2
      cases b with
      | false =>
        simp only [Bool.false_eq_true, if_false] at q9 ⊢
        exact last I9 q9
      | true =>
        simp only [if_true] at q9 ⊢
        refine thnF (pe.run _ s9 σ8 H9 _ I9 q9) fun z s10 ⟨yv, H10, I10, r10, c, k, L, ey, hk, hD10, hL, few, nx⟩ => ?_
        subst ey
        cases (show z = Value.ref c from r10)
        exact addT (X := X.blk s3 H3 scope ce fp) I10 hD10 hk hL hu few fun L' s11 c1 c2 I11 => last I11 (nx L' c1 c2)
  exact codeAny_compStart_set loop (T.self X.A 0 _ _ _ st4 loop)
theorem pe_st {elt tg iter : Expr} {ifs : List Expr} {scope : Scope} {own : List (PySem.Str × Nat)} {pos : Pos} {wi : TI} {g : TG} {tt : TT} {te : TE} (hc : X.calm = true) (hu : X.A.units + 64 < cLine) (hN : X.N.Nodup) (hi : PI X tg iter wi) (ok : BlkOk X.N X.env.scope scope own)
    (hg : ∀ (s : Shared) (H : Hp) (C : Addr) (cl : List (PySem.Str × Addr)) (fp : List Addr), PG (X.blk s H scope (compEnvC scope cl C X.env) fp) tg g)
    (ht : ∀ (s : Shared) (H : Hp) (C : Addr) (cl : List (PySem.Str × Addr)) (fp : List Addr), PTs (X.blk s H scope (compEnvC scope cl C X.env) fp) ifs tt)
    (he : ∀ (s : Shared) (H : Hp) (C : Addr) (cl : List (PySem.Str × Addr)) (fp : List Addr), PE (X.blk s H scope (compEnvC scope cl C X.env) fp) elt te) (hs : ∀ x, foldedSetIterable iter X.env x = pure x := by intro _; rfl) :
    PE X (.SetComp elt [⟨tg, iter, ifs, 0⟩] scope pos) (tSt X wi g tt te (own.map (·.2))) := by
  refine ⟨fun pins s σ H Q I h => ?_⟩
  rw [eval_SetComp]
  refine st_core hc hu hN I hi ok hg ht he hs h fun D C s' m H' J q hn f => ⟨m, hn, fun h'' sb => ?_⟩
  obtain ⟨f0, f1, f2, f3, f4, f5⟩ := f
  exact ⟨.ref D, H', J.turned (t' := s'.toks) (fun b o hb e => (sb.2 b hb).trans e) f0 f1 f3 f4 f5, rfl, q⟩
end
end PL
/-! sorted rows of tuples of whole numbers, as data -/
namespace PL
open PySem PySem.Spec PyProof.Rows L2 PLS
abbrev tD (k : List Int) : D := .tuple (k.map PyData.int)
def isI : D → Bool
  | .int _ => true
  | _ => false
def iD : D → Int
  | .int i => i
  | _ => 0
/-- a tuple of whole numbers, not empty -/
def isTD : D → Bool
  | .tuple ds => ds.all isI && !ds.isEmpty
  | _ => false
def bkD : D → List Int
  | .tuple ds => ds.map iD
  | _ => []
theorem iD_back : ∀ {ds : List D}, ds.all isI = true → (ds.map iD).map PyData.int = ds
  | [], _ => rfl
  | d :: ds, h => by
    rw [List.all_cons, Bool.and_eq_true] at h
    rw [List.map_cons, List.map_cons, iD_back h.2]
    cases d <;> first | rfl | cases h.1
theorem tD_of {d : D} (h : isTD d = true) : d = tD (bkD d) ∧ bkD d ≠ [] := by
  cases d <;> first | cases h | skip
  rename_i ds
  unfold isTD at h
  rw [Bool.and_eq_true] at h
  refine ⟨?_, fun z => ?_⟩
  · show PyData.tuple ds = PyData.tuple ((ds.map iD).map PyData.int)
    rw [iD_back h.1]
  · have : ds = [] := List.map_eq_nil_iff.mp z
    subst this
    cases h.2
theorem iD_fro (k : List Int) : (k.map PyData.int).map iD = k := by
  rw [List.map_map]
  have : iD ∘ PyData.int = id := rfl
  rw [this, List.map_id]
theorem bk_tD (k : List Int) : bkD (tD k) = k := iD_fro k
/-! the sorted row -/
def insS (k : List Int) : List (List Int) → List (List Int)
  | [] => [k]
  | y :: ys => if lexL y k = true then y :: insS k ys else k :: y :: ys
def sortS : List (List Int) → List (List Int)
  | [] => []
  | k :: ks => insS k (sortS ks)
def uniqS : List (List Int) → List (List Int)
  | [] => []
  | k :: ks => if k ∈ ks then uniqS ks else k :: uniqS ks
theorem ins_perm (k : List Int) : ∀ ks, (insS k ks).Perm (k :: ks)
  | [] => .refl _
  | y :: ys => by
    unfold insS
    split
    · exact ((ins_perm k ys).cons y).trans (.swap _ _ _)
    · exact .refl _
theorem sort_perm : ∀ ks, (sortS ks).Perm ks
  | [] => .refl _
  | k :: ks => (ins_perm k _).trans ((sort_perm ks).cons k)
abbrev Asc (l : List (List Int)) : Prop := l.Pairwise fun x y => lexL y x = false
theorem ins_asc {k : List Int} : ∀ {ks : List (List Int)}, Asc ks → Asc (insS k ks)
  | [], _ => List.pairwise_singleton _ _
  | y :: ys, h => by
    have h1 := List.pairwise_cons.mp h
    unfold insS
    by_cases q : lexL y k = true
    · rw [if_pos q]
      refine List.pairwise_cons.mpr ⟨fun z hz => ?_, ins_asc h1.2⟩
      rcases List.mem_cons.mp ((ins_perm k ys).mem_iff.mp hz) with e | e
      · subst e; exact lexL_asym q
      · exact h1.1 z e
    · rw [if_neg q]
      refine List.pairwise_cons.mpr ⟨fun z hz => ?_, h⟩
      have q' : lexL y k = false := by cases z2 : lexL y k <;> first | rfl | exact absurd z2 q
      rcases List.mem_cons.mp hz with e | e
      · subst e; exact q'
      · cases q2 : lexL z k with
        | false => rfl
        | true =>
          have a := h1.1 z e
          rcases lexL_tri y k with b | b | b
          · exact absurd b q
          · subst b; rw [a] at q2; cases q2
          · have := lexL_tr _ _ _ q2 b
            rw [a] at this; cases this
theorem sort_asc : ∀ ks, Asc (sortS ks)
  | [] => .nil
  | k :: ks => ins_asc (sort_asc ks)
theorem asc_unique : ∀ {l m : List (List Int)}, l.Perm m → Asc l → Asc m → l = m
  | [], m, p, _, _ => by rw [List.nil_perm.mp p]
  | x :: l, [], p, _, _ => absurd p.length_eq (by simp)
  | x :: l, y :: m, p, h1, h2 => by
    have a := List.pairwise_cons.mp h1
    have b := List.pairwise_cons.mp h2
    have e : x = y := by
      rcases List.mem_cons.mp (p.mem_iff.mp List.mem_cons_self) with e | e
      · exact e
      · rcases List.mem_cons.mp (p.mem_iff.mpr (List.mem_cons_self (a := y))) with e' | e'
        · exact e'.symm
        · have c := b.1 x e
          have d := a.1 y e'
          rcases lexL_tri x y with z | z | z
          · rw [c] at z; cases z
          · exact z
          · rw [d] at z; cases z
    subst e
    rw [asc_unique ((List.perm_cons x).mp p) a.2 b.2]
theorem uniq_mem {k : List Int} : ∀ {ks : List (List Int)}, k ∈ uniqS ks ↔ k ∈ ks
  | [] => .rfl
  | x :: ks => by
    unfold uniqS
    by_cases q : x ∈ ks
    · rw [if_pos q, uniq_mem, List.mem_cons]
      exact ⟨.inr, fun z => z.elim (fun e => by rw [e]; exact q) id⟩
    · rw [if_neg q, List.mem_cons, List.mem_cons, uniq_mem]
theorem uniq_nodup : ∀ ks : List (List Int), (uniqS ks).Nodup
  | [] => .nil
  | x :: ks => by
    unfold uniqS
    by_cases q : x ∈ ks
    · rw [if_pos q]; exact uniq_nodup ks
    · rw [if_neg q]
      exact List.nodup_cons.mpr ⟨fun z => q (uniq_mem.mp z), uniq_nodup ks⟩
/-- sorted(xs) -/
def srtD (ds : List D) : Option (List D) := if ds.all isTD = true ∧ ds.length ≤ sizeLine then some ((sortS (ds.map bkD)).map tD) else none
/-- sorted(set(xs)) -/
def srtU (ds : List D) : Option (List D) := if ds.all isTD = true ∧ ds.length < 64 then some ((sortS (uniqS (ds.map bkD))).map tD) else none
theorem DpAll.perm {K : PySem.W.Frag} {G : Hp} : ∀ {xs ys : List V}, ys.Perm xs → ∀ {ds : List D}, DpAll K G xs ds → ∃ es : List D, es.Perm ds ∧ DpAll K G ys es := by
  intro xs ys p
  induction p with
  | nil => exact fun h => ⟨_, .refl _, h⟩
  | cons x p ih =>
    intro ds h
    cases h with
    | cons a t =>
      obtain ⟨es, q, r⟩ := ih t
      exact ⟨_, q.cons _, .cons a r⟩
  | swap x y l =>
    intro ds h
    cases h with
    | cons a t => cases t with
      | cons b t => exact ⟨_, .swap _ _ _, .cons b (.cons a t)⟩
  | trans p1 p2 ih1 ih2 =>
    intro ds h
    obtain ⟨es, q, r⟩ := ih2 h
    obtain ⟨fs, q2, r2⟩ := ih1 r
    exact ⟨fs, q2.trans q, r2⟩
theorem ints_ofK {k : List Int} : intsOf (k.map PyData.int) = some k := by
  induction k with
  | nil => rfl
  | cons x k ih =>
    show (intsOf (k.map PyData.int)).map (x :: ·) = _
    rw [ih]
    rfl
theorem tup_ints {K : PySem.W.Frag} {G : Hp} {x : V} {k : List Int} (h : Dp K G x (tD k)) : ∃ t, x = .ref t ∧ SqT K G t (k.map V.int) := by
  cases h with
  | tup a b =>
    have e := ints_of b ints_ofK
    subst e
    exact ⟨_, rfl, a⟩
theorem dp_ints {K : PySem.W.Frag} {G : Hp} : ∀ k : List Int, DpAll K G (k.map V.int) (k.map PyData.int)
  | [] => .nil
  | x :: k => .cons (.int x) (dp_ints k)
theorem tup_dp {K : PySem.W.Frag} {G : Hp} {t : Addr} {k : List Int} (h : SqT K G t (k.map V.int)) : Dp K G (.ref t) (tD k) := .tup h (dp_ints k)
theorem all_back {ds : List D} (h : ds.all isTD = true) : ds = (ds.map bkD).map tD := by
  rw [List.map_map]
  have : ∀ d ∈ ds, (tD ∘ bkD) d = d := fun d hd => (tD_of (List.all_eq_true.mp h d hd)).1.symm
  rw [List.map_congr_left this, List.map_id'']
  intro d; rfl
section
variable {X : Cx} {pos : Pos}
def mSrt (F : M (List D)) (g : List D → Option (List D)) : M (List D) := mThen F fun ds => mLift (g ds)
/-- sorted(xs), xs data -/
def mSrtD (f : M D) : M (List D) := mThen f fun x => match x with
  | .list ds => mLift (srtD ds)
  | _ => fun _ _ => none
theorem P.srt {e : Expr} {f : M D} {p : Pos} (he : PE X e (tP X.K f)) (hg : Gl X "sorted") (hm : X.mg "sorted" = none) (hb : bootBuiltins "sorted" = some (.builtin "sorted") := by decide +kernel) (hs : starEach [e] X.env = (false, eval e X.env) :: starEach [] X.env := by rfl) (hpl : (backTo pos (starEach [] X.env)).any (·.1) = false := by rfl) :
    PE X (.Call (.Name "sorted" p) [e] [] pos) (tL X.K (mSrtD f)) := by
  refine peI (pe_callB cr_srt hg hm hb (pa_cons he pa_nil hs) (by decide) (by decide) hs hpl) fun σ H Q ⟨sk, G, ρ, s, ds, s', w, r, e, k⟩ => ?_
  obtain ⟨a, s1, q1, q⟩ := mThen_some e
  refine P.then w r q1 fun v G1 H1 w1 x1 r1 qv => ?_
  cases a with
  | list es =>
    obtain ⟨q2, rfl⟩ := mLift_some q
    unfold srtD at q2
    split at q2
    · rename_i hd
      cases q2
      obtain ⟨a, xs, rfl, h1, h2⟩ := Dp.lst_of qv
      have back := all_back hd.1
      have each : ∀ x ∈ xs, ∃ k, k ≠ [] ∧ Dp X.K G1 x (tD k) ∧ k ∈ es.map bkD := fun x hx => by
        obtain ⟨i, hi⟩ := List.getElem?_of_mem hx
        obtain ⟨d, hd1, hd2⟩ := DpAll.get' h2 hi
        have hm := List.mem_of_getElem? hd1
        obtain ⟨e1, e2⟩ := tD_of (List.all_eq_true.mp hd.1 d hm)
        exact ⟨bkD d, e2, by rw [← e1]; exact hd2, List.mem_map.mpr ⟨d, hm, rfl⟩⟩
      refine ⟨a, xs, rfl, SqL.up w1.sub h1, fun x hx => ?_, fun ys p pm pw hp => ?_⟩
      · obtain ⟨k, k0, kd, _⟩ := each x hx
        obtain ⟨t, rfl, ht⟩ := tup_ints kd
        exact ⟨k, ⟨t, rfl, SqT.up w1.sub ht⟩, k0⟩
      · obtain ⟨fs, pf, df⟩ := DpAll.perm pm h2
        have nsk : sk ≠ some p := fun z => by
          obtain ⟨_, ws, h6, _⟩ := w1.sack p z
          rw [h6] at hp; cases hp
        have gp : G1 p = none := by
          cases q : G1 p with
          | none => rfl
          | some u => rw [w1.sub p u q] at hp; cases hp
        have allf : fs.all isTD = true := List.all_eq_true.mpr fun d hd2 => List.all_eq_true.mp hd.1 d (pf.mem_iff.mp hd2)
        have ef : (sortS (es.map bkD)).map tD = fs := by
          rw [all_back allf]
          congr 1
          refine asc_unique ((sort_perm _).trans (pf.map bkD).symm) (sort_asc _) ?_
          refine List.pairwise_map.mpr ?_
          rw [List.pairwise_iff_getElem]
          intro i j hi hj hij
          have li : i < ys.length := by rw [DpAll.length df]; exact hi
          have lj : j < ys.length := by rw [DpAll.length df]; exact hj
          have z := List.pairwise_iff_getElem.mp pw i j li lj hij
          have gi := DpAll.get df (List.getElem?_eq_getElem hi)
          have gj := DpAll.get df (List.getElem?_eq_getElem hj)
          obtain ⟨vi, ei, di⟩ := gi
          obtain ⟨vj, ej, dj⟩ := gj
          rw [List.getElem?_eq_getElem li] at ei
          rw [List.getElem?_eq_getElem lj] at ej
          cases ei; cases ej
          rw [(tD_of (List.all_eq_true.mp allf _ (List.getElem_mem hi))).1] at di
          rw [(tD_of (List.all_eq_true.mp allf _ (List.getElem_mem hj))).1] at dj
          obtain ⟨t1, e1, h1'⟩ := tup_ints di
          obtain ⟨t2, e2, h2'⟩ := tup_ints dj
          exact z _ _ ⟨t1, e1, SqT.up w1.sub h1'⟩ ⟨t2, e2, SqT.up w1.sub h2'⟩
        rw [ef] at k
        have hpH : H p = none := x1.th p hp
        have hne : ∀ a o, H1 a = some o → a ≠ p := fun a o e z => by rw [z, hp] at e; cases e
        refine k p ys G1 (upd H1 p (.lst ys)) ⟨fun b o e => ?_, fun b e => ?_⟩ ⟨x1.gs, fun b o e n => ?_, x1.nw, fun b e => ?_⟩ hpH nsk upd_same gp df
        · rw [upd_ne (hne b o (w1.sub b o e))]; exact w1.sub b o e
        · obtain ⟨gn, ws, h6, h7⟩ := w1.sack b e
          exact ⟨gn, ws, by rw [upd_ne (hne b _ h6)]; exact h6, h7⟩
        · have z := x1.hs b o e n
          rw [upd_ne (hne b o z)]; exact z
        · by_cases z : b = p
          · subst z; exact hpH
          · rw [upd_ne z] at e; exact x1.th b e
    · cases q2
  | _ => cases q
/-- a new list at p, not among the data -/
theorem vw_new {K : PySem.W.Frag} {sk : Option Addr} {G H G1 H1 : Hp} {s1 : S} {p : Addr} (o : HO) (w1 : Vw K sk G1 H1 s1) (x1 : Ex sk G H G1 H1) (hp : H1 p = none) : sk ≠ some p ∧ G1 p = none ∧ H p = none ∧ Vw K sk G1 (upd H1 p o) s1 ∧ Ex sk G H G1 (upd H1 p o) := by
  have hpH : H p = none := x1.th p hp
  have hne : ∀ a u, H1 a = some u → a ≠ p := fun a u e z => by rw [z, hp] at e; cases e
  refine ⟨fun z => ?_, ?_, hpH, ⟨fun b u e => ?_, fun b e => ?_⟩, ⟨x1.gs, fun b u e n => ?_, x1.nw, fun b e => ?_⟩⟩
  · obtain ⟨_, ws, h6, _⟩ := w1.sack p z
    rw [h6] at hp; cases hp
  · cases q : G1 p with
    | none => rfl
    | some u => rw [w1.sub p u q] at hp; cases hp
  · rw [upd_ne (hne b u (w1.sub b u e))]; exact w1.sub b u e
  · obtain ⟨gn, ws, h6, h7⟩ := w1.sack b e
    exact ⟨gn, ws, by rw [upd_ne (hne b _ h6)]; exact h6, h7⟩
  · have z := x1.hs b u e n
    rw [upd_ne (hne b u z)]; exact z
  · by_cases z : b = p
    · subst z; exact hpH
    · rw [upd_ne z] at e; exact x1.th b e
theorem dp_rows {K : PySem.W.Frag} {G : Hp} : ∀ {L : List (Addr × List Int)}, (∀ p ∈ L, SqT K G p.1 (p.2.map V.int)) → DpAll K G (L.map fun q => V.ref q.1) ((L.map (·.2)).map tD)
  | [], _ => .nil
  | p :: L, h => .cons (tup_dp (h p List.mem_cons_self)) (dp_rows fun q hq => h q (List.mem_cons_of_mem _ hq))
theorem rows_sorted {L' L : List (Addr × List Int)} {ks : List (List Int)} (pm : L'.Perm L) (nd : (L.map (·.2)).Nodup) (hk : ∀ k, k ∈ L.map (·.2) ↔ k ∈ ks) (pw : L'.Pairwise (fun q r => lexL r.2 q.2 = false)) : L'.map (·.2) = sortS (uniqS ks) := by
  refine asc_unique ((pm.map (·.2)).trans (((List.perm_ext_iff_of_nodup nd (uniq_nodup ks)).mpr fun k => ?_).trans (sort_perm _).symm)) (List.pairwise_map.mpr pw) (sort_asc _)
  rw [hk, uniq_mem]
/-- sorted of the set at a -/
theorem srtS_at {sk : Option Addr} {G H G1 H1 : Hp} {s1 : S} {a : Addr} {L : List (Addr × List Int)} {ks : List (List Int)} {Q : VK} (w1 : Vw X.K sk G1 H1 s1) (x1 : Ex sk G H G1 H1) (ha : H1 a = some (SetTO X.prog X.w a L)) (hL : ∀ p ∈ L, SqT X.K G1 p.1 (p.2.map V.int) ∧ p.2 ≠ [])
    (hk : ∀ k, k ∈ L.map (·.2) ↔ k ∈ ks)
    (k : ∀ p vs G' H', Vw X.K sk G' H' s1 → Ex sk G H G' H' → H p = none → sk ≠ some p → H' p = some (.lst vs) → G' p = none → DpAll X.K G' vs ((sortS (uniqS ks)).map tD) → Q (.ref p) H') : rSrtS X.K X.prog X.w [.ref a] H1 Q := by
  refine ⟨a, L, rfl, ha, fun p hp => ⟨SqT.up w1.sub (hL p hp).1, (hL p hp).2⟩, fun L' p pm nd pw hp => ?_⟩
  obtain ⟨n1, n2, n3, n4, n5⟩ := vw_new (.lst (L'.map fun q => V.ref q.1)) w1 x1 hp
  refine k p _ G1 _ n4 n5 n3 n1 upd_same n2 ?_
  rw [← rows_sorted pm nd hk pw]
  exact dp_rows fun q hq => (hL q (pm.mem_iff.mp hq)).1
theorem tSt_of {it : M (List D)} {vs : List Nat} {p : Pat} {fc : M Bool} {f : M D} (hv : ∀ i ∈ slo p, i ∈ vs) {σ : L2.St} {H : Hp} {Q : VK}
    (t : tL X.K (mSrt (mLc it vs p fc f) srtU) σ H Q) : tSt X (tIE X.K it) (tG X.K p) (tQ X.K fc) (tP X.K f) vs σ H fun v H' => rSrtS X.K X.prog X.w [v] H' Q := by
  obtain ⟨sk, G, ρ, s, ds', s', w, r, e0, k⟩ := t
  obtain ⟨ds, s2, e, eu⟩ := mThen_some e0
  obtain ⟨eu, rfl⟩ := mLift_some eu
  unfold srtU at eu
  split at eu
  · rename_i hd
    cases eu
    obtain ⟨hd, h64⟩ := hd
    unfold mLc at e
    split at e
    · rename_i xs s1 e1
      split at e
      · rename_i hsz
        refine ⟨sk, G, ρ, s, xs, s1, w, r, e1, fun J G1 H1 w1 x1 y L hL => ?_⟩
        obtain ⟨nL, gL, _, w1', x1'⟩ := vw_new (SetTO X.prog X.w L []) w1 (Ex.refl (sk := sk) (G := G1) (H := H1)) hL
        refine ⟨fun i m H => m = xs.length - i ∧ i ≤ xs.length ∧ ∃ G t rows ad es, Vw X.K sk G H t ∧ Ex sk G1 H1 G H ∧ H L = some (SetTO X.prog X.w L rows) ∧ G L = none ∧ rows.length ≤ ad.length ∧ (∀ p ∈ rows, SqT X.K G p.1 (p.2.map V.int) ∧ p.2 ≠ []) ∧ (∀ k, k ∈ rows.map (·.2) ↔ k ∈ ad.map bkD) ∧ lcGo p fc f (wipeE ρ vs) (xs.drop i) t = some (es, s') ∧ ds = ad ++ es,
          ⟨_, rfl, Nat.zero_le _, G1, s1, [], [], ds, w1', x1', upd_same, gL, Nat.le_refl _, (fun p hp => by cases hp), (fun k => by simp), e, rfl⟩, ?_⟩
        rintro i m H2 ⟨rfl, hi, G2, t2, rows, ad, es, w2, x2, hl2, gl2, al, dr, da, e2, rfl⟩
        by_cases hlt : i < xs.length
        · right
          rw [List.drop_eq_getElem_cons hlt] at e2
          have hx : xs[i]? = some xs[i] := List.getElem?_eq_getElem hlt
          obtain ⟨go, yl⟩ := y.item G2 H2 x2 w2.sub i _ hx
          refine ⟨go, fun H' => ∃ G t rows ad' es', Vw X.K sk G H' t ∧ Ex sk G1 H1 G H' ∧ H' L = some (SetTO X.prog X.w L rows) ∧ G L = none ∧ rows.length ≤ ad'.length ∧ (∀ p ∈ rows, SqT X.K G p.1 (p.2.map V.int) ∧ p.2 ≠ []) ∧ (∀ k, k ∈ rows.map (·.2) ↔ k ∈ ad'.map bkD) ∧ lcGo p fc f (wipeE ρ vs) (xs.drop (i + 1)) t = some (es', s') ∧ ad ++ es = ad' ++ es', fun H' q => ⟨_, by omega, rfl, hlt, q⟩, fun v H3 yv => ?_⟩
          obtain ⟨G3, g3, d3⟩ := yl v H3 yv
          unfold lcGo at e2
          split at e2
          · cases e2
          · rename_i ρ3 t3 e3
            have e3' : ER X.K sk G3 H3 (L2.wipe σ vs) (wipeE ρ vs) := (((r.ex x1).ex x2).ex (g3.ex sk)).wipe vs
            obtain ⟨Hb, r3⟩ := SR.init (g3.vw w2) e3'
            refine ⟨sk, G3, Hb, G3, _, t2, xs[i], ρ3, t3, r3, .inl d3, e3, fun σ4 G4 H4 x4 of4 r4 => ⟨?_, ?_⟩⟩
            · exact wipe_off hv of4 (by rw [r4.er.len, ← bnd_len e3, ← e3'.len])
            have x14 : Ex sk G1 H1 G4 H4 := (x2.trans (g3.ex sk)).trans x4
            have x24 : Ex sk G2 H2 G4 H4 := (g3.ex sk).trans x4
            have hl4 : H4 L = some (SetTO X.prog X.w L rows) := x24.hs L _ hl2 nL
            have gl4 : G4 L = none := x24.free hl2 gl2
            cases q : fc ρ3 t3 with
            | none => simp only [q] at e2; cases e2
            | some b =>
              obtain ⟨b, t5⟩ := b
              simp only [q] at e2
              refine ⟨sk, G4, ρ3, t3, b, t5, r4.vw, r4.er, q, fun G5 H5 w5 x5 => ?_⟩
              have x45 := x24.trans x5
              have up5 : ∀ p ∈ rows, SqT X.K G5 p.1 (p.2.map V.int) ∧ p.2 ≠ [] := fun p hp => ⟨SqT.up x45.gs (dr p hp).1, (dr p hp).2⟩
              cases b with
              | false =>
                show (if false = true then _ else _)
                rw [if_neg Bool.false_ne_true]
                exact ⟨G5, t5, rows, ad, es, w5, x14.trans x5, x5.hs L _ hl4 nL, x5.free hl4 gl4, al, up5, da, e2, rfl⟩
              | true =>
                show (if true = true then _ else _)
                rw [if_pos rfl]
                cases q6 : f ρ3 t5 with
                | none => simp only [q6] at e2; cases e2
                | some r6 =>
                  obtain ⟨d6, t6⟩ := r6
                  simp only [q6] at e2
                  split at e2
                  · rename_i hd6
                    split at e2
                    · rename_i es7 t7 e7
                      cases e2
                      refine ⟨sk, G5, ρ3, t5, d6, t6, w5, r4.er.ex x5, q6, fun y6 G6 H6 w6 x6 q7 => ?_⟩
                      have x56 := x5.trans x6
                      have x16 := x14.trans x56
                      have hl6 : H6 L = some (SetTO X.prog X.w L rows) := x56.hs L _ hl4 nL
                      have gl6 : G6 L = none := x56.free hl4 gl4
                      have td : isTD d6 = true := List.all_eq_true.mp hd d6 (by simp)
                      obtain ⟨ed6, nd6⟩ := tD_of td
                      have q8 : Dp X.K G6 y6 (tD (bkD d6)) := by rw [← ed6]; exact q7.dp hd6
                      obtain ⟨c, rfl, hcT⟩ := tup_ints q8
                      have up6 : ∀ p ∈ rows, SqT X.K G6 p.1 (p.2.map V.int) ∧ p.2 ≠ [] := fun p hp => ⟨SqT.up x6.gs (up5 p hp).1, (up5 p hp).2⟩
                      have lens : rows.length + 1 < 64 := by
                        have : (ad ++ d6 :: es7).length < 64 := h64
                        rw [List.length_append, List.length_cons] at this
                        omega
                      refine ⟨c, bkD d6, rows, rfl, SqT.up w6.sub hcT, hl6, fun p hp => SqT.up w6.sub (up6 p hp).1, lens, fun rows' c1 c2 => ?_⟩
                      have ups : ∀ b u, H6 b = some u → b ≠ L → upd H6 L (SetTO X.prog X.w L rows') b = some u := fun b u e n => by rw [upd_ne n]; exact e
                      have w8 : Vw X.K sk G6 (upd H6 L (SetTO X.prog X.w L rows')) t6 := ⟨fun a o e => ups a o (w6.sub a o e) fun z => (by subst z; rw [gl6] at e; cases e), fun a e => by
                        obtain ⟨gn, ws, h6, h7⟩ := w6.sack a e
                        exact ⟨gn, ws, ups a _ h6 fun z => nL (by rw [← z]; exact e), h7⟩⟩
                      have x8 : Ex sk G1 H1 G6 (upd H6 L (SetTO X.prog X.w L rows')) := ⟨x16.gs, fun a o e n => ups a o (x16.hs a o e n) fun z => (by subst z; rw [hL] at e; cases e), x16.nw, fun a e => by
                        by_cases z : a = L
                        · subst z; exact hL
                        · rw [upd_ne z] at e; exact x16.th a e⟩
                      rcases Classical.em (bkD d6 ∈ rows.map (·.2)) with m | m
                      · obtain rfl := c1 m
                        refine ⟨G6, t6, _, ad ++ [d6], es7, w8, x8, upd_same, gl6, by rw [List.length_append]; omega, up6, fun k => ?_, e7, by simp⟩
                        rw [da, List.map_append, List.mem_append]
                        exact ⟨.inl, fun z => z.elim id fun z => by
                          rw [List.map_cons, List.map_nil, List.mem_singleton] at z
                          rw [z]; exact (da _).mp m⟩
                      · have pm := c2 m
                        refine ⟨G6, t6, _, ad ++ [d6], es7, w8, x8, upd_same, gl6, by rw [pm.length_eq, List.length_cons, List.length_append, List.length_singleton]; omega, fun p hp => ?_, fun k => ?_, e7, by simp⟩
                        · rcases List.mem_cons.mp (pm.mem_iff.mp hp) with z | z
                          · subst z; exact ⟨hcT, nd6⟩
                          · exact up6 p z
                        · rw [(pm.map (·.2)).mem_iff, List.map_cons, List.mem_cons, da, List.map_append, List.mem_append, List.map_cons, List.map_nil, List.mem_singleton]
                          exact Or.comm
                    · cases e2
                  · cases e2
        · have hl : i = xs.length := by omega
          subst hl
          left
          rw [List.drop_length] at e2
          cases e2
          refine ⟨y.stop G2 H2 x2 w2.sub, ?_⟩
          refine srtS_at w2 (x1.trans x2) hl2 dr da fun p vs G' H' w' x' h1 h2 h3 h4 h5 => ?_
          rw [List.append_nil] at k
          exact k p vs G' H' w' x' h1 h2 h3 h4 h5
      · cases e
    · cases e
  · cases eu
/-- sorted({elt for target in iter if ..}) -/
theorem P.srtSc {tg elt iter : Expr} {ifs : List Expr} {scope : Scope} {own : List (Str × Nat)} {it : M (List D)} {p : Pat} {fc : M Bool} {f : M D} {np cpos : Pos} (hg0 : Gl X "sorted") (hm0 : X.mg "sorted" = none) (hu : X.A.units + 64 < cLine) (hc : X.calm = true) (hN : X.N.Nodup) (hi : PI X tg iter (tIE X.K it)) (ok : BlkOk X.N X.env.scope scope own) (hv : ∀ i ∈ slo p, i ∈ own.map (·.2))
    (hg : ∀ (s : Shared) (H : Hp) (C : Addr) (cl : List (Str × Addr)) (fp : List Addr), PG (X.blk s H scope (compEnvC scope cl C X.env) fp) tg (tG X.K p)) (ht : ∀ (s : Shared) (H : Hp) (C : Addr) (cl : List (Str × Addr)) (fp : List Addr), PTs (X.blk s H scope (compEnvC scope cl C X.env) fp) ifs (tQ X.K fc))
    (he : ∀ (s : Shared) (H : Hp) (C : Addr) (cl : List (Str × Addr)) (fp : List Addr), PE (X.blk s H scope (compEnvC scope cl C X.env) fp) elt (tP X.K f)) (hs : ∀ x, foldedSetIterable iter X.env x = pure x := by intro _; rfl) (hb : bootBuiltins "sorted" = some (.builtin "sorted") := by decide +kernel)
    (hse : starEach [.SetComp elt [⟨tg, iter, ifs, 0⟩] scope cpos] X.env = (false, eval (.SetComp elt [⟨tg, iter, ifs, 0⟩] scope cpos) X.env) :: starEach [] X.env := by rfl) (hpl : (backTo pos (starEach [] X.env)).any (·.1) = false := by rfl) :
    PE X (.Call (.Name "sorted" np) [.SetComp elt [⟨tg, iter, ifs, 0⟩] scope cpos] [] pos) (tL X.K (mSrt (mLc it (own.map (·.2)) p fc f) srtU)) :=
  peI (pe_callB (cr_srtS hc) hg0 hm0 hb (pa_cons (pe_st hc hu hN hi ok hg ht he hs) pa_nil hse) (by decide) (by decide) hse hpl) fun _ _ _ t => tSt_of hv t
end
end PL
/-! enumerate of a tuple; lcm -/
namespace PL
open PySem PySem.Spec PyProof.Rows L2 PLS
theorem meets_enumT (t : Addr) (items : Array Value) :
    Meets (Builtin.«enumerate.__new__» ⟨[.type "enumerate", .ref t], []⟩) (fun _ R s => s.heap.IsTuple t items ∧
      R (.ok (.ret (.ref (s.heap.push { cls := .type "tuple_iterator", data := .fields #[.ref t, .int 0 0] }).objs.size)))
        { s with heap := (s.heap.push { cls := .type "tuple_iterator", data := .fields #[.ref t, .int 0 0] }).push { cls := .type "enumerate", data := .fields #[.none, .bool false, .ref s.heap.objs.size, rawInt 0, .none, .none] } }) :=
  .of_wp fun prog w A R s h => by
    obtain ⟨hp, g, d, tk, os⟩ := s
    obtain ⟨ht, h⟩ := h
    have hsub := sub_enumerate
    have walks : ∀ {A' : Around} {E : Value → Shared → Prop} {Q : Value → Shared → Prop}, Q (.ref hp.objs.size) ⟨hp.push { cls := .type "tuple_iterator", data := .fields #[.ref t, .int 0 0] }, g, d, tk, os⟩ → wpAny (model prog w) A' (pyIter (.ref t)) Q E ⟨hp, g, d, tk, os⟩ := fun q => wpAny_pyIter_tuple (s := ⟨hp, g, d, tk, os⟩) ht q
    wp_walk using walks
    refine wpAny_stack_any fun st => wpAny_pure ?_
    split
    · rename_i c _ _ _ _ _
      cases (c == Value.type "enumerate") <;> (wp_walk using walks; exact ⟨_, rfl, h⟩)
    · wp_walk using walks
      exact ⟨_, rfl, h⟩
theorem call_enumT {prog : Program} {w : World} {A : Around} {E : Value → Shared → Prop} {s : Shared} {t : Addr} {items : Array Value} {Q : Value → Shared → Prop} (ht : s.heap.IsTuple t items)
    (h : ∀ h', IsEnum h' (s.heap.objs.size + 1) s.heap.objs.size 0 .none → h'.IsTupleIter s.heap.objs.size t 0 → (∀ b o, s.heap.get? b = some o → h'.get? b = some o) → Q (.ref (s.heap.objs.size + 1)) { s with heap := h' }) :
    wpAny (model prog w) A (call (.type "enumerate") [.ref t]) Q E s := by
  refine callType_new F.called_enumerate (by decide) (F.typeCall_enumerate_1 _) (F.newCall_enumerate_1 _) (fun obj => F.args_object_init_2 obj _) F.entry_enumerate_new (meets_enumT t items) ⟨ht, ?_⟩
  obtain ⟨h1, e1⟩ : ∃ h1, h1 = s.heap.push { cls := .type "tuple_iterator", data := .fields #[.ref t, .int 0 0] } := ⟨_, rfl⟩
  rw [← e1]
  have sz : h1.objs.size = s.heap.objs.size + 1 := by rw [e1]; exact Heap.size_push ..
  have it1 : h1.get? s.heap.objs.size = some { cls := .type "tuple_iterator", data := .fields #[.ref t, .int 0 0] } := by rw [e1]; exact Heap.get?_push_size _ rfl
  have old1 : ∀ b o, s.heap.get? b = some o → h1.get? b = some o := fun b o e => by rw [e1]; exact Heap.get?_push_of_some _ e
  have en : IsEnum (h1.push { cls := .type "enumerate", data := .fields #[.none, .bool false, .ref s.heap.objs.size, rawInt 0, .none, .none] }) (s.heap.objs.size + 1) s.heap.objs.size 0 .none := by
    have z := Heap.get?_push_size h1 (o := { cls := .type "enumerate", data := .fields #[.none, .bool false, .ref s.heap.objs.size, rawInt 0, .none, .none] }) rfl
    rw [sz] at z
    exact z
  show _ ∧ _
  rw [sz]
  exact ⟨⟨_, en, rfl⟩, h _ en ⟨_, Heap.get?_push_of_some _ it1, rfl, rfl⟩ fun b o e => Heap.get?_push_of_some _ (old1 b o e)⟩
/-- the tuple at a as it stands, the items with their places in new pairs -/
def IteT (K : PySem.W.Frag) (a : Addr) : It :=
  ⟨fun i H => ∃ (xs : List V) (x : V), SqT K H a xs ∧ xs[i]? = some x, fun i H v H' => ∃ T x, v = .ref T ∧ H T = none ∧ H' = upd H T (.tup [.int (i : Nat), x]) ∧ ∀ xs, SqT K H a xs → xs[i]? = some x, fun i H => ∃ xs : List V, SqT K H a xs ∧ xs.length ≤ i⟩
theorem turn_enumT {P : Program} {w : World} {K : PySem.W.Frag} {elts : List Expr} {kk : Nat} {tpos : Pos} (a e it : Addr) (hne : e ≠ it) (hai : a ≠ it) (hae : e ≠ a) :
    Turn P w K (.Tuple elts kk tpos) (IteT K a) [e, it] e (fun i h => (∃ old, IsEnum h e it ((i : Nat) : Int) old) ∧ h.IsTupleIter it a i) where
  mem := by simp
  obj := fun i h st b hb => by
    obtain ⟨⟨old, he⟩, ⟨o, ho, hc, hd⟩⟩ := st
    rcases (by simpa using hb : b = e ∨ b = it) with rfl | rfl
    · exact ⟨_, he, fun v q => nomatch q⟩
    · exact ⟨o, ho, fun v q => by rw [hd] at q; cases q⟩
  keep := fun i h h' st k => let ⟨⟨old, he⟩, hi⟩ := st; ⟨⟨old, k e (by simp) _ he⟩, hi.at fun o q => k it (by simp) o q⟩
  item := by
    intro X hP hw hK hc i pins s σ H E I hf st hg
    subst hP hw hK
    obtain ⟨⟨old, he⟩, hit⟩ := st
    obtain ⟨xs, x, hq, hx⟩ := hg
    obtain ⟨its, rv, p, hz⟩ := I.tuple hq
    obtain ⟨u, hu, ru⟩ := rv.get hx
    have li : i < its.length := (List.getElem?_eq_some_iff.mp hu).1
    have lte : e < s.heap.objs.size := Heap.lt_size he
    have lti : it < s.heap.objs.size := let ⟨_, q, _⟩ := hit; Heap.lt_size q
    refine wpAny_pyNext_enum_itemD (Draws.tuple (prog := X.prog) (w := X.w) (A := X.A.in1) (I.ok.hd hc) it a hai its.toArray) he ⟨hit, p⟩ (by simpa using li) hne (by simp [hne, hae]) fun v h' tk hv ho st' hT hsz hk => ?_
    have ev : v = u := by
      have hv' : its.toArray[i]? = some v := hv
      rw [List.getElem?_toArray, hu] at hv'
      cases hv'
      rfl
    subst ev
    refine ⟨_, rfl, wpAny_letOwnedTupleGo_enum (s := { s with heap := h', toks := tk + 1 }) ho fun h'' he' sb => ?_⟩
    have hT2 : h''.get? s.heap.objs.size = some { cls := .type "tuple", data := .seq #[.int i tk, v] } := (sb.2 _ (Nat.ne_of_gt lte)).trans hT
    have new : ObjOk X.prog X.w (upd H s.heap.objs.size (.tup [.int (i : Nat), x])) h'' s.heap.objs.size (.tup [.int (i : Nat), x]) :=
      ⟨by show 2 ≤ sizeLine; decide, [.int i tk, v], .cons ⟨_, rfl⟩ (.cons ru .nil), ⟨_, hT2, rfl, _, rfl⟩⟩
    have J : Inv X pins σ (upd H s.heap.objs.size (.tup [.int (i : Nat), x])) { s with heap := h'', toks := tk + 1 } :=
      I.turnedNew (ch := [e, it]) (fun b ob hb q => (sb.2 b (fun z => hb (by simp [z]))).trans (hk b ob (fun z => hb (by simp [z])) (fun z => hb (by simp [z])) q)) hf (Nat.le_refl _) new
    refine ⟨.ref s.heap.objs.size, _, J, rfl, ⟨_, x, rfl, I.hok.fresh (Nat.le_refl _), rfl, fun ys hy => by rw [I.tuple_inj hy hq]; exact hx⟩, ⟨⟨v, ?_⟩, st'.1.at fun o q => (sb.2 it (Ne.symm hne)).trans q⟩, fun b hb => ?_⟩
    · have e1 : ((i + 1 : Nat) : Int) = (i : Int) + 1 := by omega
      rw [e1]; exact he'
    · have lt : b < s.heap.objs.size := by
        rcases (by simpa using hb : b = e ∨ b = it) with rfl | rfl
        · exact lte
        · exact lti
      rw [upd_ne (Nat.ne_of_lt lt)]
      exact (hf b hb).1
  done := by
    intro X hP hw hK hc i pins s σ H E I hf st hg
    subst hP hw hK
    obtain ⟨⟨old, he⟩, hit⟩ := st
    obtain ⟨xs, hq, hx⟩ := hg
    obtain ⟨its, rv, p, hz⟩ := I.tuple hq
    obtain ⟨f0, f1, f2, f3, f4, f5⟩ := hf it (by simp)
    have hl := rv.length
    have none_at : its.toArray[i]? = none := by simp; omega
    have hT : s.TypeIs (.ref e) "enumerate" := ⟨_, he, rfl⟩
    unfold pyNext
    refine wpAny_bind (wpAny_attempt (wpAny_callSpecial?_slot (name := Str.ofString "__next__") hT F.slot_enumerate_next (wpAny_call_entry F.slot_enumerate_next hT F.entry_enumerate_next ?_ (F.args_enumerate_next_1 _))))
    show wpAny _ _ (field (.ref e) 2 >>= _) _ _ _
    refine wpAny_bind (wpAny_field he rfl (x := .ref it) rfl (wpAny_bind (wpAny_nextOf_tuple_end (I.ok.hd hc) hit p none_at fun h' x he' hx' => ?_)))
    obtain ⟨o, ho, hcl⟩ := hx'
    refine wpAny_bind (wpAny_isInstance (T := "StopIteration") (b := true) ⟨o, ho, hcl⟩ isSubtype_stop ?_)
    exact wpAny_pure ⟨rfl, I.turned (t' := s.toks) (fun b o hb q => he' b o hb q) f0 f1 f3 f4 f5⟩
  self := fun A i s Q E st h => let ⟨⟨_, he⟩, _⟩ := st; wpAny_pyIter_enum he h
def iEnumT (K : PySem.W.Frag) (ta : TA) : TI := fun σ H R => ta σ H fun vs H1 => ∃ a xs, vs = [.ref a] ∧ SqT K H1 a xs ∧ R (IteT K a) H1
theorem pi_enumT {X : Cx} {e : Expr} {ta : TA} {p pos tpos : Pos} {elts : List Expr} {kk : Nat} (hg : Gl X "enumerate") (hm : X.mg "enumerate" = none) (ha : PA X [e] ta) (hs : starEach [e] X.env = [(false, eval e X.env)] := by rfl) :
    PI X (.Tuple elts kk tpos) (.Call (.Name "enumerate" p) [e] [] pos) (iEnumT X.K ta) := by
  refine ⟨fun pins s σ H R I h => Call_ (ld_blt I hg hm boot_enumerate (PyProof.Rows.callWith_type1 (thn (ha.run pos pins s σ H _ I h) fun us s1 ⟨vs, H1, I1, r1, a, xs, ex, hq, q⟩ => ?_) hs rfl))⟩
  subst ex
  rw [Vals.ref1 r1]
  obtain ⟨its, rv, p', hz⟩ := I1.tuple hq
  have lta : a < s1.heap.objs.size := let ⟨_, z, _⟩ := p'; Heap.lt_size z
  refine call_enumT p' fun h' he hit hk => wpAny_pyIter_enum he ?_
  have I2 : Inv X pins σ H1 { s1 with heap := h' } := I1.kept (t' := s1.toks) hk
  refine ⟨s1.heap.objs.size + 1, [s1.heap.objs.size + 1, s1.heap.objs.size], _, _, H1, rfl, I2, turn_enumT a (s1.heap.objs.size + 1) s1.heap.objs.size (Nat.succ_ne_self _) (Nat.ne_of_lt lta) (Nat.ne_of_gt (Nat.lt_succ_of_lt lta)), ⟨⟨.none, he⟩, hit⟩, fun b hb => ?_, q⟩
  have hle : s1.heap.objs.size ≤ b := by
    rcases (by simpa using hb : b = s1.heap.objs.size + 1 ∨ b = s1.heap.objs.size) with z | z
    · rw [z]; exact Nat.le_succ _
    · rw [z]; exact Nat.le_refl _
  exact I1.fpOk hle (I1.hok.fresh hle)
/-! as data -/
def enD : Nat → List D → List D
  | _, [] => []
  | i, d :: ds => .tuple [.int (i : Nat), d] :: enD (i + 1) ds
theorem enD_get : ∀ (ds : List D) (k i : Nat), (enD k ds)[i]? = (ds[i]?).map fun d => .tuple [.int ((k + i : Nat) : Int), d]
  | [], _, _ => rfl
  | d :: ds, k, 0 => rfl
  | d :: ds, k, i + 1 => by
    show (enD (k + 1) ds)[i]? = _
    rw [enD_get ds (k + 1) i]
    have : k + 1 + i = k + (i + 1) := by omega
    rw [this]
    rfl
theorem enD_length : ∀ (ds : List D) (k : Nat), (enD k ds).length = ds.length
  | [], _ => rfl
  | d :: ds, k => by
    show (enD (k + 1) ds).length + 1 = _
    rw [enD_length ds]
    rfl
def mEn (a : M D) : M (List D) := mThen a fun x => mLift ((itOf x).map (enD 0))
section
variable {X : Cx} {pos : Pos}
theorem P.enum {e : Expr} {f : M D} {p tpos : Pos} {elts : List Expr} {kk : Nat} (hg : Gl X "enumerate") (hm : X.mg "enumerate" = none) (he : PE X e (tP X.K f)) (hs : starEach [e] X.env = [(false, eval e X.env)] := by rfl) :
    PI X (.Tuple elts kk tpos) (.Call (.Name "enumerate" p) [e] [] pos) (tI X.K (mEn f)) := by
  have ha : PA X [e] (tCons (tP X.K f) tNil) := pa_cons he pa_nil hs
  refine ⟨fun pins s σ H R I ⟨sk, G, ρ, sS, ds, s', w, r, e1, k⟩ => ?_⟩
  obtain ⟨d, s1, q1, q⟩ := mThen_some e1
  obtain ⟨q2, rfl⟩ := mLift_some q
  have pairUp : ∀ {G1 H1 : Hp} {T : Addr} {i : Nat} {x : V} {c : D}, Le G1 H1 → H1 T = none → Dp X.K G1 x c → ∃ G2, Grow G1 H1 G2 (upd H1 T (.tup [.int (i : Nat), x])) ∧ Dp X.K G2 (.ref T) (.tuple [.int ((0 + i : Nat) : Int), c]) := fun {G1 H1 T i x c} l hT hd => by
    have g := Grow.new l hT (.tup [.int (i : Nat), x])
    refine ⟨_, g, .tup (SqT.of upd_same) (.cons ?_ (.cons (Dp.up g.gs _ _ hd) .nil))⟩
    rw [Nat.zero_add]
    exact .int _
  cases d with
  | list es =>
    cases q2
    refine (pi_enum hg hm ha hs (elts := elts) (kk := kk) (tpos := tpos)).run pins s σ H R I ?_
    refine P.then w r q1 fun v G' H' w' x r' q => ?_
    obtain ⟨a, xs, rfl, h1, h2⟩ := Dp.lst_of q
    refine ⟨a, xs, rfl, SqL.up w'.sub h1, k _ G' H' w' x ⟨fun G1 H1 l1 l2 i d hd => ?_, fun G1 H1 l1 l2 => ?_⟩⟩
    · rw [enD_get] at hd
      cases hc : es[i]? with
      | none => rw [hc] at hd; cases hd
      | some c =>
        rw [hc] at hd; cases hd
        obtain ⟨y, h3, h4⟩ := DpAll.get h2 hc
        have h5 := SqL.up l2 (SqL.up l1 h1)
        refine ⟨⟨xs, y, h5, h3⟩, fun z H2 ⟨T, y', e1, e2, e3, e4⟩ => ?_⟩
        subst e1; subst e3
        have e5 := e4 xs h5
        rw [h3] at e5; cases e5
        exact pairUp l2 e2 (Dp.up l1 _ _ h4)
    · exact ⟨xs, SqL.up l2 (SqL.up l1 h1), by rw [enD_length, DpAll.length h2]; exact Nat.le_refl _⟩
  | tuple es =>
    cases q2
    refine (pi_enumT hg hm ha hs (elts := elts) (kk := kk) (tpos := tpos)).run pins s σ H R I ?_
    refine P.then w r q1 fun v G' H' w' x r' q => ?_
    obtain ⟨a, xs, rfl, h1, h2⟩ := Dp.tup_of q
    refine ⟨a, xs, rfl, SqT.up w'.sub h1, k _ G' H' w' x ⟨fun G1 H1 l1 l2 i d hd => ?_, fun G1 H1 l1 l2 => ?_⟩⟩
    · rw [enD_get] at hd
      cases hc : es[i]? with
      | none => rw [hc] at hd; cases hd
      | some c =>
        rw [hc] at hd; cases hd
        obtain ⟨y, h3, h4⟩ := DpAll.get h2 hc
        have h5 := SqT.up l2 (SqT.up l1 h1)
        refine ⟨⟨xs, y, h5, h3⟩, fun z H2 ⟨T, y', e1, e2, e3, e4⟩ => ?_⟩
        subst e1; subst e3
        have e5 := e4 xs h5
        rw [h3] at e5; cases e5
        exact pairUp l2 e2 (Dp.up l1 _ _ h4)
    · exact ⟨xs, SqT.up l2 (SqT.up l1 h1), by rw [enD_length, DpAll.length h2]; exact Nat.le_refl _⟩
  | _ => cases q2
/-! lcm -/
def lcmI (a b : Int) : Int := ((a.natAbs.lcm b.natAbs : Nat) : Int)
def bLcm : List D → Option D
  | [.int a, .int b] => if a.natAbs.log2 < 6000 ∧ b.natAbs.log2 < 6000 then some (.int (lcmI a b)) else none
  | _ => none
def rLcm : List V → Hp → VK → Prop := fun vs H Q => ∃ a b : Int, vs = [.int a, .int b] ∧ a.natAbs.log2 < 6000 ∧ b.natAbs.log2 < 6000 ∧ Q (.int (lcmI a b)) H
theorem lt_log {a n : Nat} (h : a.log2 < n) : a < 2 ^ n := by
  by_cases h0 : a = 0
  · rw [h0]; exact Nat.two_pow_pos n
  · exact (Nat.log2_lt h0).mp h
theorem log_max {a b n : Nat} (ha : a.log2 < n) (hb : b.log2 < n) : (max a b).log2 < n := by
  rcases Nat.le_total a b with h | h
  · rw [Nat.max_eq_right h]; exact hb
  · rw [Nat.max_eq_left h]; exact ha
theorem cr_lcm : CallR X (.builtin "math.lcm") rLcm := by
  intro pins s σ H vs us Q I r h
  obtain ⟨a, b, rfl, la, lb, q⟩ := h
  obtain ⟨t, u, rfl⟩ := Vals.int2 r
  have h1 : (max 1 a.natAbs).log2 < 6000 := log_max (by decide) la
  have h2 := log_max la lb
  have e1 : Nat.lcm 1 a.natAbs = a.natAbs := by simp [Nat.lcm]
  have sz : (((((Nat.lcm 1 a.natAbs).lcm b.natAbs : Nat) : Int)).natAbs).log2 < bitsLine := by
    rw [e1, Int.natAbs_natCast]
    have ba : a.natAbs < 2 ^ 6000 := lt_log la
    have bb : b.natAbs < 2 ^ 6000 := lt_log lb
    have le : a.natAbs.lcm b.natAbs ≤ a.natAbs * b.natAbs := by unfold Nat.lcm; exact Nat.div_le_self _ _
    have lt : a.natAbs.lcm b.natAbs < 2 ^ 12000 := Nat.lt_of_le_of_lt le (by
      have z : a.natAbs * b.natAbs < 2 ^ 6000 * 2 ^ 6000 := Nat.mul_lt_mul'' ba bb
      rw [← Nat.pow_add] at z
      exact z)
    have : (a.natAbs.lcm b.natAbs).log2 < 12000 := PySem.Flt.log2_lt_of (by decide) lt
    unfold bitsLine
    omega
  have g := (PySem.W.mg_run_lcm a t b u (by omega) (by omega) sz).meets
  rw [e1] at g
  exact call_function_meets PySem.W.MGF.kind_lcm PySem.W.MGF.plain_lcm PySem.W.MGF.entry_lcm (PySem.W.MGF.args_lcm _ _) g ⟨.int _, H, I.tok _, ⟨_, rfl⟩, q⟩
theorem w_lcm {K : PySem.W.Frag} : WC K rLcm bLcm := fun xs as d sk G H Q l ps e k => by
  unfold bLcm at e
  split at e
  · split at e
    · rename_i hc
      cases e
      obtain ⟨x, u, rfl, h, h2⟩ := two_of ps
      exact ⟨_, _, by rw [Dp.int_of h, Dp.int_of h2], hc.1, hc.2, k _ G H (.refl l) (.int _)⟩
    · cases e
  · cases e
end
end PL
/-! zip of two rows, each a list or a tuple -/
namespace PL
open PySem PySem.Spec PyProof.Rows L2 PLS
def SqX (K : PySem.W.Frag) (k : Bool) (H : Hp) (a : Addr) (xs : List V) : Prop := match k with
  | true => SqL K H a xs
  | false => SqT K H a xs
def srcI (k : Bool) (h : Heap) (it l : Addr) (i : Nat) : Prop := match k with
  | true => h.IsListIter it l i
  | false => h.IsTupleIter it l i
def srcS (k : Bool) (h : Heap) (l : Addr) (items : Array Value) : Prop := match k with
  | true => h.IsList l items
  | false => h.IsTuple l items
theorem src_draws {prog : Program} {w : World} {A : Around} (k : Bool) (hh : A.handled = none) (it l : Addr) (hne : l ≠ it) (items : Array Value) : Draws prog w A it [it, l] items.size (fun i v => items[i]? = some v) (fun i h => srcI k h it l i ∧ srcS k h l items) := by
  cases k
  · exact Draws.tuple hh it l hne items
  · exact Draws.list hh it l hne items
theorem src_begins (k : Bool) (l : Addr) (items : Array Value) : ∃ o, Begins (.ref l) o (fun h => srcS k h l items) ∧ ∀ (h : Heap) it, h.get? it = some o → srcI k h it l 0 := by
  cases k
  · exact ⟨_, begins_tuple l items, fun h it e => ⟨_, e, rfl, rfl⟩⟩
  · exact ⟨_, begins_list l items, fun h it e => ⟨_, e, rfl, rfl⟩⟩
theorem srcI.at {k : Bool} {h h' : Heap} {it l : Addr} {i : Nat} (x : srcI k h it l i) (e : ∀ o, h.get? it = some o → h'.get? it = some o) : srcI k h' it l i := by
  cases k
  · exact Heap.IsTupleIter.at x e
  · exact Heap.IsListIter.at x e
theorem srcI.obj {k : Bool} {h : Heap} {it l : Addr} {i : Nat} (x : srcI k h it l i) : ∃ o fs, h.get? it = some o ∧ o.data = .fields fs := by
  cases k
  · obtain ⟨o, e, _, d⟩ := x; exact ⟨o, _, e, d⟩
  · obtain ⟨o, e, _, d⟩ := x; exact ⟨o, _, e, d⟩
section
variable {X : Cx} {pins : List (Addr × Obj)} {σ : L2.St} {H : Hp} {s : Shared}
theorem sqX_at (I : Inv X pins σ H s) {k : Bool} {a : Addr} {xs : List V} (h : SqX X.K k H a xs) : ∃ its, Vals xs its ∧ srcS k s.heap a its.toArray ∧ a < s.heap.objs.size := by
  cases k
  · obtain ⟨its, rv, p, _⟩ := I.tuple h
    exact ⟨its, rv, p, let ⟨_, z, _⟩ := p; Heap.lt_size z⟩
  · obtain ⟨its, rv, p, _⟩ := I.list h
    exact ⟨its, rv, p.isList, p.lt⟩
theorem sqX_inj (I : Inv X pins σ H s) {k : Bool} {a : Addr} {xs ys : List V} (h : SqX X.K k H a xs) (h' : SqX X.K k H a ys) : xs = ys := by
  cases k
  · exact I.tuple_inj h h'
  · exact I.list_inj h h'
end
/-- the rows at a and b as they stand, the items in new pairs -/
def ItzX (K : PySem.W.Frag) (ka kb : Bool) (a b : Addr) : It :=
  ⟨fun i H => ∃ (xs ys : List V) (x y : V), SqX K ka H a xs ∧ SqX K kb H b ys ∧ xs[i]? = some x ∧ ys[i]? = some y,
    fun i H v H' => ∃ T x y, v = .ref T ∧ H T = none ∧ H' = upd H T (.tup [x, y]) ∧ (∀ xs, SqX K ka H a xs → xs[i]? = some x) ∧ ∀ ys, SqX K kb H b ys → ys[i]? = some y,
    fun i H => ∃ xs ys : List V, SqX K ka H a xs ∧ SqX K kb H b ys ∧ i ≤ xs.length ∧ i ≤ ys.length ∧ (xs.length = i ∨ ys.length = i)⟩
theorem turn_zipX {P : Program} {w : World} {K : PySem.W.Frag} {elts : List Expr} {kk : Nat} {tpos : Pos} (ka kb : Bool) {a b z TI TO i1 i2 : Addr} (S : ZipSep2 z TI TO i1 i2 [i1, a] [i2, b]) (n1 : a ≠ i1) (n2 : b ≠ i2) :
    Turn P w K (.Tuple elts kk tpos) (ItzX K ka kb a b) [z, TI, TO, i1, i2] z (fun i h => IsZip h z TI TO .none ∧ IsTupOf2 h TI (.ref i1) (.ref i2) ∧ (∃ x y, IsTupOf2 h TO x y) ∧ srcI ka h i1 a i ∧ srcI kb h i2 b i) where
  mem := by simp
  obj := fun i h st c hc => by
    obtain ⟨hz, hTI, ⟨x, y, hTO⟩, h1, h2⟩ := st
    obtain ⟨o1, f1, e1, d1⟩ := h1.obj
    obtain ⟨o2, f2, e2, d2⟩ := h2.obj
    rcases (by simpa using hc : c = z ∨ c = TI ∨ c = TO ∨ c = i1 ∨ c = i2) with q | q | q | q | q
    · rw [q]; exact ⟨_, hz, fun v q => nomatch q⟩
    · rw [q]; exact ⟨_, hTI, fun v q => nomatch q⟩
    · rw [q]; exact ⟨_, hTO, fun v q => nomatch q⟩
    · rw [q]; exact ⟨o1, e1, fun v q => by rw [d1] at q; cases q⟩
    · rw [q]; exact ⟨o2, e2, fun v q => by rw [d2] at q; cases q⟩
  keep := fun i h h' st k => by
    obtain ⟨hz, hTI, ⟨x, y, hTO⟩, h1, h2⟩ := st
    exact ⟨k z (by simp) _ hz, k TI (by simp) _ hTI, ⟨x, y, k TO (by simp) _ hTO⟩, h1.at fun o q => k i1 (by simp) o q, h2.at fun o q => k i2 (by simp) o q⟩
  item := by
    intro X hP hw hK hc i pins s σ H E I hf st hg
    subst hP hw hK
    obtain ⟨hz, hTI, ⟨x0, y0, hTO⟩, h1, h2⟩ := st
    obtain ⟨xs, ys, x, y, hqx, hqy, hx, hy⟩ := hg
    obtain ⟨its, rv, p, _⟩ := sqX_at I hqx
    obtain ⟨its2, rv2, p2, _⟩ := sqX_at I hqy
    obtain ⟨u, hu, ru⟩ := rv.get hx
    obtain ⟨u2, hu2, ru2⟩ := rv2.get hy
    have lz : z < s.heap.objs.size := Heap.lt_size hz
    have D1 := src_draws (prog := X.prog) (w := X.w) (A := X.A.in1) ka (I.ok.hd hc) i1 a n1 its.toArray
    have D2 := src_draws (prog := X.prog) (w := X.w) (A := X.A.in1) kb (I.ok.hd hc) i2 b n2 its2.toArray
    have l1 : i < its.length := (List.getElem?_eq_some_iff.mp hu).1
    have l2 : i < its2.length := (List.getElem?_eq_some_iff.mp hu2).1
    refine wpAny_pyNext_zipD2_item S D1 D2 hz hTI hTO ⟨h1, p⟩ ⟨h2, p2⟩ (by simpa using l1) (by simpa using l2) fun v1 v2 h' tk hv1 hv2 z' TO' s1' s2' hT hsz hk => ?_
    have ev1 : v1 = u := by
      have q : its.toArray[i]? = some v1 := hv1
      rw [List.getElem?_toArray, hu] at q
      cases q; rfl
    have ev2 : v2 = u2 := by
      have q : its2.toArray[i]? = some v2 := hv2
      rw [List.getElem?_toArray, hu2] at q
      cases q; rfl
    subst ev1; subst ev2
    refine ⟨_, rfl, wpAny_letOwnedTupleGo_zip (s := { s with heap := h', toks := tk }) z' fun h'' z'' sb => ?_⟩
    have hT2 : h''.get? s.heap.objs.size = some { cls := .type "tuple", data := .seq #[v1, v2] } := (sb.2 _ (Nat.ne_of_gt lz)).trans hT
    have new : ObjOk X.prog X.w (upd H s.heap.objs.size (.tup [x, y])) h'' s.heap.objs.size (.tup [x, y]) :=
      ⟨by show 2 ≤ sizeLine; decide, [v1, v2], .cons ru (.cons ru2 .nil), ⟨_, hT2, rfl, _, rfl⟩⟩
    have J : Inv X pins σ (upd H s.heap.objs.size (.tup [x, y])) { s with heap := h'', toks := tk } :=
      I.turnedNew (t' := tk) (ch := [z, TI, TO, i1, i2]) (fun c o hb q => (sb.2 c (fun q' => hb (by simp [q']))).trans (hk c o (fun q' => hb (by simp [q'])) (fun q' => hb (by simp [q'])) (fun q' => hb (by simp [q'])) (fun q' => hb (by simp [q'])) q)) hf (Nat.le_refl _) new
    have zi1 : i1 ≠ z := Ne.symm S.zi1
    have zi2 : i2 ≠ z := Ne.symm S.zi2
    refine ⟨.ref s.heap.objs.size, _, J, rfl, ⟨_, x, y, rfl, I.hok.fresh (Nat.le_refl _), rfl, fun l hl => by rw [sqX_inj I hl hqx]; exact hx, fun l hl => by rw [sqX_inj I hl hqy]; exact hy⟩, ⟨z'', ?_, ⟨v1, v2, ?_⟩, ?_, ?_⟩, fun c hcm => ?_⟩
    · exact (sb.2 _ S.TIz).trans (hk _ _ S.TIz S.TITO S.TIi1 S.TIi2 hTI)
    · exact (sb.2 _ S.TOz).trans TO'
    · exact s1'.1.at fun o q => (sb.2 _ zi1).trans q
    · exact s2'.1.at fun o q => (sb.2 _ zi2).trans q
    · have hlt : c < s.heap.objs.size := by
        obtain ⟨_, _, e1, _⟩ := h1.obj
        obtain ⟨_, _, e2, _⟩ := h2.obj
        rcases (by simpa using hcm : c = z ∨ c = TI ∨ c = TO ∨ c = i1 ∨ c = i2) with q | q | q | q | q
        · rw [q]; exact lz
        · rw [q]; exact Heap.lt_size hTI
        · rw [q]; exact Heap.lt_size hTO
        · rw [q]; exact Heap.lt_size e1
        · rw [q]; exact Heap.lt_size e2
      rw [upd_ne (Nat.ne_of_lt hlt)]
      exact (hf c hcm).1
  done := by
    intro X hP hw hK hc i pins s σ H E I hf st hg
    subst hP hw hK
    obtain ⟨hz, hTI, ⟨x0, y0, hTO⟩, h1, h2⟩ := st
    obtain ⟨xs, ys, hqx, hqy, le1, le2, hend⟩ := hg
    obtain ⟨its, rv, p, _⟩ := sqX_at I hqx
    obtain ⟨its2, rv2, p2, _⟩ := sqX_at I hqy
    have e1 := rv.length
    have e2 := rv2.length
    have D1 := src_draws (prog := X.prog) (w := X.w) (A := X.A.in1) ka (I.ok.hd hc) i1 a n1 its.toArray
    have D2 := src_draws (prog := X.prog) (w := X.w) (A := X.A.in1) kb (I.ok.hd hc) i2 b n2 its2.toArray
    exact wpAny_pyNext_zipD2_end S D1 D2 hz hTI hTO ⟨h1, p⟩ ⟨h2, p2⟩ (by simp; omega) (by simp; omega) (by simp; omega) fun h' tk hk => ⟨rfl, I.turnedL (t' := tk) (ch := [z, TI, TO, i1, i2]) (fun c o hb q =>
      hk c o (fun q' => hb (by simp [q'])) (fun q' => hb (by simp [q'])) (fun q' => hb (by simp [q'])) (fun q' => hb (by simp [q'])) q) hf⟩
  self := fun A i s Q E st h => wpAny_pyIter_zip st.1 h
def iZipX (K : PySem.W.Frag) (ta : TA) : TI := fun σ H R => ta σ H fun vs H1 => ∃ ka kb a b xs ys, vs = [.ref a, .ref b] ∧ SqX K ka H1 a xs ∧ SqX K kb H1 b ys ∧ R (ItzX K ka kb a b) H1
theorem pi_zipX {X : Cx} {e e2 : Expr} {ta : TA} {p pos tpos : Pos} {elts : List Expr} {kk : Nat} (hg : Gl X "zip") (hm : X.mg "zip" = none) (ha : PA X [e, e2] ta)
    (hs : starEach [e, e2] X.env = (false, eval e X.env) :: starEach [e2] X.env := by rfl) (hpl : (backTo pos (starEach [e2] X.env)).any (·.1) = false := by rfl) :
    PI X (.Tuple elts kk tpos) (.Call (.Name "zip" p) [e, e2] [] pos) (iZipX X.K ta) := by
  refine ⟨fun pins s σ H R I h => Call_ (ld_blt I hg hm PyProof.Rows.boot_zip (PyProof.Rows.callWith_type1 (thn (ha.run pos pins s σ H _ I h) fun us s1 ⟨vs, H1, I1, r1, ka, kb, a, b, xs, ys, ex, hqx, hqy, q⟩ => ?_) hs hpl))⟩
  subst ex
  cases r1 with
  | cons r rr => cases rr with
    | cons r' rr =>
      cases rr
      cases r
      cases r'
      obtain ⟨its, rv, p1, la⟩ := sqX_at I1 hqx
      obtain ⟨its2, rv2, p2, lb⟩ := sqX_at I1 hqy
      obtain ⟨o1, B1, b1⟩ := src_begins ka a its.toArray
      obtain ⟨o2, B2, b2⟩ := src_begins kb b its2.toArray
      refine zip_begins2 B1 B2 p1 p2 fun h' hz hTI hTO g1 g2 hsz hk => wpAny_pyIter_zip hz ?_
      have I2 : Inv X pins σ H1 { s1 with heap := h' } := I1.kept (t' := s1.toks) hk
      generalize hN : s1.heap.objs.size = N at *
      have S : ZipSep2 (N + 4) (N + 2) (N + 3) N (N + 1) [N, a] [N + 1, b] := zip_sep2 (fun c hc => by rw [List.mem_singleton.mp hc]; exact la) (fun c hc => by rw [List.mem_singleton.mp hc]; exact lb)
      have na : a ≠ N := Nat.ne_of_lt la
      have nb : b ≠ N + 1 := Nat.ne_of_lt (Nat.lt_succ_of_lt lb)
      refine ⟨N + 4, [N + 4, N + 2, N + 3, N, N + 1], _, _, H1, rfl, I2, turn_zipX ka kb S na nb, ⟨hz, hTI, ⟨_, _, hTO⟩, b1 _ _ g1, b2 _ _ g2⟩, fun c hcm => ?_, q⟩
      have hle : s1.heap.objs.size ≤ c := by
        rw [hN]
        rcases (by simpa using hcm : c = N + 4 ∨ c = N + 2 ∨ c = N + 3 ∨ c = N ∨ c = N + 1) with z | z | z | z | z
        · rw [z]; exact Nat.le_add_right _ _
        · rw [z]; exact Nat.le_add_right _ _
        · rw [z]; exact Nat.le_add_right _ _
        · rw [z]; exact Nat.le_refl _
        · rw [z]; exact Nat.le_add_right _ _
      exact I1.fpOk hle (I1.hok.fresh hle)
/-! as data -/
def zipD : List D → List D → List D
  | x :: xs, y :: ys => .tuple [x, y] :: zipD xs ys
  | _, _ => []
theorem zipD_get : ∀ (xs ys : List D) (i : Nat) (d : D), (zipD xs ys)[i]? = some d → ∃ x y, xs[i]? = some x ∧ ys[i]? = some y ∧ d = .tuple [x, y]
  | [], _, _, _, h => by cases h
  | _ :: _, [], _, _, h => by cases h
  | x :: xs, y :: ys, 0, d, h => by cases h; exact ⟨x, y, rfl, rfl, rfl⟩
  | x :: xs, y :: ys, i + 1, d, h => zipD_get xs ys i d h
theorem zipD_length : ∀ (xs ys : List D), (zipD xs ys).length = min xs.length ys.length
  | [], _ => by simp [zipD]
  | _ :: _, [] => by simp [zipD]
  | x :: xs, y :: ys => by
    show (zipD xs ys).length + 1 = _
    rw [zipD_length xs ys]
    simp only [List.length_cons]
    omega
def zpOf : List D → Option (List D)
  | [a, b] => (itOf a).bind fun xs => (itOf b).map fun ys => zipD xs ys
  | _ => none
section
variable {X : Cx} {pos : Pos}
theorem two_of' {K : PySem.W.Frag} {sk : Option Addr} {G : Hp} {vs : List V} {a b : D} (h : Paired (Dq K sk G) vs [a, b]) : ∃ x y, vs = [x, y] ∧ Dq K sk G x a ∧ Dq K sk G y b := by
  cases h with
  | cons h1 t => cases t with
    | cons h2 t =>
      cases t
      exact ⟨_, _, rfl, h1, h2⟩
theorem row_of {K : PySem.W.Frag} {G : Hp} {v : V} {d : D} {ds : List D} (h : Dp K G v d) (e : itOf d = some ds) : ∃ k a xs, v = .ref a ∧ SqX K k G a xs ∧ DpAll K G xs ds := by
  unfold itOf at e
  split at e
  · cases e
    cases h with
    | lst a b => exact ⟨true, _, _, rfl, a, b⟩
  · cases e
    cases h with
    | tup a b => exact ⟨false, _, _, rfl, a, b⟩
  · cases e
theorem SqX.up {K : PySem.W.Frag} {k : Bool} {G G' : Hp} {a : Addr} {xs : List V} (l : Le G G') (h : SqX K k G a xs) : SqX K k G' a xs := by
  cases k
  · exact SqT.up l h
  · exact SqL.up l h
theorem itOf_isD {d : D} {ds : List D} (e : itOf d = some ds) : isD d = true := by
  unfold itOf at e
  split at e <;> first | rfl | cases e
theorem P.zip {e e2 : Expr} {fa : M (List D)} {p tpos : Pos} {elts : List Expr} {kk : Nat} (hg : Gl X "zip") (hm : X.mg "zip" = none) (ha : PA X [e, e2] (tA X.K fa))
    (hs : starEach [e, e2] X.env = (false, eval e X.env) :: starEach [e2] X.env := by rfl) (hpl : (backTo pos (starEach [e2] X.env)).any (·.1) = false := by rfl) :
    PI X (.Tuple elts kk tpos) (.Call (.Name "zip" p) [e, e2] [] pos) (tI X.K (mA zpOf fa)) :=
  piI (pi_zipX hg hm ha hs hpl) fun σ H R ⟨sk, G, ρ, s, ds, s', w, r, e1, k⟩ => by
    obtain ⟨as, s1, q1, q⟩ := mThen_some e1
    obtain ⟨q2, rfl⟩ := mLift_some q
    refine ⟨sk, G, ρ, s, as, s', w, r, q1, fun vs G' H' w' x ps => ?_⟩
    unfold zpOf at q2
    split at q2
    · rename_i a b
      cases qa : itOf a with
      | none => rw [qa] at q2; cases q2
      | some as' =>
        rw [qa] at q2
        cases qb : itOf b with
        | none => simp only [Option.bind, qb] at q2; cases q2
        | some bs' =>
          simp only [Option.bind, qb] at q2
          cases q2
          obtain ⟨va, vb, rfl, da, db⟩ := two_of' ps
          obtain ⟨ka, pa, xs, rfl, h1, h2⟩ := row_of (da.dp (itOf_isD qa)) qa
          obtain ⟨kb, pb, ys, rfl, h3, h4⟩ := row_of (db.dp (itOf_isD qb)) qb
          refine ⟨ka, kb, pa, pb, xs, ys, rfl, h1.up w'.sub, h3.up w'.sub, k _ G' H' w' x ⟨fun G1 H1 l1 l2 i d hd => ?_, fun G1 H1 l1 l2 => ?_⟩⟩
          · obtain ⟨c, f, hc, hf, rfl⟩ := zipD_get _ _ _ _ hd
            obtain ⟨y, g1, g2⟩ := DpAll.get h2 hc
            obtain ⟨z, g3, g4⟩ := DpAll.get h4 hf
            have u1 := (h1.up l1).up l2
            have u2 := (h3.up l1).up l2
            refine ⟨⟨xs, ys, y, z, u1, u2, g1, g3⟩, fun v H2 ⟨T, y', z', e1, e2, e3, e4, e5⟩ => ?_⟩
            subst e1; subst e3
            have e6 := e4 xs u1
            have e7 := e5 ys u2
            rw [g1] at e6; cases e6
            rw [g3] at e7; cases e7
            have g := Grow.new l2 e2 (.tup [y, z])
            exact ⟨_, g, .tup (SqT.of upd_same) (.cons (Dp.up g.gs _ _ (Dp.up l1 _ _ g2)) (.cons (Dp.up g.gs _ _ (Dp.up l1 _ _ g4)) .nil))⟩
          · have len : ((fun ys => zipD as' ys) bs').length = min as'.length bs'.length := zipD_length as' bs'
            have n1 := DpAll.length h2
            have n2 := DpAll.length h4
            exact ⟨xs, ys, (h1.up l1).up l2, (h3.up l1).up l2, by omega, by omega, by omega⟩
    · cases q2
end
end PL
/-! lists that are read where they stand: one's own ones, new ones, data -/
namespace PL
open PySem PySem.Spec PyProof.Rows L2 PLS
def tR (K : PySem.W.Frag) (F : M (List D)) : TE := fun σ H Q => ∃ sk G ρ s ds s', Vw K sk G H s ∧ ER K sk G H σ ρ ∧ F ρ s = some (ds, s') ∧
  ∀ a vs G' H', Vw K sk G' H' s' → Ex sk G H G' H' → ((H' a = some (.lst vs) ∧ sk ≠ some a) ∨ SqL K G' a vs) → DpAll K G' vs ds → Q (.ref a) H'
def mLo (f : M D) : M (List D) := mThen f fun x => mLift (match x with
  | .list ds => some ds
  | _ => none)
def mCat (a b : M (List D)) : M (List D) := mThen a fun x => mThen b fun y => mLift (if x.length + y.length ≤ sizeLine then some (x ++ y) else none)
def mRev (a : M (List D)) : M (List D) := mThen a fun x => mLift (some x.reverse)
def mSrtU (a : M (List D)) : M (List D) := mThen a fun x => mLift (srtU x)
section
variable {X : Cx} {pos : Pos}
theorem P.rL {e : Expr} {F : M (List D)} (h : PE X e (tL X.K F)) : PE X e (tR X.K F) := peI h fun σ H Q ⟨sk, G, ρ, s, ds, s', w, r, e, k⟩ =>
  ⟨sk, G, ρ, s, ds, s', w, r, e, fun p vs G' H' w' x hp np hl gp dl => k p vs G' H' w' x (.inl ⟨hl, np⟩) dl⟩
theorem P.rD {e : Expr} {f : M D} (h : PE X e (tP X.K f)) : PE X e (tR X.K (mLo f)) := peI h fun σ H Q ⟨sk, G, ρ, s, ds, s', w, r, e, k⟩ => by
  obtain ⟨d, s1, q1, q⟩ := mThen_some e
  obtain ⟨q2, rfl⟩ := mLift_some q
  refine P.then w r q1 fun v G' H' w' x r' q => ?_
  cases d with
  | list es =>
    cases q2
    obtain ⟨a, xs, rfl, h1, h2⟩ := Dp.lst_of q
    exact k a xs G' H' w' x (.inr h1) h2
  | _ => cases q2
theorem P.rO (i : Nat) {x : Str} {p1 : Pos} (hN : X.N[i]? = some x := by rfl) (hv : Vis X.env.scope x := by first | exact Or.inl rfl | exact Or.inr (Or.inl rfl) | exact Or.inr (Or.inr rfl)) (hd : (x == ("__debug__" : Str)) = false := by decide) (hcd : (x == ("__classdict__" : Str)) = false := by decide) :
    PE X (.Name x p1) (tR X.K (mItO i)) := peI (pe_var hN hv hd hcd) fun σ H Q ⟨sk, G, ρ, s, ds, s', w, r, e, k⟩ => by
  unfold mItO at e
  split at e
  · rename_i es e2
    cases e
    obtain ⟨a, vs, h1, h2, h3, h4, h5⟩ := r.ow i ds (owAt_some e2)
    exact ⟨_, h1, k a vs G H w .refl (.inl ⟨h2, h4⟩) h5⟩
  · cases e
/-- read later on -/
theorem rd_later {K : PySem.W.Frag} {sk : Option Addr} {G H G' H' : Hp} {a : Addr} {vs : List V} {s' : S} (h : (H a = some (.lst vs) ∧ sk ≠ some a) ∨ SqL K G a vs) (x : Ex sk G H G' H') (w : Vw K sk G' H' s') : SqL K H' a vs := by
  rcases h with ⟨h, n⟩ | h
  · exact SqL.of (x.hs a _ h n)
  · exact SqL.up w.sub (SqL.up x.gs h)
theorem P.cat {a b : Expr} {fa fb : M (List D)} (ha : PE X a (tR X.K fa)) (hb : PE X b (tR X.K fb)) : PE X (.BinOp a .Add b pos) (tL X.K (mCat fa fb)) :=
  peI (pe_op op_catL ha hb) fun σ H Q ⟨sk, G, ρ, s, ds, s', w, r, e, k⟩ => by
    obtain ⟨xs, s1, q1, q⟩ := mThen_some e
    obtain ⟨ys, s2, q2, q⟩ := mThen_some q
    obtain ⟨q3, rfl⟩ := mLift_some q
    split at q3
    · rename_i hz
      cases q3
      refine ⟨sk, G, ρ, s, xs, s1, w, r, q1, fun p vs G1 H1 w1 x1 hp dp => ?_⟩
      refine ⟨sk, G1, ρ, s1, ys, s', w1, r.ex x1, q2, fun p2 ws G2 H2 w2 x2 hp2 dp2 => ?_⟩
      refine ⟨p, p2, vs, ws, rfl, rfl, rd_later hp x2 w2, rd_later hp2 Ex.refl w2, by rw [DpAll.length dp, DpAll.length dp2]; exact hz, fun q hq => ?_⟩
      obtain ⟨n1, n2, n3, n4, n5⟩ := vw_new (.lst (vs ++ ws)) w2 (x1.trans x2) hq
      exact k q _ G2 _ n4 n5 n3 n1 upd_same n2 (DpAll.app (DpAll.up x2.gs _ _ dp) dp2)
    · cases q3
theorem P.rev {e : Expr} {f : M (List D)} {k : Nat} {p1 p2 p3 : Pos} (he : PE X e (tR X.K f)) : PE X (.Subscript e (.Slice none none (some (.UnaryOp .USub (.Constant (.int 1) k p1) p2)) p3) pos) (tL X.K (mRev f)) :=
  peI (pe_revL he) fun σ H Q ⟨sk, G, ρ, s, ds, s', w, r, e, k⟩ => by
    obtain ⟨xs, s1, q1, q⟩ := mThen_some e
    obtain ⟨q3, rfl⟩ := mLift_some q
    cases q3
    refine ⟨sk, G, ρ, s, xs, s', w, r, q1, fun p vs G1 H1 w1 x1 hp dp => ⟨p, vs, rfl, rd_later hp Ex.refl w1, fun q hq => ?_⟩⟩
    obtain ⟨n1, n2, n3, n4, n5⟩ := vw_new (.lst vs.reverse) w1 x1 hq
    exact k q _ G1 _ n4 n5 n3 n1 upd_same n2 (DpAll.rev dp)
theorem rows_of {K : PySem.W.Frag} {G : Hp} : ∀ {vs : List V} {ds : List D}, DpAll K G vs ds → ds.all isTD = true → ∃ ks : List (Addr × List Int), vs = ks.map (fun p => V.ref p.1) ∧ ks.map (·.2) = ds.map bkD ∧ ∀ p ∈ ks, SqT K G p.1 (p.2.map V.int) ∧ p.2 ≠ []
  | _, _, .nil, _ => ⟨[], rfl, rfl, fun _ h => by cases h⟩
  | v :: vs, d :: ds, .cons h t, a => by
    rw [List.all_cons, Bool.and_eq_true] at a
    obtain ⟨e1, e2⟩ := tD_of a.1
    rw [e1] at h
    obtain ⟨p, rfl, hp⟩ := tup_ints h
    obtain ⟨ks, f1, f2, f3⟩ := rows_of t a.2
    refine ⟨(p, bkD d) :: ks, by rw [f1]; rfl, by rw [List.map_cons, f2]; rfl, fun q hq => ?_⟩
    rcases List.mem_cons.mp hq with z | z
    · subst z; exact ⟨hp, e2⟩
    · exact f3 q z
/-- sorted(set(xs)) -/
theorem P.srtSet {e : Expr} {f : M (List D)} {p1 p2 p3 : Pos} (he : PE X e (tR X.K f)) (hg0 : Gl X "sorted") (hm0 : X.mg "sorted" = none) (hg1 : Gl X "set") (hm1 : X.mg "set" = none) (hu : X.A.units + 64 < cLine) (hc : X.calm = true)
    (hb : bootBuiltins "sorted" = some (.builtin "sorted") := by decide +kernel) (hb2 : bootBuiltins "set" = some (.type "set") := by decide +kernel)
    (hs1 : starEach [e] X.env = (false, eval e X.env) :: starEach [] X.env := by rfl) (hp1 : (backTo p3 (starEach [] X.env)).any (·.1) = false := by rfl)
    (hs2 : starEach [.Call (.Name "set" p2) [e] [] p3] X.env = (false, eval (.Call (.Name "set" p2) [e] [] p3) X.env) :: starEach [] X.env := by rfl) (hp2 : (backTo pos (starEach [] X.env)).any (·.1) = false := by rfl) :
    PE X (.Call (.Name "sorted" p1) [.Call (.Name "set" p2) [e] [] p3] [] pos) (tL X.K (mSrtU f)) :=
  peI (pe_callB (cr_srtS hc) hg0 hm0 hb (pa_cons (pe_callTy (cr_setOfT hc hu) hg1 hm1 hb2 (pa_cons he pa_nil hs1) (by decide) (by decide) hs1 hp1) pa_nil hs2) (by decide) (by decide) hs2 hp2) fun σ H Q ⟨sk, G, ρ, s, ds, s', w, r, e, k⟩ => by
    obtain ⟨xs, s1, q1, q⟩ := mThen_some e
    obtain ⟨q3, rfl⟩ := mLift_some q
    unfold srtU at q3
    split at q3
    · rename_i hd
      cases q3
      refine ⟨sk, G, ρ, s, xs, s', w, r, q1, fun p vs G1 H1 w1 x1 hp dp => ?_⟩
      obtain ⟨ks, e1, e2, e3⟩ := rows_of dp hd.1
      have len : ks.length < 64 := by
        have z := congrArg List.length e2
        simp only [List.length_map] at z
        rw [z]; exact hd.2
      refine ⟨p, ks, rfl, by rw [← e1]; exact rd_later hp Ex.refl w1, fun q hq => SqT.up w1.sub (e3 q hq).1, len, fun a L ha sub all => ?_⟩
      obtain ⟨n1, n2, n3, n4, n5⟩ := vw_new (SetTO X.prog X.w a L) w1 x1 ha
      refine srtS_at n4 n5 upd_same (fun q hq => e3 q (sub q hq)) (fun c => ?_) k
      rw [← e2]
      constructor
      · intro z
        obtain ⟨q, hq, rfl⟩ := List.mem_map.mp z
        exact List.mem_map.mpr ⟨q, sub q hq, rfl⟩
      · intro z
        obtain ⟨q, hq, rfl⟩ := List.mem_map.mp z
        exact all q hq
    · cases q3
/-- len of a list that is read -/
theorem P.srtR {e : Expr} {f : M (List D)} {p : Pos} (he : PE X e (tR X.K f)) (hg : Gl X "sorted") (hm : X.mg "sorted" = none) (hb : bootBuiltins "sorted" = some (.builtin "sorted") := by decide +kernel) (hs : starEach [e] X.env = (false, eval e X.env) :: starEach [] X.env := by rfl) (hpl : (backTo pos (starEach [] X.env)).any (·.1) = false := by rfl) :
    PE X (.Call (.Name "sorted" p) [e] [] pos) (tL X.K (mSrt f srtD)) :=
  peI (pe_callB cr_srt hg hm hb (pa_cons he pa_nil hs) (by decide) (by decide) hs hpl) fun σ H Q ⟨sk, G, ρ, s, ds, s', w, r, e, k⟩ => by
    obtain ⟨es, s1, q1, q⟩ := mThen_some e
    obtain ⟨q3, rfl⟩ := mLift_some q
    unfold srtD at q3
    split at q3
    · rename_i hd
      cases q3
      refine ⟨sk, G, ρ, s, es, s', w, r, q1, fun a vs G1 H1 w1 x1 hp h2 => ?_⟩
      refine ⟨a, vs, rfl, rd_later hp Ex.refl w1, fun x hx => ?_, fun ys p pm pw hpn => ?_⟩
      · obtain ⟨i, hi⟩ := List.getElem?_of_mem hx
        obtain ⟨d, hd1, hd2⟩ := DpAll.get' h2 hi
        obtain ⟨e1, e2⟩ := tD_of (List.all_eq_true.mp hd.1 d (List.mem_of_getElem? hd1))
        rw [e1] at hd2
        obtain ⟨t, rfl, ht⟩ := tup_ints hd2
        exact ⟨bkD d, ⟨t, rfl, SqT.up w1.sub ht⟩, e2⟩
      · obtain ⟨fs, pf, df⟩ := DpAll.perm pm h2
        obtain ⟨n1, n2, n3, n4, n5⟩ := vw_new (.lst ys) w1 x1 hpn
        have allf : fs.all isTD = true := List.all_eq_true.mpr fun d hd2 => List.all_eq_true.mp hd.1 d (pf.mem_iff.mp hd2)
        have ef : (sortS (es.map bkD)).map tD = fs := by
          rw [all_back allf]
          congr 1
          refine asc_unique ((sort_perm _).trans (pf.map bkD).symm) (sort_asc _) (List.pairwise_map.mpr ?_)
          rw [List.pairwise_iff_getElem]
          intro i j hi hj hij
          have li : i < ys.length := by rw [DpAll.length df]; exact hi
          have lj : j < ys.length := by rw [DpAll.length df]; exact hj
          have z := List.pairwise_iff_getElem.mp pw i j li lj hij
          obtain ⟨vi, ei, di⟩ := DpAll.get df (List.getElem?_eq_getElem hi)
          obtain ⟨vj, ej, dj⟩ := DpAll.get df (List.getElem?_eq_getElem hj)
          rw [List.getElem?_eq_getElem li] at ei
          rw [List.getElem?_eq_getElem lj] at ej
          cases ei; cases ej
          rw [(tD_of (List.all_eq_true.mp allf _ (List.getElem_mem hi))).1] at di
          rw [(tD_of (List.all_eq_true.mp allf _ (List.getElem_mem hj))).1] at dj
          obtain ⟨t1, e1, h1'⟩ := tup_ints di
          obtain ⟨t2, e2, h2'⟩ := tup_ints dj
          exact z _ _ ⟨t1, e1, SqT.up w1.sub h1'⟩ ⟨t2, e2, SqT.up w1.sub h2'⟩
        rw [ef] at k
        exact k p ys G1 _ n4 n5 n3 n1 upd_same n2 df
    · cases q3
end
end PL
/-! gcd of four, list(x) as a list of one's own, max of a row, comparisons in a chain -/
namespace PySem.W
open PySem PySem.Spec PyProof.Rows
theorem pl_args4 (a b c d : Value) : argsOk "math.gcd" ⟨[a, b, c, d], []⟩ := by unfold argsOk; kernel_rfl
theorem pl_run4 (a : Int) (t : Tok) (b : Int) (u : Tok) (c : Int) (v : Tok) (d : Int) (x : Tok) :
    Gives (Builtin.«math.gcd» ⟨[.int a t, .int b u, .int c v, .int d x], []⟩) (.int ((((((Nat.gcd 0 a.natAbs).gcd b.natAbs).gcd c.natAbs).gcd d.natAbs : Nat) : Int))) :=
  .of_wp fun M A E s Q h => by obtain ⟨hp, g, d, tk, os⟩ := s; wp_walk; exact ⟨_, rfl, h⟩
theorem pl_gcd4 {prog : Program} {w : World} {A : Around} {E : Value → Shared → Prop} {s : Shared} {Q : Value → Shared → Prop} {a b c d : Int} {t u v x : Tok}
    (h : Q (.int (((((a.natAbs.gcd b.natAbs).gcd c.natAbs).gcd d.natAbs : Nat) : Int)) s.toks) { s with toks := s.toks + 1 }) : wpAny (model prog w) A (call (.builtin "math.gcd") [.int a t, .int b u, .int c v, .int d x]) Q E s := by
  have g := pl_run4 a t b u c v d x
  rw [Nat.gcd_zero_left] at g
  exact call_function_meets MGF.kind_gcd MGF.plain_gcd MGF.entry_gcd (pl_args4 _ _ _ _) g.meets h
end PySem.W
namespace PL
open PySem PySem.Spec PyProof.Rows L2 PLS
section
variable {X : Cx} {pos : Pos}
def gcdI4 (a b c d : Int) : Int := ((((a.natAbs.gcd b.natAbs).gcd c.natAbs).gcd d.natAbs : Nat) : Int)
def bGcd4 : List D → Option D
  | [.int a, .int b, .int c, .int d] => some (.int (gcdI4 a b c d))
  | _ => none
def rGcd4 : List V → Hp → VK → Prop := fun vs H Q => ∃ a b c d : Int, vs = [.int a, .int b, .int c, .int d] ∧ Q (.int (gcdI4 a b c d)) H
theorem cr_gcd4 : CallR X (.builtin "math.gcd") rGcd4 := fun pins s σ H vs us Q I r h => by
  obtain ⟨a, b, c, d, rfl, q⟩ := h
  cases r with
  | cons r1 r => cases r with
    | cons r2 r => cases r with
      | cons r3 r => cases r with
        | cons r4 r =>
          cases r
          obtain ⟨t, rfl⟩ := r1
          obtain ⟨u, rfl⟩ := r2
          obtain ⟨v, rfl⟩ := r3
          obtain ⟨x, rfl⟩ := r4
          exact PySem.W.pl_gcd4 ⟨.int _, H, I.tok _, ⟨_, rfl⟩, q⟩
theorem four_of {α β : Type} {R : α → β → Prop} {xs : List α} {y z q u : β} (h : Paired R xs [y, z, q, u]) : ∃ a b c d, xs = [a, b, c, d] ∧ R a y ∧ R b z ∧ R c q ∧ R d u := by
  cases h with | cons h1 t => cases t with | cons h2 t => cases t with | cons h3 t => cases t with | cons h4 t => cases t; exact ⟨_, _, _, _, rfl, h1, h2, h3, h4⟩
theorem w_gcd4 {K : PySem.W.Frag} : WC K rGcd4 bGcd4 := fun xs as d sk G H Q l ps e k => by
  unfold bGcd4 at e
  split at e
  · cases e
    obtain ⟨x, u, v, y, rfl, h, h2, h3, h4⟩ := four_of ps
    exact ⟨_, _, _, _, by rw [Dp.int_of h, Dp.int_of h2, Dp.int_of h3, Dp.int_of h4], k _ G H (.refl l) (.int _)⟩
  · cases e
/-! list(x) -/
def mLoA (f : M D) : M (List D) := mThen f fun x => mLift (itOf x)
theorem P.listO {e : Expr} {f : M D} {p : Pos} (he : PE X e (tP X.K f)) (hg : Gl X "list") (hm : X.mg "list" = none) (hv : bootBuiltins "list" = some (.type "list") := by decide +kernel) (hs : starEach [e] X.env = (false, eval e X.env) :: starEach [] X.env := by rfl) (hpl : (backTo pos (starEach [] X.env)).any (·.1) = false := by rfl) :
    PE X (.Call (.Name "list" p) [e] [] pos) (tL X.K (mLoA f)) :=
  peI (pe_callTy call_list_of hg hm hv (P.acons he P.anil hs) (by decide) (by decide) hs hpl) fun σ H Q ⟨sk, G, ρ, s, ds, s', w, r, e, k⟩ => by
    obtain ⟨d, s1, q1, q⟩ := mThen_some e
    obtain ⟨q2, rfl⟩ := mLift_some q
    refine ⟨sk, G, ρ, s, [d], s', w, r, ?_, fun vs G' H' w' x' ps => ?_⟩
    · simp [aCons, aNil, mThen, mLift, q1]
    · obtain ⟨x, rfl, h⟩ := one_of ps
      have key : ∀ a xs, x = .ref a → (SqL X.K G' a xs ∨ SqT X.K G' a xs) → DpAll X.K G' xs ds → ∃ p ys, [x] = [V.ref p] ∧ (SqL X.K H' p ys ∨ SqT X.K H' p ys) ∧ ∀ l, H' l = none → Q (.ref l) (upd H' l (.lst ys)) := fun a xs hx h1 h2 => by
        subst hx
        refine ⟨a, xs, rfl, h1.elim (fun z => .inl (SqL.up w'.sub z)) (fun z => .inr (SqT.up w'.sub z)), fun l hl => ?_⟩
        obtain ⟨n1, n2, n3, n4, n5⟩ := vw_new (.lst xs) w' x' hl
        exact k l xs G' _ n4 n5 n3 n1 upd_same n2 h2
      cases d with
      | list es =>
        cases q2
        obtain ⟨a, xs, hx, h1, h2⟩ := Dp.lst_of h
        exact key a xs hx (.inl h1) h2
      | tuple es =>
        cases q2
        obtain ⟨a, xs, hx, h1, h2⟩ := Dp.tup_of h
        exact key a xs hx (.inr h1) h2
      | _ => cases q2
/-! max of a row -/
def maxL : Int → List Int → Int
  | m, [] => m
  | m, x :: xs => maxL (if m < x then x else m) xs
theorem maxL_spec : ∀ (xs : List Int) (m : Int), (maxL m xs = m ∨ maxL m xs ∈ xs) ∧ m ≤ maxL m xs ∧ ∀ y ∈ xs, y ≤ maxL m xs
  | [], m => ⟨.inl rfl, Int.le_refl _, by simp⟩
  | x :: xs, m => by
    obtain ⟨a, b, c⟩ := maxL_spec xs (if m < x then x else m)
    unfold maxL
    refine ⟨?_, ?_, fun y hy => ?_⟩
    · rcases a with a | a
      · by_cases h : m < x
        · rw [if_pos h] at a ⊢
          exact .inr (by rw [a]; simp)
        · rw [if_neg h] at a ⊢
          exact .inl a
      · exact .inr (List.mem_cons_of_mem _ a)
    · split at b <;> split <;> omega
    · rcases List.mem_cons.mp hy with h | h
      · rw [h]; split at b <;> split <;> omega
      · exact c y h
def bMaxL : List D → Option D
  | [.list ds] => (intsOf ds).bind fun ns => match ns with
    | [] => none
    | m :: xs => some (.int (maxL m xs))
  | _ => none
theorem w_maxL {K : PySem.W.Frag} : WC K (rMax K) bMaxL := fun xs as d sk G H Q l ps e k => by
  unfold bMaxL at e
  split at e
  · rename_i ds
    cases q : intsOf ds with
    | none => rw [q] at e; cases e
    | some bs =>
      rw [q] at e
      cases bs with
      | nil => cases e
      | cons m bs =>
        cases e
        obtain ⟨x, rfl, h⟩ := one_of ps
        obtain ⟨p, ys, rfl, h1, h2⟩ := Dp.lst_of h
        have e2 := ints_of h2 q
        subst e2
        refine ⟨p, m :: bs, rfl, SqL.up l h1, by simp, fun z hz hl => ?_⟩
        obtain ⟨a, b, c⟩ := maxL_spec bs m
        have e3 : z = maxL m bs := by
          have h5 : maxL m bs ≤ z := by
            rcases a with a | a
            · rw [a]; exact hl m List.mem_cons_self
            · exact hl _ (List.mem_cons_of_mem _ a)
          have h6 : z ≤ maxL m bs := by
            rcases List.mem_cons.mp hz with rfl | hz
            · exact b
            · exact c z hz
          omega
        rw [e3]
        exact k _ G H (.refl l) (.int _)
  · cases e
/-! a op b op c -/
def mChain (f g : D → D → Option D) (a b c : M D) : M D := mThen a fun x => mThen b fun y => mThen (mLift ((f x y).bind bOf)) fun k => if k = true then mThen c fun z => mLift (g y z) else mC (.bool false)
theorem tChain_of {K : PySem.W.Frag} {r r' : R2} {f g : D → D → Option D} (h : W2 K r f) (h' : W2 K r' g) {fa fb fc : M D} {σ : L2.St} {H : Hp} {Q : VK} (t : tP K (mChain f g fa fb fc) σ H Q) : tChain r r' (tP K fa) (tP K fb) (tP K fc) σ H Q := by
  obtain ⟨sk, G, ρ, s, d, s', w, e, q, k⟩ := t
  obtain ⟨a, s1, q1, q⟩ := mThen_some q
  obtain ⟨b, s2, q2, q⟩ := mThen_some q
  obtain ⟨kb, s3, q3, q⟩ := mThen_some q
  obtain ⟨q4, rfl⟩ := mLift_some q3
  cases hf : f a b with
  | none => rw [hf] at q4; cases q4
  | some fd =>
    rw [hf] at q4
    have hfd : fd = .bool kb := by cases fd <;> first | (cases q4; rfl) | cases q4
    subst hfd
    refine P.then w e q1 fun x G1 H1 w1 x1 e1 dx => ?_
    refine P.then w1 e1 q2 fun y G2 H2 w2 x2 e2 dy => ?_
    refine h x y a b (.bool kb) sk G2 H2 _ w2.sub (dx.up x2.gs) dy hf fun v G3 H3 g3 dv => ?_
    have w3 := g3.vw w2
    have x3 := g3.ex sk
    have e3 := e2.ex x3
    refine ⟨kb, Dp.bl_of (sk := sk) (.inl dv), ?_⟩
    cases kb with
    | true =>
      obtain ⟨z, s4, q5, q6⟩ := mThen_some q
      obtain ⟨q7, rfl⟩ := mLift_some q6
      refine P.then w3 e3 q5 fun u G4 H4 w4 x4 e4 du => ?_
      exact h' y u b z d sk G4 H4 Q w4.sub (dy.up (x3.gs.trans x4.gs)) du q7 fun v5 G5 H5 g5 dv5 => k v5 G5 H5 (g5.vw w4) (((x1.trans x2).trans (x3.trans x4)).trans (g5.ex sk)) (.inl dv5)
    | false =>
      cases q
      exact k (.bl false) G3 H3 w3 ((x1.trans x2).trans x3) (.inl (.bl false))
theorem P.chain {op op' : CmpOp} {r r' : R2} {f g : D → D → Option D} {a b c : Expr} {fa fb fc : M D} (ho : OpR X (compareOp op) r) (h : W2 X.K r f) (ho' : OpR X (compareOp op') r') (h' : W2 X.K r' g) (ha : PE X a (tP X.K fa)) (hb : PE X b (tP X.K fb)) (hc : PE X c (tP X.K fc)) (hm : lastMarks [op, op'] [b, c] = false := by with_unfolding_all rfl) : PE X (.Compare a [op, op'] [b, c] pos) (tP X.K (mChain f g fa fb fc)) :=
  peI (pe_chain ho ho' ha hb hc hm) fun _ _ _ t => tChain_of h h' t
theorem P.chainT {op op' : CmpOp} {r r' : R2} {f g : D → D → Option D} {a b c : Expr} {fa fb fc : M D} (ho : OpR X (compareOp op) r) (h : W2 X.K r f) (ho' : OpR X (compareOp op') r') (h' : W2 X.K r' g) (ha : PE X a (tP X.K fa)) (hb : PE X b (tP X.K fb)) (hc : PE X c (tP X.K fc)) (hm : lastMarks [op, op'] [b, c] = false := by with_unfolding_all rfl) : PT X (.Compare a [op, op'] [b, c] pos) (tQ X.K (mB (mChain f g fa fb fc))) := by
  refine ptI (pt_chain ho ho' ha hb hc hm) fun σ H Q ⟨sk, G, ρ, s, c, s', w, r, e, k⟩ => ?_
  refine tChain_of h h' ?_
  refine P.then w r (mB_some e) fun v G' H' w' x r' q => ?_
  exact ⟨c, Dp.bl_of q, k G' H' w' x⟩
end
end PL
namespace WF
open PySem PySem.Spec PyProof.Rows L2 PL
def g_is_whole : M Out := sRet (mAndV (m1 (dIs "int") (mVar 0)) (m1 dNot (m1 (dIs "bool") (mVar 0))))
def f_is_whole : Fn := fnM 1 1 g_is_whole
def le_are_whole_0 : M D := mF f_is_whole (aCons (mVar 2) aNil)
def g_are_whole : M Out := sRet (mAndV (m1 (dIs "tuple") (mVar 0)) (mAndV (m2 (dEq) (mCall bLen (aCons (mVar 0) aNil)) (mVar 1)) (mCall bAll (aCons (mL (mLc (mIt (mVar 0)) [2] (.nm 2) (qC true) le_are_whole_0)) aNil))))
def f_are_whole : Fn := fnM 2 3 g_are_whole
def g_ratio : M Out := sSeq (sAsg (.nm 2) (mCall bGcd (aCons (mVar 0) (aCons (mVar 1) aNil)))) (sSeq (mIf (mB (m2 (dCmp fun i j => decide (i < j)) (mVar 1) (mC (.int 0)))) (sAsg (.nm 2) (m1 dNeg (mVar 2))) (sNx)) (sRet (mTup (aCons (m2 dDiv (mVar 0) (mVar 2)) (aCons (m2 dDiv (mVar 1) (mVar 2)) aNil)))))
def f_ratio : Fn := fnM 2 3 g_ratio
def g_ratio_product : M Out := sRet (mF f_ratio (aCons (m2 dMul (m2 dIx (mVar 0) (mC (.int 0))) (m2 dIx (mVar 1) (mC (.int 0)))) (aCons (m2 dMul (m2 dIx (mVar 0) (mC (.int 1))) (m2 dIx (mVar 1) (mC (.int 1)))) aNil)))
def f_ratio_product : Fn := fnM 2 2 g_ratio_product
def g_is_less : M Out := sRet (m2 (dCmp fun i j => decide (i < j)) (m2 dMul (m2 dIx (mVar 0) (mC (.int 0))) (m2 dIx (mVar 1) (mC (.int 1)))) (m2 dMul (m2 dIx (mVar 1) (mC (.int 0))) (m2 dIx (mVar 0) (mC (.int 1)))))
def f_is_less : Fn := fnM 2 2 g_is_less
def g_point_of : M Out := sSeq (sAsg (.nm 3) (mCall bGcd (aCons (mVar 0) (aCons (mVar 1) (aCons (mVar 2) aNil))))) (sSeq (mIf (mB (m2 (dCmp fun i j => decide (i < j)) (mVar 2) (mC (.int 0)))) (sAsg (.nm 3) (m1 dNeg (mVar 3))) (sNx)) (sRet (mTup (aCons (m2 dDiv (mVar 0) (mVar 3)) (aCons (m2 dDiv (mVar 1) (mVar 3)) (aCons (m2 dDiv (mVar 2) (mVar 3)) aNil))))))
def f_point_of : Fn := fnM 3 4 g_point_of
def g_course_to : M Out := sSeq (sAsg (.tp [.tp [.nm 2, .nm 3, .nm 4], .tp [.nm 5, .nm 6, .nm 7]]) (mTup (aCons (mVar 0) (aCons (mVar 1) aNil)))) (sRet (mTup (aCons (m2 dSub (m2 dMul (mVar 5) (mVar 4)) (m2 dMul (mVar 2) (mVar 7))) (aCons (m2 dSub (m2 dMul (mVar 6) (mVar 4)) (m2 dMul (mVar 3) (mVar 7))) aNil))))
def f_course_to : Fn := fnM 2 8 g_course_to
def g_side_of : M Out := sSeq (sAsg (.tp [.nm 3, .nm 4]) (mVar 2)) (sSeq (sAsg (.nm 5) (mCall bGcd (aCons (m2 dMul (mVar 0) (mVar 4)) (aCons (m2 dMul (mVar 1) (mVar 4)) (aCons (mVar 3) aNil))))) (sRet (mTup (aCons (m2 dDiv (m2 dMul (mVar 0) (mVar 4)) (mVar 5)) (aCons (m2 dDiv (m2 dMul (mVar 1) (mVar 4)) (mVar 5)) (aCons (m2 dDiv (mVar 3) (mVar 5)) aNil))))))
def f_side_of : Fn := fnM 3 6 g_side_of
def g_along : M Out := sRet (mF f_ratio (aCons (m2 dAdd (m2 dMul (mVar 0) (m2 dIx (mVar 2) (mC (.int 0)))) (m2 dMul (mVar 1) (m2 dIx (mVar 2) (mC (.int 1))))) (aCons (m2 dIx (mVar 2) (mC (.int 2))) aNil)))
def f_along : Fn := fnM 3 3 g_along
def g_overshoot : M Out := sRet (m2 dSub (m2 dAdd (m2 dMul (m2 dIx (mVar 0) (mC (.int 0))) (m2 dIx (mVar 1) (mC (.int 0)))) (m2 dMul (m2 dIx (mVar 0) (mC (.int 1))) (m2 dIx (mVar 1) (mC (.int 1))))) (m2 dMul (m2 dIx (mVar 0) (mC (.int 2))) (m2 dIx (mVar 1) (mC (.int 2)))))
def f_overshoot : Fn := fnM 2 2 g_overshoot
def g_is_point : M Out := sRet (mAndV (mF f_are_whole (aCons (mVar 0) (aCons (mC (.int 3)) aNil))) (mAndV (m2 (dCmp fun i j => decide (j < i)) (m2 dIx (mVar 0) (mC (.int 2))) (mC (.int 0))) (m2 (dEq) (mCall bGcd (aCons (m2 dIx (mVar 0) (mC (.int 0))) (aCons (m2 dIx (mVar 0) (mC (.int 1))) (aCons (m2 dIx (mVar 0) (mC (.int 2))) aNil)))) (mC (.int 1)))))
def f_is_point : Fn := fnM 1 1 g_is_point
def g_is_side : M Out := sRet (mAndV (mF f_are_whole (aCons (mVar 0) (aCons (mC (.int 3)) aNil))) (mAndV (m2 (dNe) (mSl (mVar 0) oNo (oSome (mC (.int 2)))) (mTup (aCons (mC (.int 0)) (aCons (mC (.int 0)) aNil)))) (m2 (dEq) (mCall bGcd (aCons (m2 dIx (mVar 0) (mC (.int 0))) (aCons (m2 dIx (mVar 0) (mC (.int 1))) (aCons (m2 dIx (mVar 0) (mC (.int 2))) aNil)))) (mC (.int 1)))))
def f_is_side : Fn := fnM 1 1 g_is_side
def g_is_direction : M Out := sRet (mAndV (mF f_are_whole (aCons (mVar 0) (aCons (mC (.int 2)) aNil))) (m2 (dEq) (mCall bGcd (aCons (m2 dIx (mVar 0) (mC (.int 0))) (aCons (m2 dIx (mVar 0) (mC (.int 1))) aNil))) (mC (.int 1))))
def f_is_direction : Fn := fnM 1 1 g_is_direction
def g_need_point : M Out := mIf (mNot (mB (mF f_is_point (aCons (mVar 0) aNil)))) (sNo) (sNx)
def f_need_point : Fn := fnM 1 1 g_need_point
def g_need_side : M Out := mIf (mNot (mB (mF f_is_side (aCons (mVar 0) aNil)))) (sNo) (sNx)
def f_need_side : Fn := fnM 1 1 g_need_side
def t_half_hull_0 : PL.Env → S → Nat := fun ρ _ => match owAt 1 ρ with
  | some ds => ds.length + 1
  | none => 0
def lc_half_hull_0 : M Bool := mB (m2 (dCmp fun i j => decide (j < i)) (mLenO 1) (mC (.int 1)))
def lb_half_hull_0 : M Out := sSeq (sAsg (.tp [.tp [.nm 4, .nm 5], .tp [.nm 6, .nm 7]]) (mTup (aCons (mIxO 1 (m1 dNeg (mC (.int 2)))) (aCons (mIxO 1 (m1 dNeg (mC (.int 1)))) aNil)))) (sSeq (mIf (mB (m2 (dCmp fun i j => decide (j < i)) (m2 dSub (m2 dMul (m2 dSub (mVar 6) (mVar 4)) (m2 dSub (mVar 3) (mVar 5))) (m2 dMul (m2 dSub (mVar 7) (mVar 5)) (m2 dSub (mVar 2) (mVar 4)))) (mC (.int 0)))) (sBk) (sNx)) (sPop 1))
def lb_half_hull_1 : M Out := sSeq (sWh t_half_hull_0 lc_half_hull_0 lb_half_hull_0) (sApp 1 (mTup (aCons (mVar 2) (aCons (mVar 3) aNil))))
def g_half_hull : M Out := sSeq (sOwn 1 (mLst aNil)) (sSeq (sFor (mIt (mVar 0)) (.tp [.nm 2, .nm 3]) lb_half_hull_1) (sFrz 1 (sRet (mVar 1))))
def f_half_hull : Fn := fnM 1 8 g_half_hull
def lb_shape_hull_0 : M Out := sAsg (.nm 1) (mCall bLcm (aCons (mVar 1) (aCons (m2 dIx (mVar 2) (mC (.int 2))) aNil)))
def le_shape_hull_1 : M D := mTup (aCons (m2 dMul (mVar 4) (m2 dDiv (mVar 1) (mVar 6))) (aCons (m2 dMul (mVar 5) (m2 dDiv (mVar 1) (mVar 6))) aNil))
def le_shape_hull_2 : M D := mF f_point_of (aCons (mVar 4) (aCons (mVar 5) (aCons (mVar 1) aNil)))
def g_shape_hull : M Out := sSeq (sAsg (.nm 1) (mC (.int 1))) (sSeq (sFor (mIt (mVar 0)) (.nm 2) lb_shape_hull_0) (sSeq (sAsg (.nm 3) (mL (mSrt (mLc (mIt (mVar 0)) [4, 5, 6] (.tp [.nm 4, .nm 5, .nm 6]) (qC true) le_shape_hull_1) srtU))) (sSeq (mIf (mB (m2 (dCmp fun i j => decide (j < i)) (mCall bLen (aCons (mVar 3) aNil)) (mC (.int 1)))) (sAsg (.nm 3) (m2 dAdd (mSl (mF f_half_hull (aCons (mVar 3) aNil)) oNo (oSome (m1 dNeg (mC (.int 1))))) (mSl (mF f_half_hull (aCons (mL (mRev (mLo (mVar 3)))) aNil)) oNo (oSome (m1 dNeg (mC (.int 1))))))) (sNx)) (sRet (mCall bTuple (aCons (mL (mLc (mIt (mVar 3)) [4, 5] (.tp [.nm 4, .nm 5]) (qC true) le_shape_hull_2)) aNil))))))
def f_shape_hull : Fn := fnM 1 7 g_shape_hull
def le_edge_courses_0 : M D := mF f_course_to (aCons (m2 dIx (mVar 0) (m2 dSub (mVar 1) (mC (.int 1)))) (aCons (m2 dIx (mVar 0) (mVar 1)) aNil))
def g_edge_courses : M Out := sSeq (mIf (mB (m2 (dEq) (mCall bLen (aCons (mVar 0) aNil)) (mC (.int 1)))) (sRet (mL (mLst aNil))) (sNx)) (sRet (m2 dAdd (mL (mLc (mA rg2 (aCons (mC (.int 1)) (aCons (mCall bLen (aCons (mVar 0) aNil)) aNil))) [1] (.nm 1) (qC true) le_edge_courses_0)) (mL (mLst (aCons (mF f_course_to (aCons (m2 dIx (mVar 0) (m1 dNeg (mC (.int 1)))) (aCons (m2 dIx (mVar 0) (mC (.int 0))) aNil))) aNil)))))
def f_edge_courses : Fn := fnM 1 2 g_edge_courses
def lb_shape_support_0 : M Out := sSeq (sAsg (.nm 5) (mF f_along (aCons (mVar 1) (aCons (mVar 2) (aCons (mVar 4) aNil))))) (mIf (mB (mF f_is_less (aCons (mVar 3) (aCons (mVar 5) aNil)))) (sAsg (.nm 3) (mVar 5)) (sNx))
def g_shape_support : M Out := sSeq (sAsg (.nm 3) (mF f_along (aCons (mVar 1) (aCons (mVar 2) (aCons (m2 dIx (mVar 0) (mC (.int 0))) aNil))))) (sSeq (sFor (mIt (mSl (mVar 0) (oSome (mC (.int 1))) oNo)) (.nm 4) lb_shape_support_0) (sRet (mVar 3)))
def f_shape_support : Fn := fnM 3 6 g_shape_support
def le_shape_sides_0 : M D := mF f_side_of (aCons (mVar 2) (aCons (m1 dNeg (mVar 1)) (aCons (mF f_along (aCons (mVar 2) (aCons (m1 dNeg (mVar 1)) (aCons (mVar 3) aNil)))) aNil)))
def le_shape_sides_1 : M D := mF f_side_of (aCons (mVar 5) (aCons (mVar 6) (aCons (mF f_shape_support (aCons (mVar 0) (aCons (mVar 5) (aCons (mVar 6) aNil)))) aNil)))
def g_shape_sides : M Out := sSeq (mIf (mB (m2 (dCmp fun i j => decide (j < i)) (mCall bLen (aCons (mVar 0) aNil)) (mC (.int 2)))) (sRet (mCall bTuple (aCons (mL (mLc (mA zpOf (aCons (mF f_edge_courses (aCons (mVar 0) aNil)) (aCons (mVar 0) aNil))) [1, 2, 3] (.tp [.tp [.nm 1, .nm 2], .nm 3]) (qC true) le_shape_sides_0)) aNil))) (sNx)) (sSeq (sAsg (.nm 4) (mC (.tuple [(.tuple [(.int 1), (.int 0)]), (.tuple [(.int 0), (.int 1)]), (.tuple [(.int (-1)), (.int 0)]), (.tuple [(.int 0), (.int (-1))])]))) (sSeq (mIf (mB (m2 (dEq) (mCall bLen (aCons (mVar 0) aNil)) (mC (.int 2)))) (sSeq (sAsg (.tp [.nm 1, .nm 2]) (mF f_course_to (aCons (m2 dIx (mVar 0) (mC (.int 0))) (aCons (m2 dIx (mVar 0) (mC (.int 1))) aNil)))) (sAsg (.nm 4) (mTup (aCons (mTup (aCons (mVar 2) (aCons (m1 dNeg (mVar 1)) aNil))) (aCons (mTup (aCons (mVar 1) (aCons (mVar 2) aNil))) (aCons (mTup (aCons (m1 dNeg (mVar 2)) (aCons (mVar 1) aNil))) (aCons (mTup (aCons (m1 dNeg (mVar 1)) (aCons (m1 dNeg (mVar 2)) aNil))) aNil))))))) (sNx)) (sRet (mCall bTuple (aCons (mL (mLc (mIt (mVar 4)) [5, 6] (.tp [.nm 5, .nm 6]) (qC true) le_shape_sides_1)) aNil)))))
def f_shape_sides : Fn := fnM 1 7 g_shape_sides
def le_shape_holds_0 : M D := m2 (dCmp fun i j => decide (i ≤ j)) (mF f_overshoot (aCons (mVar 2) (aCons (mVar 1) aNil))) (mC (.int 0))
def g_shape_holds : M Out := sRet (mCall bAll (aCons (mL (mLc (mIt (mF f_shape_sides (aCons (mVar 0) aNil))) [2] (.nm 2) (qC true) le_shape_holds_0)) aNil))
def f_shape_holds : Fn := fnM 2 3 g_shape_holds
def lb_first_no_point_0 : M Out := mIf (mNot (mB (mF f_is_point (aCons (mVar 2) aNil)))) (sRet (mVar 1)) (sNx)
def g_first_no_point : M Out := sSeq (sFor (mEn (mVar 0)) (.tp [.nm 1, .nm 2]) lb_first_no_point_0) (sRet (mC .none))
def f_first_no_point : Fn := fnM 1 3 g_first_no_point
def g_is_polygon : M Out := sSeq (mIf (mOr (mNot (mB (m1 (dIs "tuple") (mVar 0)))) (mOr (mB (m2 (dEq) (mVar 0) (mTup aNil))) (mB (m2 (dNotN) (mF f_first_no_point (aCons (mVar 0) aNil)) (mC .none))))) (sRet (mC (.bool false))) (sNx)) (sRet (m2 (dEq) (mF f_shape_hull (aCons (mVar 0) aNil)) (mVar 0)))
def f_is_polygon : Fn := fnM 1 1 g_is_polygon
def g_is_figure : M Out := sRet (mAndV (mF f_is_polygon (aCons (mVar 0) aNil)) (mAndV (m2 (dCmp fun i j => decide (j < i)) (mCall bLen (aCons (mVar 0) aNil)) (mC (.int 2))) (mF f_shape_holds (aCons (mVar 0) (aCons (mC (.tuple [(.int 0), (.int 0), (.int 1)])) aNil)))))
def f_is_figure : Fn := fnM 1 1 g_is_figure
def g_need_figure : M Out := mIf (mNot (mB (mF f_is_figure (aCons (mVar 0) aNil)))) (sNo) (sNx)
def f_need_figure : Fn := fnM 1 1 g_need_figure
def g_need_wind : M Out := mIf (mNot (mB (mF f_is_direction (aCons (mVar 0) aNil)))) (sNo) (sNx)
def f_need_wind : Fn := fnM 1 1 g_need_wind
def g_length_square : M Out := sRet (m2 dAdd (m2 dMul (m2 dIx (mVar 0) (mC (.int 0))) (m2 dIx (mVar 0) (mC (.int 0)))) (m2 dMul (m2 dIx (mVar 0) (mC (.int 1))) (m2 dIx (mVar 0) (mC (.int 1)))))
def f_length_square : Fn := fnM 1 1 g_length_square
def g_is_up_to_root : M Out := sRet (mOrV (m2 (dCmp fun i j => decide (i ≤ j)) (m2 dIx (mVar 0) (mC (.int 0))) (mC (.int 0))) (m1 dNot (mF f_is_less (aCons (mVar 1) (aCons (mF f_ratio_product (aCons (mVar 0) (aCons (mVar 0) aNil))) aNil)))))
def f_is_up_to_root : Fn := fnM 2 2 g_is_up_to_root
def g_holds_in_wind : M Out := sSeq (sEx (mF f_need_figure (aCons (mVar 0) aNil))) (sSeq (sEx (mF f_need_point (aCons (mVar 1) aNil))) (sSeq (sEx (mF f_need_side (aCons (mVar 2) aNil))) (sSeq (sEx (mF f_need_wind (aCons (mVar 3) aNil))) (sSeq (sAsg (.tp [.tp [.nm 4, .nm 5, .nm 6], .tp [.nm 7, .nm 8]]) (mTup (aCons (mVar 2) (aCons (mVar 3) aNil)))) (sSeq (sAsg (.nm 9) (mF f_shape_support (aCons (mVar 0) (aCons (m2 dSub (m2 dMul (m1 dNeg (mVar 4)) (mVar 7)) (m2 dMul (mVar 5) (mVar 8))) (aCons (m2 dSub (m2 dMul (mVar 4) (mVar 8)) (m2 dMul (mVar 5) (mVar 7))) aNil))))) (sSeq (sAsg (.nm 10) (mF f_ratio (aCons (m2 dMul (m2 dIx (mVar 9) (mC (.int 0))) (m2 dIx (mVar 9) (mC (.int 0)))) (aCons (m2 dMul (m2 dMul (m2 dIx (mVar 9) (mC (.int 1))) (m2 dIx (mVar 9) (mC (.int 1)))) (mF f_length_square (aCons (mVar 3) aNil))) aNil)))) (sRet (mF f_is_up_to_root (aCons (mF f_along (aCons (mVar 4) (aCons (mVar 5) (aCons (mVar 1) aNil)))) (aCons (mVar 10) aNil))))))))))
def f_holds_in_wind : Fn := fnM 4 11 g_holds_in_wind
def le_winds_off_0 : M D := mF f_ratio (aCons (m2 dMul (m2 dMul (mVar 8) (mVar 8)) (mVar 4)) (aCons (m2 dAdd (m2 dMul (mVar 6) (mVar 6)) (m2 dMul (mVar 7) (mVar 7))) aNil))
def le_winds_off_1 : M D := mF f_ratio (aCons (m2 dMul (m2 dAdd (m2 dMul (mVar 10) (mVar 10)) (m2 dMul (mVar 11) (mVar 11))) (mVar 4)) (aCons (m2 dMul (mVar 12) (mVar 12)) aNil))
def le_winds_off_2 : M D := mF f_is_up_to_root (aCons (mVar 3) (aCons (mVar 13) aNil))
def le_winds_off_3 : M D := mF f_is_up_to_root (aCons (mVar 3) (aCons (mVar 13) aNil))
def g_winds_off : M Out := sSeq (sEx (mF f_need_figure (aCons (mVar 0) aNil))) (sSeq (sEx (mF f_need_point (aCons (mVar 1) aNil))) (sSeq (sEx (mF f_need_side (aCons (mVar 2) aNil))) (sSeq (sAsg (.tp [.nm 3, .nm 4]) (mTup (aCons (mF f_along (aCons (m2 dIx (mVar 2) (mC (.int 0))) (aCons (m2 dIx (mVar 2) (mC (.int 1))) (aCons (mVar 1) aNil)))) (aCons (mF f_length_square (aCons (mVar 2) aNil)) aNil)))) (sSeq (sOwn 5 (mLc (mIt (mF f_shape_sides (aCons (mVar 0) aNil))) [6, 7, 8] (.tp [.nm 6, .nm 7, .nm 8]) (qC true) le_winds_off_0)) (sFrz 5 (sSeq (sOwn 9 (mLc (mIt (mVar 0)) [10, 11, 12] (.tp [.nm 10, .nm 11, .nm 12]) (qC true) le_winds_off_1)) (sFrz 9 (sSeq (mIf (mB (mCall bAll (aCons (mL (mLc (mIt (mVar 5)) [13] (.nm 13) (qC true) le_winds_off_2)) aNil))) (sRet (mC (.str "all"))) (sNx)) (sSeq (mIf (mB (mCall bAny (aCons (mL (mLc (mIt (mVar 9)) [13] (.nm 13) (qC true) le_winds_off_3)) aNil))) (sRet (mC (.str "some"))) (sNx)) (sRet (mC (.str "none"))))))))))))
def f_winds_off : Fn := fnM 3 14 g_winds_off
def lb__law_sack_0 : M Out := sAsg (.nm 3) (m2 dMod (mCall bInt (aCons (m2 dAdd (m2 dAdd (m2 dMul (mVar 3) (mC (.int 69069))) (m2 dMod (mCall bInt (aCons (mVar 4) aNil)) (mC (.int 2147483543)))) (mC (.int 13))) aNil)) (mC (.int 2147483543)))
def g__law_sack : M Out := sSeq (sAsg (.nm 2) (mIf (mB (m2 (dCmp fun i j => decide (i < j)) (mVar 1) (mCall bLen (aCons (mVar 0) aNil)))) (mCall bInt (aCons (m2 dIx (mVar 0) (mVar 1)) aNil)) (m2 dAdd (m2 dMul (mC (.int 7919)) (mVar 1)) (mC (.int 101))))) (sSeq (sAsg (.nm 3) (m2 dAdd (mC (.int 30011)) (m2 dMul (mC (.int 1709)) (mVar 1)))) (sSeq (sFor (mIt (m2 dAdd (mCall bList (aCons (mSl (mVar 0) oNo (oSome (mC (.int 7)))) aNil)) (mL (mLst (aCons (mVar 2) aNil))))) (.nm 4) lb__law_sack_0) (sRetL (mLst (aCons (mIf (mOr (mB (m2 (dCmp fun i j => decide (i < j)) (mVar 2) (mC (.int 0)))) (mB (m2 (dCmp fun i j => decide (j ≤ i)) (mVar 2) (m2 dPow (mC (.int 10)) (mC (.int 18)))))) (mCall bAbs (aCons (mVar 2) aNil)) (mC (.int 0))) (aCons (mVar 3) (aCons (mC (.int 0)) aNil)))))))
def f__law_sack : FnL := fnL 2 5 g__law_sack
def g__law_draw : M Out := sSeq (mIf (mB (m2 (dCmp fun i j => decide (j < i)) (mSk 0 0) (mC (.int 0)))) (sSeq (sAsg (.tp [.sb 0 0, .nm 2]) (mCall bDivmod (aCons (mSk 0 0) (aCons (mVar 1) aNil)))) (sRet (mVar 2))) (sNx)) (sSeq (sAsg (.sb 0 2) (m2 dAdd (mSk 0 2) (mC (.int 1)))) (sSeq (sAsg (.nm 3) (m2 dMod (mCall bInt (aCons (m2 dAdd (m2 dMul (mSk 0 1) (mC (.int 16807))) (m2 dMul (mSk 0 2) (mC (.int 48611)))) aNil)) (mC (.int 2147483543)))) (sSeq (sAsg (.sb 0 1) (m2 dMod (mCall bInt (aCons (m2 dAdd (m2 dMul (mVar 3) (m2 dAdd (m2 dMod (mCall bInt (aCons (m2 dDiv (mVar 3) (mC (.int 11))) aNil)) (mC (.int 3001))) (mC (.int 10007)))) (mC (.int 29))) aNil)) (mC (.int 2147483543)))) (sRet (m2 dMod (mCall bInt (aCons (m2 dDiv (mSk 0 1) (mC (.int 523))) aNil)) (mVar 1))))))
def f__law_draw : Fn := fnM 2 4 g__law_draw
def g__law_one : M Out := sRet (m2 dIx (mVar 1) (mF f__law_draw (aCons (mVar 0) (aCons (mCall bLen (aCons (mVar 1) aNil)) aNil))))
def f__law_one : Fn := fnM 2 2 g__law_one
def t__law_gcd_0 : PL.Env → S → Nat := fun ρ _ => match ρ[1]? with
  | some (some (Cell.fz (.int b))) => b.natAbs + 1
  | _ => 0
def lc__law_gcd_0 : M Bool := mB (m2 (dNe) (mVar 1) (mC (.int 0)))
def lb__law_gcd_0 : M Out := sPar 0 1 (aCons (mVar 1) (aCons (m2 dMod (mCall bInt (aCons (mVar 0) aNil)) (mVar 1)) aNil))
def g__law_gcd : M Out := sSeq (sPar 0 1 (aCons (mCall bAbs (aCons (mVar 0) aNil)) (aCons (mCall bAbs (aCons (mVar 1) aNil)) aNil))) (sSeq (sWh t__law_gcd_0 lc__law_gcd_0 lb__law_gcd_0) (sRet (mVar 0)))
def f__law_gcd : Fn := fnM 2 2 g__law_gcd
def g__law_spot : M Out := sSeq (sAsg (.nm 3) (mF f__law_gcd (aCons (mF f__law_gcd (aCons (mVar 0) (aCons (mVar 1) aNil))) (aCons (mVar 2) aNil)))) (sRet (mTup (aCons (m2 dDiv (mVar 0) (mVar 3)) (aCons (m2 dDiv (mVar 1) (mVar 3)) (aCons (m2 dDiv (mVar 2) (mVar 3)) aNil)))))
def f__law_spot : Fn := fnM 3 4 g__law_spot
def le__law_said_0 : M D := mF f__law_spot (aCons (mVar 2) (aCons (mVar 3) (aCons (mVar 1) aNil)))
def g__law_said : M Out := sRet (mCall bTuple (aCons (mL (mLc (mIt (mVar 0)) [2, 3] (.tp [.nm 2, .nm 3]) (qC true) le__law_said_0)) aNil))
def f__law_said : Fn := fnM 2 4 g__law_said
def g__law_bend : M Out := sRet (m2 dSub (m2 dMul (m2 dSub (m2 dIx (mVar 1) (mC (.int 0))) (m2 dIx (mVar 0) (mC (.int 0)))) (m2 dSub (m2 dIx (mVar 2) (mC (.int 1))) (m2 dIx (mVar 0) (mC (.int 1))))) (m2 dMul (m2 dSub (m2 dIx (mVar 1) (mC (.int 1))) (m2 dIx (mVar 0) (mC (.int 1)))) (m2 dSub (m2 dIx (mVar 2) (mC (.int 0))) (m2 dIx (mVar 0) (mC (.int 0))))))
def f__law_bend : Fn := fnM 3 3 g__law_bend
def t__law_chain_0 : PL.Env → S → Nat := fun ρ _ => match owAt 1 ρ with
  | some ds => ds.length + 1
  | none => 0
def lc__law_chain_0 : M Bool := mAnd (mB (m2 (dCmp fun i j => decide (j < i)) (mLenO 1) (mC (.int 1)))) (mB (m2 (dCmp fun i j => decide (i ≤ j)) (mF f__law_bend (aCons (mIxO 1 (m1 dNeg (mC (.int 2)))) (aCons (mIxO 1 (m1 dNeg (mC (.int 1)))) (aCons (mVar 2) aNil)))) (mC (.int 0))))
def lb__law_chain_0 : M Out := sPop 1
def lb__law_chain_1 : M Out := sSeq (sWh t__law_chain_0 lc__law_chain_0 lb__law_chain_0) (sApp 1 (mVar 2))
def g__law_chain : M Out := sSeq (sOwn 1 (mLst aNil)) (sSeq (sFor (mIt (mVar 0)) (.nm 2) lb__law_chain_1) (sFrz 1 (sRet (mVar 1))))
def f__law_chain : Fn := fnM 1 3 g__law_chain
def g__law_rim : M Out := sSeq (sAsg (.nm 1) (mL (mSrtU (mLo (mVar 0))))) (sSeq (mIf (mB (m2 (dCmp fun i j => decide (i < j)) (mCall bLen (aCons (mVar 1) aNil)) (mC (.int 3)))) (sRet (mVar 1)) (sNx)) (sRet (m2 dAdd (mSl (mF f__law_chain (aCons (mVar 1) aNil)) oNo (oSome (m1 dNeg (mC (.int 1))))) (mSl (mF f__law_chain (aCons (mL (mRev (mLo (mVar 1)))) aNil)) oNo (oSome (m1 dNeg (mC (.int 1))))))))
def f__law_rim : Fn := fnM 1 2 g__law_rim
def lb__law_boat_0 : M Out := sApp 1 (mTup (aCons (m2 dSub (mF f__law_draw (aCons (mVar 0) (aCons (mC (.int 9)) aNil))) (mC (.int 4))) (aCons (m2 dSub (mF f__law_draw (aCons (mVar 0) (aCons (mC (.int 9)) aNil))) (mC (.int 4))) aNil)))
def le__law_boat_1 : M D := mTup (aCons (m2 dMul (mVar 4) (mCall bAbs (aCons (mVar 6) aNil))) (aCons (m2 dMul (mVar 5) (mCall bAbs (aCons (mVar 7) aNil))) aNil))
def g__law_boat : M Out := sSeq (sParOF 1 2 (mLst (aCons (mTup (aCons (mC (.int 0)) (aCons (mC (.int 0)) aNil))) aNil)) (mF f__law_draw (aCons (mVar 0) (aCons (mC (.int 5)) aNil)))) (sSeq (sFor (mA rg1 (aCons (m2 dAdd (mC (.int 1)) (mF f__law_draw (aCons (mVar 0) (aCons (mC (.int 3)) aNil)))) aNil)) (.nm 3) lb__law_boat_0) (sSeq (mIf (mB (m2 (dCmp fun i j => decide (i < j)) (mVar 2) (mC (.int 2)))) (sOwn 1 (mCat (mItO 1) (mLst (aCons (mTup (aCons (m2 dAdd (mC (.int 1)) (mVar 2)) (aCons (mC (.int 0)) aNil))) (aCons (mTup (aCons (m2 dSub (mC (.int 0)) (mVar 2)) (aCons (mC (.int 1)) aNil))) (aCons (mTup (aCons (m1 dNeg (mC (.int 1))) (aCons (m1 dNeg (mC (.int 1))) aNil))) aNil)))))) (mIf (mB (m2 (dEq) (mVar 2) (mC (.int 2)))) (sSeq (sAsg (.tp [.nm 4, .nm 5]) (mTup (aCons (mF f__law_one (aCons (mVar 0) (aCons (mTup (aCons (mC (.int 1)) (aCons (m1 dNeg (mC (.int 1))) aNil))) aNil))) (aCons (mF f__law_one (aCons (mVar 0) (aCons (mTup (aCons (mC (.int 1)) (aCons (m1 dNeg (mC (.int 1))) aNil))) aNil))) aNil)))) (sOwn 1 (mCat (mLc (mItO 1) [6, 7] (.tp [.nm 6, .nm 7]) (qC true) le__law_boat_1) (mLst (aCons (mTup (aCons (mVar 4) (aCons (mC (.int 0)) aNil))) (aCons (mTup (aCons (mVar 4) (aCons (m2 dMul (mC (.int 2)) (mVar 5)) aNil))) aNil)))))) (sNx))) (sFrz 1 (sSeq (sAsg (.nm 8) (mF f__law_rim (aCons (mVar 1) aNil))) (sSeq (mIf (mB (m2 (dCmp fun i j => decide (i < j)) (mCall bLen (aCons (mVar 8) aNil)) (mC (.int 3)))) (sAsg (.nm 8) (mF f__law_rim (aCons (m2 dAdd (mVar 1) (mL (mLst (aCons (mTup (aCons (mC (.int 1)) (aCons (mC (.int 2)) aNil))) (aCons (mTup (aCons (mC (.int 2)) (aCons (m1 dNeg (mC (.int 1))) aNil))) aNil))))) aNil))) (sNx)) (sRet (mL (mLst (aCons (mVar 8) (aCons (m2 dAdd (mC (.int 1)) (mF f__law_draw (aCons (mVar 0) (aCons (mC (.int 3)) aNil)))) aNil))))))))))
def f__law_boat : Fn := fnM 1 9 g__law_boat
def g__law_side : M Out := sSeq (sPar3 1 2 3 (aCons (m2 dSub (mF f__law_draw (aCons (mVar 0) (aCons (mC (.int 7)) aNil))) (mC (.int 3))) (aCons (m2 dSub (mF f__law_draw (aCons (mVar 0) (aCons (mC (.int 7)) aNil))) (mC (.int 3))) (aCons (m2 dSub (mF f__law_draw (aCons (mVar 0) (aCons (mC (.int 19)) aNil))) (mC (.int 9))) aNil)))) (sSeq (sAsg (.nm 1) (mIf (mOr (mB (m2 (dNe) (mVar 2) (mC (.int 0)))) (mB (m2 (dNe) (mVar 1) (mC (.int 0))))) (mVar 1) (mC (.int 2)))) (sSeq (sAsg (.nm 4) (mF f__law_gcd (aCons (mF f__law_gcd (aCons (mVar 1) (aCons (mVar 2) aNil))) (aCons (mVar 3) aNil)))) (sRet (mTup (aCons (m2 dDiv (mVar 1) (mVar 4)) (aCons (m2 dDiv (mVar 2) (mVar 4)) (aCons (m2 dDiv (mVar 3) (mVar 4)) aNil)))))))
def f__law_side : Fn := fnM 1 5 g__law_side
def g__law_wind : M Out := sSeq (sAsg (.nm 2) (mF f__law_gcd (aCons (mVar 0) (aCons (mVar 1) aNil)))) (sRet (mTup (aCons (m2 dDiv (mVar 0) (mVar 2)) (aCons (m2 dDiv (mVar 1) (mVar 2)) aNil))))
def f__law_wind : Fn := fnM 2 3 g__law_wind
def lb__law_is_held_0 : M Out := sAsg (.nm 10) (mCall bMax (aCons (mVar 10) (aCons (m2 dSub (m2 dSub (mC (.int 0)) (m2 dMul (mVar 4) (m2 dSub (m2 dMul (mVar 7) (mVar 11)) (m2 dMul (mVar 8) (mVar 12))))) (m2 dMul (mVar 5) (m2 dAdd (m2 dMul (mVar 8) (mVar 11)) (m2 dMul (mVar 7) (mVar 12))))) aNil)))
def g__law_is_held : M Out := sSeq (sAsg (.tp [.nm 4, .nm 5, .nm 6]) (mVar 2)) (sSeq (sAsg (.tp [.nm 7, .nm 8]) (mVar 3)) (sSeq (sPar 9 10 (aCons (m2 dAdd (m2 dMul (mVar 4) (m2 dIx (mVar 1) (mC (.int 0)))) (m2 dMul (mVar 5) (m2 dIx (mVar 1) (mC (.int 1))))) (aCons (mC (.int 0)) aNil))) (sSeq (sFor (mIt (m2 dIx (mVar 0) (mC (.int 0)))) (.tp [.nm 11, .nm 12]) lb__law_is_held_0) (sRet (mOrV (m2 (dCmp fun i j => decide (i ≤ j)) (mVar 9) (mC (.int 0))) (m2 (dCmp fun i j => decide (i ≤ j)) (m2 dMul (m2 dMul (m2 dMul (m2 dMul (mVar 9) (mVar 9)) (m2 dIx (mVar 0) (mC (.int 1)))) (m2 dIx (mVar 0) (mC (.int 1)))) (m2 dAdd (m2 dMul (mVar 7) (mVar 7)) (m2 dMul (mVar 8) (mVar 8)))) (m2 dMul (m2 dMul (m2 dMul (mVar 10) (mVar 10)) (m2 dIx (mVar 1) (mC (.int 2)))) (m2 dIx (mVar 1) (mC (.int 2))))))))))
def f__law_is_held : Fn := fnM 4 13 g__law_is_held
def g__law_against : M Out := sSeq (sAsg (.tp [.nm 3, .nm 4, .nm 5]) (mVar 0)) (sRet (mF f__law_wind (aCons (m2 dSub (m2 dSub (mC (.int 0)) (m2 dMul (mVar 3) (mVar 1))) (m2 dMul (mVar 4) (mVar 2))) (aCons (m2 dSub (m2 dMul (mVar 3) (mVar 2)) (m2 dMul (mVar 4) (mVar 1))) aNil))))
def f__law_against : Fn := fnM 3 6 g__law_against
def g_ratio_sum : M Out := sRet (mF f_ratio (aCons (m2 dAdd (m2 dMul (m2 dIx (mVar 0) (mC (.int 0))) (m2 dIx (mVar 1) (mC (.int 1)))) (m2 dMul (m2 dIx (mVar 1) (mC (.int 0))) (m2 dIx (mVar 0) (mC (.int 1))))) (aCons (m2 dMul (m2 dIx (mVar 0) (mC (.int 1))) (m2 dIx (mVar 1) (mC (.int 1)))) aNil)))
def f_ratio_sum : Fn := fnM 2 2 g_ratio_sum
def g_ratio_gap : M Out := sRet (mF f_ratio (aCons (m2 dSub (m2 dMul (m2 dIx (mVar 0) (mC (.int 0))) (m2 dIx (mVar 1) (mC (.int 1)))) (m2 dMul (m2 dIx (mVar 1) (mC (.int 0))) (m2 dIx (mVar 0) (mC (.int 1))))) (aCons (m2 dMul (m2 dIx (mVar 0) (mC (.int 1))) (m2 dIx (mVar 1) (mC (.int 1)))) aNil)))
def f_ratio_gap : Fn := fnM 2 2 g_ratio_gap
def g_parts_along : M Out := sSeq (sAsg (.tp [.tp [.nm 3, .nm 4, .nm 5], .tp [.nm 6, .nm 7, .nm 8], .tp [.nm 9, .nm 10, .nm 11]]) (mTup (aCons (mVar 0) (aCons (mVar 1) (aCons (mVar 2) aNil))))) (sSeq (sAsg (.nm 12) (m2 dSub (m2 dMul (mVar 3) (mVar 7)) (m2 dMul (mVar 4) (mVar 6)))) (sSeq (mIf (mB (m2 (dEq) (mVar 12) (mC (.int 0)))) (sRet (mC .none)) (sNx)) (sRet (mTup (aCons (mF f_ratio (aCons (m2 dMul (m2 dSub (m2 dMul (mVar 9) (mVar 7)) (m2 dMul (mVar 10) (mVar 6))) (mVar 5)) (aCons (m2 dMul (mVar 12) (mVar 11)) aNil))) (aCons (mF f_ratio (aCons (m2 dMul (m2 dSub (m2 dMul (mVar 3) (mVar 10)) (m2 dMul (mVar 4) (mVar 9))) (mVar 8)) (aCons (m2 dMul (mVar 12) (mVar 11)) aNil))) aNil))))))
def f_parts_along : Fn := fnM 3 13 g_parts_along
def lb_time_and_side_0 : M Out := sSeq (sAsg (.nm 11) (m2 dAdd (m2 dMul (mVar 8) (mVar 2)) (m2 dMul (mVar 9) (mVar 3)))) (mIf (mB (m2 (dCmp fun i j => decide (j < i)) (mVar 10) (mC (.int 0)))) (sSeq (sAsg (.nm 12) (mF f_ratio (aCons (mVar 11) (aCons (m2 dMul (mVar 10) (mVar 4)) aNil)))) (mIf (mB (mF f_is_less (aCons (mVar 5) (aCons (mVar 12) aNil)))) (sPar 5 6 (aCons (mVar 12) (aCons (mVar 7) aNil))) (sNx))) (mIf (mB (m2 (dCmp fun i j => decide (j < i)) (mVar 11) (mC (.int 0)))) (sRet (mTup (aCons (mC .none) (aCons (mC .none) aNil)))) (sNx)))
def g_time_and_side : M Out := sSeq (sAsg (.tp [.nm 2, .nm 3, .nm 4]) (mVar 1)) (sSeq (sPar 5 6 (aCons (mC (.tuple [(.int 0), (.int 1)])) (aCons (mC .none) aNil))) (sSeq (sFor (mEn (mVar 0)) (.tp [.nm 7, .tp [.nm 8, .nm 9, .nm 10]]) lb_time_and_side_0) (sRet (mTup (aCons (mVar 5) (aCons (mVar 6) aNil))))))
def f_time_and_side : Fn := fnM 2 13 g_time_and_side
def le_soonest_tacks_0 : M D := mTup (aCons (mVar 6) (aCons (mVar 7) aNil))
def g_soonest_tacks : M Out := sSeq (sAsg (.tp [.nm 2, .nm 3]) (mF f_time_and_side (aCons (mF f_shape_sides (aCons (mVar 0) aNil)) (aCons (mVar 1) aNil)))) (sSeq (mIf (mB (m2 (dIsN) (mVar 2) (mC .none))) (sRet (mC .none)) (sNx)) (sSeq (mIf (mB (m2 (dIsN) (mVar 3) (mC .none))) (sRet (mTup aNil)) (sNx)) (sSeq (sAsg (.nm 4) (mTup (aCons (m2 dIx (mVar 0) (mVar 3)) (aCons (m2 dIx (mVar 0) (m2 dMod (m2 dAdd (mVar 3) (mC (.int 1))) (mCall bLen (aCons (mVar 0) aNil)))) aNil)))) (sSeq (sAsg (.nm 5) (mF f_parts_along (aCons (m2 dIx (mVar 4) (mC (.int 0))) (aCons (m2 dIx (mVar 4) (mC (.int 1))) (aCons (mVar 1) aNil))))) (sRet (mCall bTuple (aCons (mL (mLc (mA zpOf (aCons (mVar 4) (aCons (mVar 5) aNil))) [6, 7] (.tp [.nm 6, .nm 7]) (mB (m2 (dNe) (mVar 7) (mC (.tuple [(.int 0), (.int 1)])))) le_soonest_tacks_0)) aNil)))))))
def f_soonest_tacks : Fn := fnM 2 8 g_soonest_tacks
def g_is_channel : M Out := sSeq (mIf (mOr (mNot (mB (mF f_are_whole (aCons (mVar 0) (aCons (mC (.int 4)) aNil))))) (mOr (mB (m2 (dEq) (mSl (mVar 0) oNo (oSome (mC (.int 2)))) (mTup (aCons (mC (.int 0)) (aCons (mC (.int 0)) aNil))))) (mB (m2 (dCmp fun i j => decide (j ≤ i)) (m2 dIx (mVar 0) (mC (.int 2))) (m2 dIx (mVar 0) (mC (.int 3))))))) (sRet (mC (.bool false))) (sNx)) (sRet (m2 (dEq) (mCall bGcd4 (aCons (m2 dIx (mVar 0) (mC (.int 0))) (aCons (m2 dIx (mVar 0) (mC (.int 1))) (aCons (m2 dIx (mVar 0) (mC (.int 2))) (aCons (m2 dIx (mVar 0) (mC (.int 3))) aNil))))) (mC (.int 1))))
def f_is_channel : Fn := fnM 1 1 g_is_channel
def g_need_channel : M Out := mIf (mNot (mB (mF f_is_channel (aCons (mVar 0) aNil)))) (sNo) (sNx)
def f_need_channel : Fn := fnM 1 1 g_need_channel
def g_cross_by : M Out := sRet (mF f_along (aCons (m2 dIx (mVar 0) (mC (.int 0))) (aCons (m2 dIx (mVar 0) (mC (.int 1))) (aCons (mVar 1) aNil))))
def f_cross_by : Fn := fnM 2 2 g_cross_by
def g_cross_of : M Out := sSeq (sEx (mF f_need_channel (aCons (mVar 0) aNil))) (sSeq (sEx (mF f_need_point (aCons (mVar 1) aNil))) (sRet (mF f_cross_by (aCons (mVar 0) (aCons (mVar 1) aNil)))))
def f_cross_of : Fn := fnM 2 2 g_cross_of
def lb_rise_and_fall_by_0 : M Out := sSeq (sAsg (.nm 6) (mF f_ratio_product (aCons (mF f_cross_by (aCons (mVar 0) (aCons (mVar 4) aNil))) (aCons (mVar 5) aNil)))) (mIf (mB (mF f_is_less (aCons (mVar 6) (aCons (mC (.tuple [(.int 0), (.int 1)])) aNil)))) (sAsg (.nm 3) (mF f_ratio_gap (aCons (mVar 3) (aCons (mVar 6) aNil)))) (sAsg (.nm 2) (mF f_ratio_sum (aCons (mVar 2) (aCons (mVar 6) aNil)))))
def g_rise_and_fall_by : M Out := sSeq (sPar 2 3 (aCons (mC (.tuple [(.int 0), (.int 1)])) (aCons (mC (.tuple [(.int 0), (.int 1)])) aNil))) (sSeq (sFor (mIt (mVar 1)) (.tp [.nm 4, .nm 5]) lb_rise_and_fall_by_0) (sRet (mTup (aCons (mVar 2) (aCons (mVar 3) aNil)))))
def f_rise_and_fall_by : Fn := fnM 2 7 g_rise_and_fall_by
def g_rise_and_fall : M Out := sSeq (sEx (mF f_need_figure (aCons (mVar 0) aNil))) (sSeq (sEx (mF f_need_channel (aCons (mVar 1) aNil))) (sSeq (sEx (mF f_need_point (aCons (mVar 2) aNil))) (sSeq (sAsg (.nm 3) (mF f_soonest_tacks (aCons (mVar 0) (aCons (mVar 2) aNil)))) (sSeq (mIf (mB (m2 (dIsN) (mVar 3) (mC .none))) (sRet (mC .none)) (sNx)) (sRet (mF f_rise_and_fall_by (aCons (mVar 1) (aCons (mVar 3) aNil))))))))
def f_rise_and_fall : Fn := fnM 3 4 g_rise_and_fall
def g__law_ratio : M Out := sSeq (sAsg (.nm 2) (mF f__law_gcd (aCons (mVar 0) (aCons (mVar 1) aNil)))) (sRet (mIf (mB (m2 (dCmp fun i j => decide (j < i)) (mVar 1) (mC (.int 0)))) (mTup (aCons (m2 dDiv (mVar 0) (mVar 2)) (aCons (m2 dDiv (mVar 1) (mVar 2)) aNil))) (mTup (aCons (m2 dSub (mC (.int 0)) (m2 dDiv (mVar 0) (mVar 2))) (aCons (m2 dSub (mC (.int 0)) (m2 dDiv (mVar 1) (mVar 2))) aNil)))))
def f__law_ratio : Fn := fnM 2 3 g__law_ratio
def g__law_add : M Out := sSeq (mIf (mOr (mB (m2 (dIsN) (mVar 0) (mC .none))) (mB (m2 (dIsN) (mVar 1) (mC .none)))) (sRet (mC .none)) (sNx)) (sRet (mF f__law_ratio (aCons (m2 dAdd (m2 dMul (m2 dIx (mVar 0) (mC (.int 0))) (m2 dIx (mVar 1) (mC (.int 1)))) (m2 dMul (m2 dIx (mVar 1) (mC (.int 0))) (m2 dIx (mVar 0) (mC (.int 1))))) (aCons (m2 dMul (m2 dIx (mVar 0) (mC (.int 1))) (m2 dIx (mVar 1) (mC (.int 1)))) aNil))))
def f__law_add : Fn := fnM 2 2 g__law_add
def g__law_dot : M Out := sRet (mTup (aCons (m2 dSub (mF f__law_draw (aCons (mVar 0) (aCons (mC (.int 15)) aNil))) (mC (.int 7))) (aCons (m2 dSub (mF f__law_draw (aCons (mVar 0) (aCons (mC (.int 15)) aNil))) (mC (.int 7))) aNil)))
def f__law_dot : Fn := fnM 1 1 g__law_dot
def lb__law_parts_0 : M Out := sSeq (sAsg (.tp [.nm 10, .nm 11]) (m2 dIx (mVar 6) (mVar 9))) (sSeq (sAsg (.tp [.nm 12, .nm 13]) (m2 dIx (mVar 6) (mVar 8))) (sSeq (sAsg (.nm 14) (m2 dSub (m2 dMul (mVar 10) (mVar 13)) (m2 dMul (mVar 11) (mVar 12)))) (sSeq (sAsg (.nm 15) (mIf (mB (m2 (dCmp fun i j => decide (j < i)) (mVar 14) (mC (.int 0)))) (mC (.int 1)) (m1 dNeg (mC (.int 1))))) (sSeq (sPar3 16 17 14 (aCons (m2 dMul (mVar 15) (m2 dSub (m2 dMul (mVar 3) (mVar 13)) (m2 dMul (mVar 4) (mVar 12)))) (aCons (m2 dMul (mVar 15) (m2 dSub (m2 dMul (mVar 10) (mVar 4)) (m2 dMul (mVar 11) (mVar 3)))) (aCons (m2 dMul (mVar 15) (mVar 14)) aNil)))) (mIf (mAnd (mB (m2 (dCmp fun i j => decide (j < i)) (mVar 14) (mC (.int 0)))) (mAnd (mB (m2 (dCmp fun i j => decide (j ≤ i)) (mVar 16) (mC (.int 0)))) (mAnd (mB (m2 (dCmp fun i j => decide (j ≤ i)) (mVar 17) (mC (.int 0)))) (mOr (mB (m2 (dIsN) (mVar 7) (mC .none))) (mB (m2 (dCmp fun i j => decide (i < j)) (m2 dMul (m2 dAdd (mVar 16) (mVar 17)) (m2 dIx (mVar 7) (mC (.int 2)))) (m2 dMul (m2 dAdd (m2 dIx (mVar 7) (mC (.int 0))) (m2 dIx (mVar 7) (mC (.int 1)))) (mVar 14)))))))) (sAsg (.nm 7) (mL (mLst (aCons (mVar 16) (aCons (mVar 17) (aCons (mVar 14) (aCons (m2 dIx (mVar 6) (mVar 9)) (aCons (m2 dIx (mVar 6) (mVar 8)) aNil)))))))) (sNx))))))
def lb__law_parts_1 : M Out := sFor (mA rg1 (aCons (mVar 8) aNil)) (.nm 9) lb__law_parts_0
def le__law_parts_2 : M D := mTup (aCons (mVar 19) (aCons (mF f__law_ratio (aCons (mVar 20) (aCons (m2 dMul (m2 dIx (mVar 7) (mC (.int 2))) (mVar 5)) aNil))) aNil))
def g__law_parts : M Out := sSeq (sAsg (.tp [.nm 3, .nm 4, .nm 5]) (mTup (aCons (m2 dSub (m2 dMul (m2 dIx (mVar 2) (mC (.int 0))) (m2 dIx (mVar 1) (mC (.int 2)))) (m2 dMul (m2 dIx (mVar 1) (mC (.int 0))) (m2 dIx (mVar 2) (mC (.int 2))))) (aCons (m2 dSub (m2 dMul (m2 dIx (mVar 2) (mC (.int 1))) (m2 dIx (mVar 1) (mC (.int 2)))) (m2 dMul (m2 dIx (mVar 1) (mC (.int 1))) (m2 dIx (mVar 2) (mC (.int 2))))) (aCons (m2 dMul (m2 dIx (mVar 1) (mC (.int 2))) (m2 dIx (mVar 2) (mC (.int 2)))) aNil))))) (sSeq (sAsg (.tp [.nm 6, .nm 7]) (mTup (aCons (m2 dIx (mVar 0) (mC (.int 0))) (aCons (mC .none) aNil)))) (sSeq (mIf (mAnd (mB (m2 (dEq) (mVar 3) (mC (.int 0)))) (mB (m2 (dEq) (mVar 4) (mC (.int 0))))) (sRet (mL (mLst aNil))) (sNx)) (sSeq (sFor (mA rg1 (aCons (mCall bLen (aCons (mVar 6) aNil)) aNil)) (.nm 8) lb__law_parts_1) (sSeq (mIf (mB (m2 (dIsN) (mVar 7) (mC .none))) (sRet (mC .none)) (sNx)) (sSeq (sAsg (.nm 18) (mL (mLst (aCons (mTup (aCons (m2 dIx (mVar 7) (mC (.int 3))) (aCons (m2 dIx (mVar 7) (mC (.int 0))) aNil))) (aCons (mTup (aCons (m2 dIx (mVar 7) (mC (.int 4))) (aCons (m2 dIx (mVar 7) (mC (.int 1))) aNil))) aNil))))) (sRet (mL (mLc (mIt (mVar 18)) [19, 20] (.tp [.nm 19, .nm 20]) (mB (m2 (dCmp fun i j => decide (j < i)) (mVar 20) (mC (.int 0)))) le__law_parts_2))))))))
def f__law_parts : Fn := fnM 3 21 g__law_parts
def g__law_normal : M Out := sSeq (sPar 1 2 (aCons (m2 dSub (mF f__law_draw (aCons (mVar 0) (aCons (mC (.int 7)) aNil))) (mC (.int 3))) (aCons (m2 dSub (mF f__law_draw (aCons (mVar 0) (aCons (mC (.int 7)) aNil))) (mC (.int 3))) aNil))) (sRet (mIf (mOr (mB (m2 (dNe) (mVar 1) (mC (.int 0)))) (mB (m2 (dNe) (mVar 2) (mC (.int 0))))) (mTup (aCons (mVar 1) (aCons (mVar 2) aNil))) (mTup (aCons (mC (.int 0)) (aCons (mC (.int 1)) aNil)))))
def f__law_normal : Fn := fnM 1 3 g__law_normal
def g__law_channel : M Out := sSeq (sAsg (.tp [.nm 3, .nm 4]) (mVar 0)) (sSeq (sAsg (.nm 5) (mF f__law_gcd (aCons (mF f__law_gcd (aCons (mVar 3) (aCons (mVar 4) aNil))) (aCons (mF f__law_gcd (aCons (mVar 1) (aCons (mVar 2) aNil))) aNil)))) (sRet (mTup (aCons (m2 dDiv (mVar 3) (mVar 5)) (aCons (m2 dDiv (mVar 4) (mVar 5)) (aCons (m2 dDiv (mVar 1) (mVar 5)) (aCons (m2 dDiv (mVar 2) (mVar 5)) aNil)))))))
def f__law_channel : Fn := fnM 3 6 g__law_channel
def lb__law_growth_0 : M Out := sSeq (sAsg (.nm 6) (m2 dAdd (m2 dMul (m2 dIx (mVar 0) (mC (.int 0))) (m2 dIx (mVar 4) (mC (.int 0)))) (m2 dMul (m2 dIx (mVar 0) (mC (.int 1))) (m2 dIx (mVar 4) (mC (.int 1)))))) (mIf (mB (m2 (dCmp fun i j => decide (j < i)) (mVar 6) (mC (.int 0)))) (sAsg (.nm 2) (mF f__law_add (aCons (mVar 2) (aCons (mF f__law_ratio (aCons (m2 dMul (mVar 6) (m2 dIx (mVar 5) (mC (.int 0)))) (aCons (m2 dIx (mVar 5) (mC (.int 1))) aNil))) aNil)))) (sAsg (.nm 3) (mF f__law_add (aCons (mVar 3) (aCons (mF f__law_ratio (aCons (m2 dSub (mC (.int 0)) (m2 dMul (mVar 6) (m2 dIx (mVar 5) (mC (.int 0))))) (aCons (m2 dIx (mVar 5) (mC (.int 1))) aNil))) aNil)))))
def g__law_growth : M Out := sSeq (sAsg (.tp [.nm 2, .nm 3]) (mTup (aCons (mTup (aCons (mC (.int 0)) (aCons (mC (.int 1)) aNil))) (aCons (mTup (aCons (mC (.int 0)) (aCons (mC (.int 1)) aNil))) aNil)))) (sSeq (sFor (mIt (mVar 1)) (.tp [.nm 4, .nm 5]) lb__law_growth_0) (sRet (mTup (aCons (mVar 2) (aCons (mVar 3) aNil)))))
def f__law_growth : Fn := fnM 2 7 g__law_growth
def g__law_way : M Out := sSeq (sPar 3 4 (aCons (mF f__law_draw (aCons (mVar 0) (aCons (mC (.int 6)) aNil))) (aCons (m2 dSub (mF f__law_draw (aCons (mVar 0) (aCons (mC (.int 13)) aNil))) (mC (.int 6))) aNil))) (sSeq (mIf (mB (m2 (dEq) (mVar 3) (mC (.int 0)))) (sRet (mTup (aCons (mC (.int 0)) (aCons (mC (.int 0)) aNil)))) (sNx)) (sSeq (mIf (mB (m2 (dEq) (mVar 3) (mC (.int 1)))) (sSeq (sAsg (.tp [.nm 5, .nm 6]) (mF f__law_one (aCons (mVar 0) (aCons (m2 dIx (mVar 1) (mC (.int 0))) aNil)))) (sRet (mTup (aCons (m2 dMul (mCall bAbs (aCons (mVar 4) aNil)) (mVar 5)) (aCons (m2 dMul (mCall bAbs (aCons (mVar 4) aNil)) (mVar 6)) aNil))))) (sNx)) (sSeq (mIf (mB (m2 (dEq) (mVar 3) (mC (.int 2)))) (sRet (mTup (aCons (m2 dSub (mC (.int 0)) (m2 dMul (mVar 4) (m2 dIx (mVar 2) (mC (.int 1))))) (aCons (m2 dMul (mVar 4) (m2 dIx (mVar 2) (mC (.int 0)))) aNil)))) (sNx)) (sRet (mF f__law_dot (aCons (mVar 0) aNil))))))
def f__law_way : Fn := fnM 3 7 g__law_way
end WF
/-! numbers of few enough figures; what the program's small defs tell -/
namespace WF
open PySem PySem.Spec PyProof.Rows L2 PL
class Bi (x : Int) (n : outParam Nat) : Prop where
  h : x.natAbs < 2 ^ n
theorem two_le {a b : Nat} (h : a ≤ b) : (2 : Nat) ^ a ≤ 2 ^ b := Nat.pow_le_pow_right (by decide) h
instance biMul {x y : Int} {a b : Nat} [p : Bi x a] [q : Bi y b] : Bi (x * y) (a + b) := ⟨by
  rw [Int.natAbs_mul, Nat.pow_add]
  exact Nat.mul_lt_mul'' p.h q.h⟩
theorem sum_lt {m n a b : Nat} (h : m < 2 ^ a) (k : n < 2 ^ b) : m + n < 2 ^ (a + b + 1) := by
  have h1 := two_le (show a ≤ a + b by omega)
  have h2 := two_le (show b ≤ a + b by omega)
  rw [Nat.pow_succ]
  omega
instance biAdd {x y : Int} {a b : Nat} [p : Bi x a] [q : Bi y b] : Bi (x + y) (a + b + 1) := ⟨by
  have := sum_lt p.h q.h
  omega⟩
instance biSub {x y : Int} {a b : Nat} [p : Bi x a] [q : Bi y b] : Bi (x - y) (a + b + 1) := ⟨by
  have := sum_lt p.h q.h
  omega⟩
instance biNeg {x : Int} {a : Nat} [p : Bi x a] : Bi (-x) a := ⟨by rw [Int.natAbs_neg]; exact p.h⟩
instance bi0 : Bi 0 1 := ⟨by decide⟩
instance bi1 : Bi 1 1 := ⟨by decide⟩
instance bi2 : Bi 2 2 := ⟨by decide⟩
instance bi3 : Bi 3 2 := ⟨by decide⟩
theorem Bi.div_le {x g : Int} {a : Nat} (p : x.natAbs < 2 ^ a) : (x / g).natAbs < 2 ^ a := Nat.lt_of_le_of_lt (Int.natAbs_ediv_le_natAbs x g) p
def nmN (a b : Int) : Int := a / gcdI a b
def nmD (a b : Int) : Int := b / gcdI a b
instance biN {a b : Int} {n : Nat} [p : Bi a n] : Bi (nmN a b) n := ⟨Bi.div_le p.h⟩
instance biD {a b : Int} {n : Nat} [p : Bi b n] : Bi (nmD a b) n := ⟨Bi.div_le p.h⟩
theorem Bi.log {x : Int} {n m : Nat} (p : Bi x n) (h : n < m) : x.natAbs.log2 < m := Nat.lt_of_lt_of_le (PySem.Flt.log2_lt_of (Nat.succ_pos n) (Nat.lt_of_lt_of_le p.h (two_le (Nat.le_succ n)))) h
theorem Bi.mono {x : Int} {n m : Nat} (p : Bi x n) (h : n ≤ m) : Bi x m := ⟨Nat.lt_of_lt_of_le p.h (two_le h)⟩
theorem mulB {x y : Int} {a b : Nat} [p : Bi x a] [q : Bi y b] (h : a + b < 900000) : dMul (.int x) (.int y) = some (.int (x * y)) := by
  simp only [dMul]
  have h1 := p.log (Nat.lt_succ_self a)
  have h2 := q.log (Nat.lt_succ_self b)
  rw [if_pos (by omega)]
theorem divB {x y : Int} {b : Nat} [q : Bi y b] (h0 : 0 < y) (h : b < 8999) : dDiv (.int x) (.int y) = some (.int (x / y)) := by
  simp only [dDiv]
  have h2 := q.log (Nat.lt_succ_self b)
  rw [if_pos ⟨h0, by omega⟩]
theorem modB {x y : Int} (h0 : 0 < y) : dMod (.int x) (.int y) = some (.int (x % y)) := by
  simp only [dMod]
  rw [if_pos h0]
theorem eqI {i j : Int} : dEq (.int i) (.int j) = some (.bool (i == j)) := by
  unfold dEq
  rw [if_pos ⟨rfl, rfl⟩]
  rfl
theorem neI {i j : Int} : dNe (.int i) (.int j) = some (.bool (!(i == j))) := by
  unfold dNe
  rw [if_pos ⟨rfl, rfl⟩]
  rfl
theorem neS {x y : Str} : dNe (.str x) (.str y) = some (.bool (!(x == y))) := by
  unfold dNe
  rw [if_pos ⟨rfl, rfl⟩]
  rfl
theorem gcd_pos {a b : Int} (h : 0 < b) : 0 < gcdI a b := by
  unfold gcdI
  have : 0 < a.natAbs.gcd b.natAbs := Nat.gcd_pos_of_pos_right _ (by omega)
  omega
theorem gcd_le {a b : Int} (h : 0 < b) : gcdI a b ≤ b := by
  unfold gcdI
  have : a.natAbs.gcd b.natAbs ≤ b.natAbs := Nat.le_of_dvd (by omega) (Nat.gcd_dvd_right _ _)
  omega
theorem gcd_d1 {a b : Int} : gcdI a b ∣ a := Int.ofNat_dvd_left.mpr (Nat.gcd_dvd_left _ _)
theorem gcd_d2 {a b : Int} : gcdI a b ∣ b := Int.ofNat_dvd_left.mpr (Nat.gcd_dvd_right _ _)
theorem gcd_bi {a b : Int} {n : Nat} (h : 0 < b) (p : Bi b n) : Bi (gcdI a b) n := ⟨by
  have h1 := gcd_pos (a := a) h
  have h2 := gcd_le (a := a) h
  have := p.h
  omega⟩
theorem gcd3_pos {a b c : Int} (h : 0 < c) : 0 < gcdI3 a b c := by
  unfold gcdI3
  have : 0 < (a.natAbs.gcd b.natAbs).gcd c.natAbs := Nat.gcd_pos_of_pos_right _ (by omega)
  omega
theorem gcd3_bi {a b c : Int} {n : Nat} (h : 0 < c) (p : Bi c n) : Bi (gcdI3 a b c) n := ⟨by
  have h1 := gcd3_pos (a := a) (b := b) h
  have : (a.natAbs.gcd b.natAbs).gcd c.natAbs ≤ c.natAbs := Nat.le_of_dvd (by omega) (Nat.gcd_dvd_right _ _)
  unfold gcdI3 at *
  have := p.h
  omega⟩
theorem gcd3_d1 {a b c : Int} : gcdI3 a b c ∣ a := Int.ofNat_dvd_left.mpr (Nat.dvd_trans (Nat.gcd_dvd_left _ _) (Nat.gcd_dvd_left _ _))
theorem gcd3_d2 {a b c : Int} : gcdI3 a b c ∣ b := Int.ofNat_dvd_left.mpr (Nat.dvd_trans (Nat.gcd_dvd_left _ _) (Nat.gcd_dvd_right _ _))
theorem gcd3_d3 {a b c : Int} : gcdI3 a b c ∣ c := Int.ofNat_dvd_left.mpr (Nat.gcd_dvd_right _ _)
abbrev fD (a b : Int) : D := .tuple [.int a, .int b]
abbrev pD (x y w : Int) : D := .tuple [.int x, .int y, .int w]
/-- the point x / w, y / w in least terms -/
def nm3 (x y w : Int) : D := pD (x / gcdI3 x y w) (y / gcdI3 x y w) (w / gcdI3 x y w)
theorem e_ratio {a b : Int} {s : S} {m : Nat} (hb : 0 < b) [p : Bi b m] (hm : m < 8999) : f_ratio [.int a, .int b] s = some (fD (nmN a b) (nmD a b), s) := by
  have h1 : ¬ b < 0 := by omega
  have h2 := gcd_pos (a := a) hb
  have i1 := gcd_bi (a := a) hb p
  have h3 : dDiv (.int a) (.int (gcdI a b)) = _ := divB h2 hm
  have h4 : dDiv (.int b) (.int (gcdI a b)) = _ := divB h2 hm
  unfold nmN nmD
  simp [f_ratio, fnM, g_ratio, startE, sSeq, sAsg, mCall, aCons, aNil, mThen, mLift, mVar, bGcd, bnd, mIf, mB, m2, mC, dCmp, bOf, sNx, sRet, mTup, isDs, isD, h3, h4, h1, sizeLine_eq]
theorem e_point_of {x y w : Int} {s : S} {m : Nat} (hw : 0 < w) [p : Bi w m] (hm : m < 8999) : f_point_of [.int x, .int y, .int w] s = some (nm3 x y w, s) := by
  have h1 : ¬ w < 0 := by omega
  have h2 := gcd3_pos (a := x) (b := y) hw
  have i1 := gcd3_bi (a := x) (b := y) hw p
  have h3 : ∀ z, dDiv (.int z) (.int (gcdI3 x y w)) = some (.int (z / gcdI3 x y w)) := fun z => divB h2 hm
  unfold nm3
  simp [f_point_of, fnM, g_point_of, startE, sSeq, sAsg, mCall, aCons, aNil, mThen, mLift, mVar, bGcd, bnd, mIf, mB, m2, mC, dCmp, bOf, sNx, sRet, mTup, isDs, isD, h3, h1, sizeLine_eq]
theorem e_is_less {a b c d : Int} {s : S} {i j k l : Nat} [Bi a i] [Bi b j] [Bi c k] [Bi d l] (h1 : i + l < 900000) (h2 : k + j < 900000) : f_is_less [fD a b, fD c d] s = some (.bool (decide (a * d < c * b)), s) := by
  have k1 : dMul (.int a) (.int d) = _ := mulB h1
  have k2 : dMul (.int c) (.int b) = _ := mulB h2
  simp [f_is_less, fnM, g_is_less, startE, mThen, mLift, mVar, m2, mC, sRet, dIx, atI, ixN, dCmp, k1, k2]
theorem e_ratio_product {a b c d : Int} {s : S} {i j k l : Nat} [Bi a i] [Bi b j] [Bi c k] [Bi d l] (h1 : i + k < 900000) (h2 : j + l < 8999) (hb : 0 < b) (hd : 0 < d) : f_ratio_product [fD a b, fD c d] s = some (fD (nmN (a * c) (b * d)) (nmD (a * c) (b * d)), s) := by
  have k1 : dMul (.int a) (.int c) = _ := mulB h1
  have k2 : dMul (.int b) (.int d) = _ := mulB (by omega)
  have k3 := e_ratio (a := a * c) (b := b * d) (s := s) (Int.mul_pos hb hd) h2
  simp [f_ratio_product, fnM, g_ratio_product, startE, mThen, mLift, mVar, m2, mC, sRet, dIx, atI, ixN, k1, k2, mF, aCons, aNil, k3]
theorem e_along {a b x y w : Int} {s : S} {i j k l m : Nat} [Bi a i] [Bi b j] [Bi x k] [Bi y l] [Bi w m] (h1 : i + k < 900000) (h2 : j + l < 900000) (hw : 0 < w) (hm : m < 8999) : f_along [.int a, .int b, pD x y w] s = some (fD (nmN (a * x + b * y) w) (nmD (a * x + b * y) w), s) := by
  have k1 : dMul (.int a) (.int x) = _ := mulB h1
  have k2 : dMul (.int b) (.int y) = _ := mulB h2
  have k3 := e_ratio (a := a * x + b * y) (b := w) (s := s) hw hm
  simp [f_along, fnM, g_along, startE, mThen, mLift, mVar, m2, mC, sRet, dIx, atI, ixN, k1, k2, dAdd, mF, aCons, aNil, k3]
theorem e_is_whole {a : Int} {s : S} : f_is_whole [.int a] s = some (.bool true, s) := by
  simp [f_is_whole, fnM, g_is_whole, startE, mThen, mLift, mVar, m1, mAndV, mIf, mB, bOf, sRet, dIs, isD, isT, dNot]
theorem le_is_whole {ρ : PL.Env} {a : Int} {s : S} (h : ρ[2]? = some (some (.fz (.int a)))) : le_are_whole_0 ρ s = some (.bool true, s) := by
  simp [le_are_whole_0, mF, aCons, aNil, mThen, mLift, mVar, h, e_is_whole]
theorem e_are_whole3 {a b c : Int} {s : S} : f_are_whole [pD a b c, .int 3] s = some (.bool true, s) := by
  simp [f_are_whole, fnM, g_are_whole, startE, mThen, mLift, mVar, m1, m2, mC, mAndV, mIf, mB, bOf, sRet, dIs, isD, isT, dNot, mCall, bLen, aCons, aNil, eqI, mL, mLc, mIt, itOf, sizeLine_eq, lcGo, bnd, wipeE, qC, le_is_whole, bAll, boolsOf]
theorem e_are_whole2 {a b : Int} {s : S} : f_are_whole [fD a b, .int 2] s = some (.bool true, s) := by
  simp [f_are_whole, fnM, g_are_whole, startE, mThen, mLift, mVar, m1, m2, mC, mAndV, mIf, mB, bOf, sRet, dIs, isD, isT, dNot, mCall, bLen, aCons, aNil, eqI, mL, mLc, mIt, itOf, sizeLine_eq, lcGo, bnd, wipeE, qC, le_is_whole, bAll, boolsOf]
theorem e_is_point {x y w : Int} {s : S} (hw : 0 < w) (hg : gcdI3 x y w = 1) : f_is_point [pD x y w] s = some (.bool true, s) := by
  simp [f_is_point, fnM, g_is_point, startE, mThen, mLift, mVar, m2, mC, mAndV, mIf, mB, bOf, sRet, mF, aCons, aNil, e_are_whole3, dIx, atI, ixN, dCmp, hw, mCall, bGcd, hg, eqI]
theorem e_is_direction {x y : Int} {s : S} (hg : gcdI x y = 1) : f_is_direction [fD x y] s = some (.bool true, s) := by
  simp [f_is_direction, fnM, g_is_direction, startE, mThen, mLift, mVar, m2, mC, mAndV, mIf, mB, bOf, sRet, mF, aCons, aNil, e_are_whole2, dIx, atI, ixN, mCall, bGcd, hg, eqI]
theorem ne00 {a b : Int} (h : a ≠ 0 ∨ b ≠ 0) : dNe (.tuple [.int a, .int b]) (.tuple [.int 0, .int 0]) = some (.bool true) := by
  unfold dNe
  rw [if_pos ⟨rfl, rfl⟩]
  simp [PyData.eqv, PyData.eqvAll]
  omega
theorem e_is_side {a b h : Int} {s : S} (hn : a ≠ 0 ∨ b ≠ 0) (hg : gcdI3 a b h = 1) : f_is_side [pD a b h] s = some (.bool true, s) := by
  have e : PL.cutD [PyData.int a, PyData.int b, PyData.int h] none (some 2) = [PyData.int a, PyData.int b] := rfl
  simp [f_is_side, fnM, g_is_side, startE, mThen, mLift, mVar, m2, mC, mAndV, mIf, mB, bOf, sRet, mF, aCons, aNil, e_are_whole3, mSl, oNo, oSome, dSl, e, mTup, isDs, isD, sizeLine_eq, ne00 hn, dIx, atI, ixN, mCall, bGcd, hg, eqI]
theorem e_need_point {x y w : Int} {s : S} (hw : 0 < w) (hg : gcdI3 x y w = 1) : f_need_point [pD x y w] s = some (.none, s) := by
  simp [f_need_point, fnM, g_need_point, startE, mThen, mLift, mVar, mIf, mB, bOf, mNot, sNx, mF, aCons, aNil, e_is_point hw hg]
theorem e_need_side {a b h : Int} {s : S} (hn : a ≠ 0 ∨ b ≠ 0) (hg : gcdI3 a b h = 1) : f_need_side [pD a b h] s = some (.none, s) := by
  simp [f_need_side, fnM, g_need_side, startE, mThen, mLift, mVar, mIf, mB, bOf, mNot, sNx, mF, aCons, aNil, e_is_side hn hg]
theorem e_need_wind {x y : Int} {s : S} (hg : gcdI x y = 1) : f_need_wind [fD x y] s = some (.none, s) := by
  simp [f_need_wind, fnM, g_need_wind, startE, mThen, mLift, mVar, mIf, mB, bOf, mNot, sNx, mF, aCons, aNil, e_is_direction hg]
theorem e_course_to {x y w u v t : Int} {s : S} {i j k l m n : Nat} [Bi x i] [Bi y j] [Bi w k] [Bi u l] [Bi v m] [Bi t n] (h : i + j + k + l + m + n < 900000) : f_course_to [pD x y w, pD u v t] s = some (fD (u * w - x * t) (v * w - y * t), s) := by
  have k1 : dMul (.int u) (.int w) = _ := mulB (by omega)
  have k2 : dMul (.int x) (.int t) = _ := mulB (by omega)
  have k3 : dMul (.int v) (.int w) = _ := mulB (by omega)
  have k4 : dMul (.int y) (.int t) = _ := mulB (by omega)
  simp [f_course_to, fnM, g_course_to, startE, sSeq, sAsg, bnd, bnds, mThen, mLift, mVar, mTup, aCons, aNil, isDs, isD, sizeLine_eq, m2, k1, k2, k3, k4, dSub, sRet]
theorem e_side_of {a b p q : Int} {s : S} {i j k : Nat} [Bi a i] [Bi b j] [Bi q k] (h : i + j + k < 900000) (h2 : 0 < gcdI3 (a * q) (b * q) p) {m : Nat} [Bi (gcdI3 (a * q) (b * q) p) m] (hm : m < 8999) :
    f_side_of [.int a, .int b, fD p q] s = some (nm3 (a * q) (b * q) p, s) := by
  have k1 : dMul (.int a) (.int q) = _ := mulB (by omega)
  have k2 : dMul (.int b) (.int q) = _ := mulB (by omega)
  have h3 : ∀ z, dDiv (.int z) (.int (gcdI3 (a * q) (b * q) p)) = some (.int (z / gcdI3 (a * q) (b * q) p)) := fun z => divB h2 hm
  unfold nm3
  simp [f_side_of, fnM, g_side_of, startE, sSeq, sAsg, bnd, bnds, mThen, mLift, mVar, mTup, aCons, aNil, isDs, isD, sizeLine_eq, m2, k1, k2, mCall, bGcd, h3, sRet]
theorem e_overshoot {a b h x y w : Int} {s : S} {i j k l m n : Nat} [Bi a i] [Bi b j] [Bi h k] [Bi x l] [Bi y m] [Bi w n] (hh : i + j + k + l + m + n < 900000) : f_overshoot [pD a b h, pD x y w] s = some (.int (a * x + b * y - h * w), s) := by
  have k1 : dMul (.int a) (.int x) = _ := mulB (by omega)
  have k2 : dMul (.int b) (.int y) = _ := mulB (by omega)
  have k3 : dMul (.int h) (.int w) = _ := mulB (by omega)
  simp [f_overshoot, fnM, g_overshoot, startE, mThen, mLift, mVar, m2, mC, sRet, dIx, atI, ixN, k1, k2, k3, dAdd, dSub]
theorem e_length_square {x y : Int} {s : S} {i j : Nat} [Bi x i] [Bi y j] (h : i + j < 400000) : f_length_square [fD x y] s = some (.int (x * x + y * y), s) := by
  have k1 : dMul (.int x) (.int x) = _ := mulB (by omega)
  have k2 : dMul (.int y) (.int y) = _ := mulB (by omega)
  simp [f_length_square, fnM, g_length_square, startE, mThen, mLift, mVar, m2, mC, sRet, dIx, atI, ixN, k1, k2, dAdd]
theorem e_length_square3 {x y z : Int} {s : S} {i j : Nat} [Bi x i] [Bi y j] (h : i + j < 400000) : f_length_square [pD x y z] s = some (.int (x * x + y * y), s) := by
  have k1 : dMul (.int x) (.int x) = _ := mulB (by omega)
  have k2 : dMul (.int y) (.int y) = _ := mulB (by omega)
  simp [f_length_square, fnM, g_length_square, startE, mThen, mLift, mVar, m2, mC, sRet, dIx, atI, ixN, k1, k2, dAdd]
theorem e_is_up_to_root {a b c d : Int} {s : S} {i j k l : Nat} [Bi a i] [Bi b j] [Bi c k] [Bi d l] (hb : 0 < b) (hh : i + j + k + l < 4000) : f_is_up_to_root [fD a b, fD c d] s = some (.bool (decide (a ≤ 0) || !decide (c * nmD (a * a) (b * b) < nmN (a * a) (b * b) * d)), s) := by
  have k1 := e_ratio_product (a := a) (b := b) (c := a) (d := b) (s := s) (by omega) (by omega) hb hb
  have k2 := e_is_less (a := c) (b := d) (c := nmN (a * a) (b * b)) (d := nmD (a * a) (b * b)) (s := s) (by omega) (by omega)
  by_cases h0 : a ≤ 0
  · simp [f_is_up_to_root, fnM, g_is_up_to_root, startE, mThen, mLift, mVar, m1, m2, mC, sRet, mOrV, mIf, mB, dIx, atI, ixN, dCmp, bOf, h0]
  · simp [f_is_up_to_root, fnM, g_is_up_to_root, startE, mThen, mLift, mVar, m1, m2, mC, sRet, mOrV, mIf, mB, dIx, atI, ixN, dCmp, bOf, h0, mF, aCons, aNil, k1, k2, dNot]
end WF
/-! hulls of points of the plane by two chains -/
namespace HU
abbrev P := Int × Int
def det (a b c : P) : Int := (b.1 - a.1) * (c.2 - a.2) - (b.2 - a.2) * (c.1 - a.1)
def cr (u v : P) : Int := u.1 * v.2 - u.2 * v.1
def sub (a b : P) : P := (a.1 - b.1, a.2 - b.2)
def lt (a b : P) : Prop := a.1 < b.1 ∨ (a.1 = b.1 ∧ a.2 < b.2)
def pos (u : P) : Prop := 0 < u.1 ∨ (u.1 = 0 ∧ 0 < u.2)
theorem pos_sub {a b : P} : pos (sub b a) ↔ lt a b := by
  unfold pos sub lt
  dsimp only
  omega
theorem lt_irr {a : P} : ¬ lt a a := by unfold lt; omega
theorem lt_tr {a b c : P} (h : lt a b) (k : lt b c) : lt a c := by unfold lt at *; omega
theorem lt_tri (a b : P) : lt a b ∨ a = b ∨ lt b a := by
  unfold lt
  by_cases h : a = b
  · exact .inr (.inl h)
  · have : a.1 ≠ b.1 ∨ a.2 ≠ b.2 := by
      by_cases k : a.1 = b.1
      · exact .inr fun z => h (Prod.ext k z)
      · exact .inl k
    omega
theorem pos_mul {u : P} {a : Int} (h : pos u) (ha : 0 < a) : pos (a * u.1, a * u.2) := by
  rcases h with h | ⟨h, k⟩
  · exact .inl (Int.mul_pos ha h)
  · exact .inr ⟨by show a * u.1 = 0; rw [h, Int.mul_zero], Int.mul_pos ha k⟩
theorem pos_add {u v : P} (h : pos u) (k : pos v) : pos (u.1 + v.1, u.2 + v.2) := by
  unfold pos at *
  dsimp only
  omega
theorem pos_neg {u : P} (h : pos u) : ¬ pos (-u.1, -u.2) := by
  unfold pos at *
  dsimp only
  omega
theorem pos_sign {v : P} {c : Int} (h : pos v) (k : pos (c * v.1, c * v.2)) : 0 < c := by
  rcases Int.lt_trichotomy c 0 with z | z | z
  · have := pos_mul h (show 0 < -c by omega)
    rw [Int.neg_mul, Int.neg_mul] at this
    exact absurd this (pos_neg k)
  · subst z
    unfold pos at k
    dsimp only at k
    omega
  · exact z
/-- who is left of one that is left is left -/
theorem cr_tr {u v w : P} (hu : pos u) (hv : pos v) (hw : pos w) (h1 : 0 ≤ cr u v) (h2 : 0 ≤ cr v w) : 0 ≤ cr u w ∧ ((0 < cr u v ∨ 0 < cr v w) → 0 < cr u w) := by
  have e1 : cr u w * v.1 = cr u v * w.1 + cr v w * u.1 := by unfold cr; grind
  have e2 : cr u w * v.2 = cr u v * w.2 + cr v w * u.2 := by unfold cr; grind
  generalize cr u w = c at *
  generalize cr u v = a at *
  generalize cr v w = b at *
  have strict : 0 < a ∨ 0 < b → 0 < c := by
    intro h
    refine pos_sign hv ?_
    rw [e1, e2]
    rcases Int.lt_or_eq_of_le h1 with a0 | a0
    · rcases Int.lt_or_eq_of_le h2 with b0 | b0
      · exact pos_add (pos_mul hw a0) (pos_mul hu b0)
      · rw [← b0, Int.zero_mul, Int.zero_mul, Int.add_zero, Int.add_zero]
        exact pos_mul hw a0
    · have b0 : 0 < b := by omega
      rw [← a0, Int.zero_mul, Int.zero_mul, Int.zero_add, Int.zero_add]
      exact pos_mul hu b0
  refine ⟨?_, strict⟩
  by_cases h : 0 < a ∨ 0 < b
  · exact Int.le_of_lt (strict h)
  · have a0 : a = 0 := by omega
    have b0 : b = 0 := by omega
    rw [a0, b0, Int.zero_mul, Int.zero_mul, Int.add_zero] at e1 e2
    rcases Int.mul_eq_zero.mp e1 with z | z
    · omega
    · rcases Int.mul_eq_zero.mp e2 with z2 | z2
      · omega
      · unfold pos at hv; omega
theorem det_cr (a b c : P) : det a b c = cr (sub b a) (sub c a) := rfl
theorem det_cr2 (a b c : P) : det a b c = cr (sub b a) (sub c b) := by unfold det cr sub; grind
/-! the chain, top first -/
def push : List P → P → List P
  | [], p => [p]
  | [t], p => [p, t]
  | t :: s :: r, p => if 0 < det s t p then p :: t :: s :: r else push (s :: r) p
def chain (S : List P) : List P := S.foldl push []
/-- a chain that has all points of pre on its left -/
def Ok (pre : List P) : List P → Prop
  | b :: a :: r => lt a b ∧ (∀ q ∈ pre, 0 ≤ det a b q) ∧ (∀ z, r.head? = some z → 0 < det z a b) ∧ Ok pre (a :: r)
  | _ => True
theorem Ok.tail {pre : List P} {b : P} {r : List P} (h : Ok pre (b :: r)) : Ok pre r := by
  cases r with
  | nil => trivial
  | cons a r => exact h.2.2.2
theorem Ok.sub {pre pre' : List P} (hs : ∀ q ∈ pre', q ∈ pre) : ∀ {C : List P}, Ok pre C → Ok pre' C
  | [], _ => trivial
  | [_], _ => trivial
  | b :: a :: r, h => ⟨h.1, fun q hq => h.2.1 q (hs q hq), h.2.2.1, Ok.sub hs h.2.2.2⟩
/-- a point beyond the top, left of the last edge, is left of all -/
theorem beyond {pre : List P} : ∀ {r : List P} {t s p : P}, Ok pre (t :: s :: r) → lt t p → 0 < det s t p → Ok (pre ++ [p]) (t :: s :: r)
  | [], t, s, p, h, _, h2 => ⟨h.1, fun q hq => by
      rcases List.mem_append.mp hq with z | z
      · exact h.2.1 q z
      · rw [List.mem_singleton.mp z]; exact Int.le_of_lt h2, h.2.2.1, trivial⟩
  | z :: r, t, s, p, h, h1, h2 => by
    have hz : 0 < det z s t := h.2.2.1 z rfl
    have h3 : 0 < det z s p := by
      have a1 : 0 < cr (HU.sub s z) (HU.sub t s) := by rw [← det_cr2]; exact hz
      have a2 : 0 < cr (HU.sub t s) (HU.sub p t) := by rw [← det_cr2]; exact h2
      have lzs : lt z s := h.2.2.2.1
      have := (cr_tr (pos_sub.mpr lzs) (pos_sub.mpr h.1) (pos_sub.mpr h1) (Int.le_of_lt a1) (Int.le_of_lt a2)).2 (.inl a1)
      have e : det z s p = cr (HU.sub s z) (HU.sub p t) + cr (HU.sub s z) (HU.sub t s) := by unfold det cr HU.sub; grind
      omega
    exact ⟨h.1, fun q hq => by
      rcases List.mem_append.mp hq with z' | z'
      · exact h.2.1 q z'
      · rw [List.mem_singleton.mp z']; exact Int.le_of_lt h2, h.2.2.1, beyond h.2.2.2 (lt_tr h.1 h1) h3⟩
theorem push_ok {pre : List P} {p : P} (hp : ∀ q ∈ pre, lt q p) : ∀ (r : List P) (t : P), Ok pre (t :: r) → (∀ x ∈ t :: r, x ∈ pre) → (∀ m, (t :: r).getLast? = some m → ∀ q ∈ pre, q = m ∨ lt m q) →
    (∀ q ∈ pre, lt t q → 0 ≤ cr (sub p t) (sub q t)) → Ok (pre ++ [p]) (push (t :: r) p) ∧ (push (t :: r) p).head? = some p ∧ (push (t :: r) p).getLast? = (t :: r).getLast? ∧ ∀ x ∈ push (t :: r) p, x = p ∨ x ∈ pre
  | [], t, h, hm, hl, hc => by
    have ht : lt t p := hp t (hm t (by simp))
    refine ⟨⟨ht, fun q hq => ?_, (fun z e => by cases e), trivial⟩, rfl, rfl, fun x hx => ?_⟩
    · rcases List.mem_append.mp hq with z | z
      · rcases hl t rfl q z with e | e
        · subst e; unfold det; grind
        · exact hc q z e
      · rw [List.mem_singleton.mp z]; unfold det; grind
    · rcases List.mem_cons.mp hx with e | e
      · exact .inl e
      · rw [List.mem_singleton.mp e]; exact .inr (hm t (by simp))
  | s :: r, t, h, hm, hl, hc => by
    have ht : lt t p := hp t (hm t (by simp))
    have hst : lt s t := h.1
    unfold push
    by_cases hd : 0 < det s t p
    · rw [if_pos hd]
      refine ⟨⟨ht, fun q hq => ?_, (fun z e => by cases e; exact hd), beyond h ht hd⟩, rfl, rfl, fun x hx => ?_⟩
      · rcases List.mem_append.mp hq with z | z
        · rcases lt_tri q t with e | e | e
          · have a1 := h.2.1 q z
            have b1 : 0 < cr (sub t s) (sub p t) := by rw [← det_cr2]; exact hd
            have b2 : 0 ≤ cr (sub t q) (sub t s) := by
              have : det s t q = cr (sub t q) (sub t s) := by unfold det cr sub; grind
              omega
            have b3 := (cr_tr (pos_sub.mpr e) (pos_sub.mpr hst) (pos_sub.mpr ht) b2 (Int.le_of_lt b1)).1
            have : det t p q = cr (sub t q) (sub p t) := by unfold det cr sub; grind
            omega
          · subst e; unfold det; grind
          · exact hc q z e
        · rw [List.mem_singleton.mp z]; unfold det; grind
      · rcases List.mem_cons.mp hx with e | e
        · exact .inl e
        · exact .inr (hm x e)
    · rw [if_neg hd]
      have ih := push_ok hp r s h.tail (fun x hx => hm x (List.mem_cons_of_mem _ hx)) (fun m e => hl m (by rw [List.getLast?_cons_cons]; exact e)) (fun q hq hsq => by
        have a1 : 0 ≤ cr (sub p s) (sub t s) := by
          have : det s t p = - cr (sub p s) (sub t s) := by unfold det cr sub; grind
          omega
        have a2 : 0 ≤ cr (sub t s) (sub q s) := h.2.1 q hq
        exact (cr_tr (pos_sub.mpr (lt_tr hst ht)) (pos_sub.mpr hst) (pos_sub.mpr hsq) a1 a2).1)
      rw [List.getLast?_cons_cons]
      exact ih
abbrev Asc (S : List P) : Prop := S.Pairwise lt
structure Hull (S C : List P) : Prop where
  ok : Ok S C
  hd : C.head? = S.getLast?
  ls : C.getLast? = S.head?
  sb : ∀ x ∈ C, x ∈ S
theorem fold_hull : ∀ (T pre C : List P), Asc (pre ++ T) → pre ≠ [] → Hull pre C → Hull (pre ++ T) (T.foldl push C)
  | [], pre, C, _, _, h => by rw [List.append_nil]; exact h
  | p :: T, pre, C, ha, hn, h => by
    obtain ⟨m, hm⟩ : ∃ m, pre.head? = some m := by
      cases pre with
      | nil => exact absurd rfl hn
      | cons m _ => exact ⟨m, rfl⟩
    have below : ∀ q ∈ pre, lt q p := fun q hq => (List.pairwise_append.mp ha).2.2 q hq p List.mem_cons_self
    have hl : ∀ k, C.getLast? = some k → ∀ q ∈ pre, q = k ∨ lt k q := fun k e q hq => by
      rw [h.ls, hm] at e
      cases e
      cases pre with
      | nil => cases hq
      | cons m' pre =>
        cases hm
        rcases List.mem_cons.mp hq with z | z
        · exact .inl z
        · exact .inr ((List.pairwise_cons.mp (List.pairwise_append.mp ha).1).1 q z)
    cases C with
    | nil =>
      have := h.ls
      rw [hm] at this
      cases this
    | cons t r =>
      have top : ∀ q ∈ pre, ¬ lt t q := fun q hq z => by
        have e := h.hd
        have ht : pre.getLast? = some t := by rw [← e]; rfl
        have hap := (List.pairwise_append.mp ha).1
        rw [List.getLast?_eq_some_iff] at ht
        obtain ⟨ys, rfl⟩ := ht
        rcases List.mem_append.mp hq with y | y
        · exact lt_irr (lt_tr z ((List.pairwise_append.mp hap).2.2 q y t (by simp)))
        · rw [List.mem_singleton.mp y] at z; exact lt_irr z
      obtain ⟨o1, o2, o3, o4⟩ := push_ok below r t h.ok h.sb hl (fun q hq z => absurd z (top q hq))
      have h' : Hull (pre ++ [p]) (push (t :: r) p) := ⟨o1, by rw [o2, List.getLast?_append]; rfl, by rw [o3, h.ls, hm, List.head?_append, hm]; rfl, fun x hx => by
        rcases o4 x hx with z | z
        · subst z; simp
        · exact List.mem_append_left _ z⟩
      have e : pre ++ p :: T = (pre ++ [p]) ++ T := by simp
      rw [e] at ha ⊢
      exact fold_hull T (pre ++ [p]) _ ha (by simp) h'
theorem chain_hull {S : List P} (ha : Asc S) (hn : S ≠ []) : Hull S (chain S) := by
  cases S with
  | nil => exact absurd rfl hn
  | cons p T =>
    have := fold_hull T [p] [p] ha (by simp) ⟨trivial, rfl, rfl, fun x hx => hx⟩
    exact this
/-- only one chain is such -/
theorem Ok.desc {pre : List P} : ∀ {r : List P} {b m : P}, Ok pre (b :: r) → (b :: r).getLast? = some m → m = b ∨ lt m b
  | [], b, m, _, e => by cases e; exact .inl rfl
  | a :: r, b, m, h, e => by
    rw [List.getLast?_cons_cons] at e
    rcases Ok.desc h.tail e with z | z
    · rw [z]; exact .inr h.1
    · exact .inr (lt_tr z h.1)
theorem uniq_step {S : List P} {z b b' m : P} {r r' : List P} (h : Ok S (z :: b :: r)) (h' : Ok S (z :: b' :: r')) (e : (z :: b :: r).getLast? = some m) (e' : (z :: b' :: r').getLast? = some m) (s : ∀ x ∈ z :: b :: r, x ∈ S) (s' : ∀ x ∈ z :: b' :: r', x ∈ S) : ¬ lt b b' := by
  intro hb
  rw [List.getLast?_cons_cons] at e e'
  have hbS : b ∈ S := s b (by simp)
  have hbS' : b' ∈ S := s' b' (by simp)
  have d1 := h.2.1 b' hbS'
  have d2 := h'.2.1 b hbS
  have hb'z : lt b' z := h'.1
  cases r' with
  | nil =>
    cases e'
    rcases Ok.desc h.tail e with q | q
    · subst q; exact lt_irr hb
    · exact lt_irr (lt_tr hb q)
  | cons c r' =>
    have hc : 0 < det c b' z := h'.2.2.1 c rfl
    have hcb : 0 ≤ det c b' b := h'.tail.2.1 b hbS
    have lcb : lt c b' := h'.tail.1
    have a1 : 0 ≤ cr (sub b' b) (sub b' c) := by
      have : det c b' b = cr (sub b' b) (sub b' c) := by unfold det cr sub; grind
      omega
    have a2 : 0 < cr (sub b' c) (sub z b') := by rw [← det_cr2]; exact hc
    have a3 := (cr_tr (pos_sub.mpr hb) (pos_sub.mpr lcb) (pos_sub.mpr hb'z) a1 (Int.le_of_lt a2)).2 (.inr a2)
    have q1 : det b z b' = - cr (sub b' b) (sub z b') := by unfold det cr sub; grind
    omega
theorem uniq {S : List P} {m : P} : ∀ (C C' : List P), Ok S C → Ok S C' → C.head? = C'.head? → C.getLast? = some m → C'.getLast? = some m → (∀ x ∈ C, x ∈ S) → (∀ x ∈ C', x ∈ S) → C = C'
  | [], _, _, _, _, e, _, _, _ => by cases e
  | _ :: _, [], _, _, _, _, e, _, _ => by cases e
  | [z], [z'], _, _, e, _, _, _, _ => by cases e; rfl
  | [z], z' :: b' :: r', h, h', e, e1, e2, _, _ => by
    cases e
    have hm : z = m := by simpa using e1
    subst hm
    rw [List.getLast?_cons_cons] at e2
    rcases Ok.desc h'.tail e2 with q | q
    · subst q; exact absurd h'.1 lt_irr
    · exact absurd (lt_tr q h'.1) lt_irr
  | z :: b :: r, [z'], h, h', e, e1, e2, _, _ => by
    cases e
    have hm : z = m := by simpa using e2
    subst hm
    rw [List.getLast?_cons_cons] at e1
    rcases Ok.desc h.tail e1 with q | q
    · subst q; exact absurd h.1 lt_irr
    · exact absurd (lt_tr q h.1) lt_irr
  | z :: b :: r, z' :: b' :: r', h, h', e, e1, e2, s, s' => by
    cases e
    have n1 := uniq_step h h' e1 e2 s s'
    have n2 := uniq_step h' h e2 e1 s' s
    have eb : b = b' := by
      rcases lt_tri b b' with q | q | q
      · exact absurd q n1
      · exact q
      · exact absurd q n2
    subst eb
    rw [List.getLast?_cons_cons] at e1 e2
    rw [uniq (b :: r) (b :: r') h.tail h'.tail rfl e1 e2 (fun x hx => s x (List.mem_cons_of_mem _ hx)) fun x hx => s' x (List.mem_cons_of_mem _ hx)]
/-- points between the chain and all of them change nothing -/
theorem chain_between {S T : List P} (hS : Asc S) (hT : Asc T) (hn : S ≠ []) (h1 : ∀ x ∈ chain S, x ∈ T) (h2 : ∀ x ∈ T, x ∈ S) : chain T = chain S := by
  have H := chain_hull hS hn
  obtain ⟨m, hm⟩ : ∃ m, S.head? = some m := by
    cases S with
    | nil => exact absurd rfl hn
    | cons m _ => exact ⟨m, rfl⟩
  obtain ⟨z, hz⟩ : ∃ z, S.getLast? = some z := by
    cases q : S.getLast? with
    | none => rw [List.getLast?_eq_none_iff] at q; exact absurd q hn
    | some z => exact ⟨z, rfl⟩
  have zC : z ∈ chain S := by
    have := H.hd
    rw [hz] at this
    exact List.mem_of_head? this
  have mC : m ∈ chain S := by
    have := H.ls
    rw [hm] at this
    exact List.mem_of_getLast? this
  have hnT : T ≠ [] := fun e => by
    have := h1 z zC
    rw [e] at this
    cases this
  have HT := chain_hull hT hnT
  have lowS : ∀ q ∈ S, q = m ∨ lt m q := fun q hq => by
    cases S with
    | nil => cases hq
    | cons m' S =>
      cases hm
      rcases List.mem_cons.mp hq with y | y
      · exact .inl y
      · exact .inr ((List.pairwise_cons.mp hS).1 q y)
  have highS : ∀ q ∈ S, q = z ∨ lt q z := fun q hq => by
    rw [List.getLast?_eq_some_iff] at hz
    obtain ⟨ys, rfl⟩ := hz
    rcases List.mem_append.mp hq with y | y
    · exact .inr ((List.pairwise_append.mp hS).2.2 q y z (by simp))
    · exact .inl (List.mem_singleton.mp y)
  have headT : T.head? = some m := by
    cases T with
    | nil => exact absurd rfl hnT
    | cons a T =>
      rcases lowS a (h2 a (by simp)) with e | e
      · rw [e]; rfl
      · rcases List.mem_cons.mp (h1 m mC) with y | y
        · rw [y]; rfl
        · exact absurd (lt_tr e ((List.pairwise_cons.mp hT).1 m y)) lt_irr
  have lastT : T.getLast? = some z := by
    cases q : T.getLast? with
    | none => rw [List.getLast?_eq_none_iff] at q; exact absurd q hnT
    | some y =>
      have hy := List.mem_of_getLast? q
      rcases highS y (h2 y hy) with e | e
      · rw [e]
      · rw [List.getLast?_eq_some_iff] at q
        obtain ⟨ys, rfl⟩ := q
        rcases List.mem_append.mp (h1 z zC) with w | w
        · exact absurd (lt_tr e ((List.pairwise_append.mp hT).2.2 z w y (by simp))) lt_irr
        · rw [List.mem_singleton.mp w] at e; exact absurd e lt_irr
  exact uniq _ _ HT.ok (H.ok.sub h2) (by rw [HT.hd, H.hd, lastT, hz]) (by rw [HT.ls, headT]) (by rw [H.ls, hm]) HT.sb h1
end HU
/-! the round of a hull's corners -/
namespace HU
def ng (a : P) : P := (-a.1, -a.2)
theorem ng_ng (a : P) : ng (ng a) = a := by unfold ng; simp
theorem det_ng (a b c : P) : det (ng a) (ng b) (ng c) = det a b c := by unfold det ng; grind
theorem lt_ng {a b : P} : lt (ng a) (ng b) ↔ lt b a := by unfold lt ng; dsimp only; omega
theorem push_ng : ∀ (C : List P) (p : P), push (C.map ng) (ng p) = (push C p).map ng
  | [], _ => rfl
  | [_], _ => rfl
  | t :: s :: r, p => by
    show (if 0 < det (ng s) (ng t) (ng p) then _ else push ((s :: r).map ng) (ng p)) = _
    rw [det_ng, push_ng (s :: r) p]
    show _ = (if 0 < det s t p then p :: t :: s :: r else push (s :: r) p).map ng
    split <;> rfl
theorem fold_ng : ∀ (T C : List P), (T.map ng).foldl push (C.map ng) = (T.foldl push C).map ng
  | [], _ => rfl
  | p :: T, C => by
    rw [List.map_cons, List.foldl_cons, List.foldl_cons, push_ng, fold_ng T]
theorem chain_ng (T : List P) : chain (T.map ng) = (chain T).map ng := fold_ng T []
theorem map_ng_ng (T : List P) : (T.map ng).map ng = T := by
  rw [List.map_map]
  have : ng ∘ ng = id := funext ng_ng
  rw [this, List.map_id]
def back (S : List P) : List P := (S.map ng).reverse
theorem back_back (S : List P) : back (back S) = S := by
  unfold back
  rw [List.map_reverse, List.reverse_reverse, map_ng_ng]
theorem asc_back {S : List P} (h : Asc S) : Asc (back S) := by
  unfold back
  rw [Asc, List.pairwise_reverse, List.pairwise_map]
  exact h.imp fun z => lt_ng.mpr z
theorem mem_back {S : List P} {x : P} : x ∈ back S ↔ ng x ∈ S := by
  unfold back
  rw [List.mem_reverse, List.mem_map]
  exact ⟨fun ⟨y, h, e⟩ => by rw [← e, ng_ng]; exact h, fun h => ⟨_, h, ng_ng x⟩⟩
theorem chain_rev (S : List P) : chain S.reverse = (chain (back S)).map ng := by
  rw [← chain_ng]
  unfold back
  rw [List.map_reverse, map_ng_ng]
def low (S : List P) : List P := (chain S).reverse
def upp (S : List P) : List P := (chain S.reverse).reverse
theorem upp_low (S : List P) : upp S = (low (back S)).map ng := by
  unfold upp low
  rw [chain_rev, List.map_reverse]
theorem Ok.two {pre : List P} : ∀ {C : List P} {b a : P}, Ok pre C → [b, a] <:+: C → lt a b ∧ ∀ q ∈ pre, 0 ≤ det a b q
  | [], _, _, _, h => by simp at h
  | c :: C, b, a, h, i => by
    rw [List.infix_cons_iff] at i
    rcases i with i | i
    · obtain ⟨t, e⟩ := i
      cases e
      exact ⟨h.1, h.2.1⟩
    · exact Ok.two h.tail i
theorem Ok.three {pre : List P} : ∀ {C : List P} {b a z : P}, Ok pre C → [b, a, z] <:+: C → 0 < det z a b
  | [], _, _, _, _, h => by simp at h
  | c :: C, b, a, z, h, i => by
    rw [List.infix_cons_iff] at i
    rcases i with i | i
    · obtain ⟨t, e⟩ := i
      cases e
      exact h.2.2.1 z rfl
    · exact Ok.three h.tail i
/-- what is in line with an edge -/
theorem low_two {S : List P} (ha : Asc S) (hn : S ≠ []) {a b : P} (h : [a, b] <:+: low S) : lt a b ∧ ∀ q ∈ S, 0 ≤ det a b q := by
  refine Ok.two (chain_hull ha hn).ok ?_
  have := List.reverse_infix.mpr h
  unfold low at this
  rw [List.reverse_reverse] at this
  exact this
theorem low_three {S : List P} (ha : Asc S) (hn : S ≠ []) {a b c : P} (h : [a, b, c] <:+: low S) : 0 < det a b c := by
  refine Ok.three (chain_hull ha hn).ok ?_
  have := List.reverse_infix.mpr h
  unfold low at this
  rw [List.reverse_reverse] at this
  exact this
theorem back_ne {S : List P} (hn : S ≠ []) : back S ≠ [] := by unfold back; simpa using hn
theorem infix_ng {l T : List P} (h : l <:+: T.map ng) : l.map ng <:+: T := by
  obtain ⟨x, y, e⟩ := h
  have := congrArg (List.map ng) e
  rw [map_ng_ng, List.map_append, List.map_append] at this
  exact ⟨_, _, this⟩
theorem upp_two {S : List P} (ha : Asc S) (hn : S ≠ []) {a b : P} (h : [a, b] <:+: upp S) : lt b a ∧ ∀ q ∈ S, 0 ≤ det a b q := by
  rw [upp_low] at h
  have := low_two (asc_back ha) (back_ne hn) (infix_ng h)
  refine ⟨lt_ng.mp this.1, fun q hq => ?_⟩
  have h2 := this.2 (ng q) (mem_back.mpr (by rw [ng_ng]; exact hq))
  rw [det_ng] at h2
  exact h2
theorem upp_three {S : List P} (ha : Asc S) (hn : S ≠ []) {a b c : P} (h : [a, b, c] <:+: upp S) : 0 < det a b c := by
  rw [upp_low] at h
  have := low_three (asc_back ha) (back_ne hn) (infix_ng h)
  rw [det_ng] at this
  exact this
/-! both chains together -/
theorem lastS {S : List P} (hn : S ≠ []) : ∃ z, S.getLast? = some z := by
  cases q : S.getLast? with
  | none => rw [List.getLast?_eq_none_iff] at q; exact absurd q hn
  | some z => exact ⟨z, rfl⟩
theorem headS {S : List P} (hn : S ≠ []) : ∃ z, S.head? = some z := by
  cases S with
  | nil => exact absurd rfl hn
  | cons z _ => exact ⟨z, rfl⟩
theorem low_ends {S : List P} (ha : Asc S) (hn : S ≠ []) : (low S).head? = S.head? ∧ (low S).getLast? = S.getLast? := by
  have H := chain_hull ha hn
  unfold low
  exact ⟨by rw [List.head?_reverse, H.ls], by rw [List.getLast?_reverse, H.hd]⟩
theorem upp_ends {S : List P} (ha : Asc S) (hn : S ≠ []) : (upp S).head? = S.getLast? ∧ (upp S).getLast? = S.head? := by
  have := low_ends (asc_back ha) (back_ne hn)
  rw [upp_low, List.head?_map, List.getLast?_map, this.1, this.2]
  unfold back
  rw [List.head?_reverse, List.getLast?_reverse, List.getLast?_map, List.head?_map]
  constructor
  · cases S.getLast? <;> simp [ng_ng]
  · cases S.head? <;> simp [ng_ng]
theorem low_sub {S : List P} (ha : Asc S) (hn : S ≠ []) : ∀ x ∈ low S, x ∈ S := fun x h => (chain_hull ha hn).sb x (by unfold low at h; exact List.mem_reverse.mp h)
theorem upp_sub {S : List P} (ha : Asc S) (hn : S ≠ []) : ∀ x ∈ upp S, x ∈ S := fun x h => by
  rw [upp_low, List.mem_map] at h
  obtain ⟨y, h, e⟩ := h
  have := mem_back.mp (low_sub (asc_back ha) (back_ne hn) y h)
  rw [← e]
  exact this
def rim (S : List P) : List P := (low S).dropLast ++ (upp S).dropLast
theorem par_zero {e f g : P} (he : pos e) (hf : pos f) (h0 : cr e f = 0) (h1 : 0 ≤ cr e g) (h2 : cr f g ≤ 0) : cr e g = 0 := by
  unfold pos at he hf
  rcases Int.lt_or_eq_of_le h1 with h | h
  · have e1 : f.1 * cr e g = e.1 * cr f g + g.1 * cr e f := by unfold cr; grind
    have e2 : f.2 * cr e g = e.2 * cr f g + g.2 * cr e f := by unfold cr; grind
    rw [h0, Int.mul_zero, Int.add_zero] at e1 e2
    rcases hf with hf | ⟨hf, hf2⟩
    · have p1 : 0 < f.1 * cr e g := Int.mul_pos hf h
      have p2 : e.1 * cr f g ≤ 0 := Int.mul_nonpos_of_nonneg_of_nonpos (by omega) h2
      omega
    · have : e.1 = 0 := by
        have : cr e f = e.1 * f.2 - e.2 * f.1 := rfl
        rw [hf, Int.mul_zero, Int.sub_zero, h0] at this
        rcases Int.mul_eq_zero.mp this.symm with z | z <;> omega
      have e2pos : 0 < e.2 := by omega
      have p1 : 0 < f.2 * cr e g := Int.mul_pos hf2 h
      have p2 : e.2 * cr f g ≤ 0 := Int.mul_nonpos_of_nonneg_of_nonpos (by omega) h2
      omega
  · exact h.symm
theorem line_zero {e x y : P} (he : pos e) (h1 : cr e x = 0) (h2 : cr e y = 0) : cr x y = 0 := by
  have e1 : e.1 * cr x y = x.1 * cr e y - y.1 * cr e x := by unfold cr; grind
  have e2 : e.2 * cr x y = x.2 * cr e y - y.2 * cr e x := by unfold cr; grind
  rw [h1, h2, Int.mul_zero, Int.mul_zero, Int.sub_zero] at e1 e2
  unfold pos at he
  rcases Int.mul_eq_zero.mp e1 with z | z
  · rcases Int.mul_eq_zero.mp e2 with w | w
    · omega
    · exact w
  · exact z
/-- not all on one line -/
def Wide (S : List P) : Prop := ∃ p q r, p ∈ S ∧ q ∈ S ∧ r ∈ S ∧ det p q r ≠ 0
theorem strict_end {S : List P} {a z c : P} (hw : Wide S) (h1 : ∀ q ∈ S, 0 ≤ det a z q) (h2 : ∀ q ∈ S, 0 ≤ det z c q) (la : lt a z) (lc : lt c z) (hc : c ∈ S) : 0 < det a z c := by
  rcases Int.lt_or_eq_of_le (h1 c hc) with h | h
  · exact h
  · exfalso
    have pe : pos (sub z a) := pos_sub.mpr la
    have pf : pos (sub z c) := pos_sub.mpr lc
    have h0 : cr (sub z a) (sub z c) = 0 := by
      have : det a z c = - cr (sub z a) (sub z c) := by unfold det cr sub; grind
      omega
    have all : ∀ q ∈ S, cr (sub z a) (sub q z) = 0 := fun q hq => par_zero pe pf h0 (by rw [← det_cr2]; exact h1 q hq) (by
      have := h2 q hq
      have e : det z c q = - cr (sub z c) (sub q z) := by unfold det cr sub; grind
      omega)
    obtain ⟨p, q, r, hp, hq, hr, hd⟩ := hw
    refine hd ?_
    rw [det_cr]
    refine line_zero pe ?_ ?_
    · have e : cr (sub z a) (sub q p) = cr (sub z a) (sub q z) - cr (sub z a) (sub p z) := by unfold cr sub; grind
      rw [e, all q hq, all p hp]; rfl
    · have e : cr (sub z a) (sub r p) = cr (sub z a) (sub r z) - cr (sub z a) (sub p z) := by unfold cr sub; grind
      rw [e, all r hr, all p hp]; rfl
theorem wide_back {S : List P} (h : Wide S) : Wide (back S) := by
  obtain ⟨p, q, r, hp, hq, hr, hd⟩ := h
  exact ⟨ng p, ng q, ng r, mem_back.mpr (by rw [ng_ng]; exact hp), mem_back.mpr (by rw [ng_ng]; exact hq), mem_back.mpr (by rw [ng_ng]; exact hr), by rw [det_ng]; exact hd⟩
/-- adjacent in a row that is joined of two -/
theorem infix_two {a b z : P} : ∀ {l1 l2 : List P}, [a, b] <:+: l1 ++ z :: l2 → [a, b] <:+: l1 ++ [z] ∨ [a, b] <:+: z :: l2
  | [], l2, h => .inr h
  | x :: l1, l2, h => by
    rw [List.cons_append, List.infix_cons_iff] at h
    rcases h with h | h
    · refine .inl ?_
      rw [List.cons_append, List.infix_cons_iff]
      left
      cases l1 with
      | nil =>
        obtain ⟨t, e⟩ := h
        cases e
        exact ⟨[], rfl⟩
      | cons y l1 =>
        obtain ⟨t, e⟩ := h
        cases e
        exact ⟨l1 ++ [z], rfl⟩
    · rcases infix_two h with i | i
      · exact .inl (by rw [List.cons_append, List.infix_cons_iff]; exact .inr i)
      · exact .inr i
theorem infix_three {a b c z : P} : ∀ {l1 l2 : List P}, [a, b, c] <:+: l1 ++ z :: l2 → [a, b, c] <:+: l1 ++ [z] ∨ [a, b, c] <:+: z :: l2 ∨ (b = z ∧ [a, z] <:+: l1 ++ [z] ∧ [z, c] <:+: z :: l2)
  | [], l2, h => .inr (.inl h)
  | x :: l1, l2, h => by
    rw [List.cons_append, List.infix_cons_iff] at h
    rcases h with h | h
    · cases l1 with
      | nil =>
        obtain ⟨t, e⟩ := h
        cases e
        exact .inr (.inr ⟨rfl, ⟨[], [], rfl⟩, ⟨[], t, rfl⟩⟩)
      | cons y l1 =>
        left
        rw [List.cons_append, List.infix_cons_iff]
        left
        cases l1 with
        | nil =>
          obtain ⟨t, e⟩ := h
          cases e
          exact ⟨[], rfl⟩
        | cons w l1 =>
          obtain ⟨t, e⟩ := h
          cases e
          exact ⟨l1 ++ [z], rfl⟩
    · rcases infix_three h with i | i | i
      · exact .inl (by rw [List.cons_append, List.infix_cons_iff]; exact .inr i)
      · exact .inr (.inl i)
      · refine .inr (.inr ⟨i.1, ?_, i.2.2⟩)
        rw [List.cons_append, List.infix_cons_iff]
        exact .inr i.2.1
end HU
/-! the round: edges, turns -/
namespace HU
/-- the ends of a sorted row of two and more -/
theorem asc_split {S : List P} (ha : Asc S) (h2 : 2 ≤ S.length) : ∃ m z, S.head? = some m ∧ S.getLast? = some z ∧ lt m z := by
  have hn : S ≠ [] := fun e => by rw [e] at h2; simp at h2
  obtain ⟨m, hm⟩ := headS hn
  obtain ⟨z, hz⟩ := lastS hn
  refine ⟨m, z, hm, hz, ?_⟩
  cases S with
  | nil => cases hm
  | cons a T =>
    cases hm
    have : T ≠ [] := fun e => by rw [e] at h2; simp at h2
    rw [List.getLast?_cons_of_ne_nil this] at hz
    exact (List.pairwise_cons.mp ha).1 z (List.mem_of_getLast? hz)
theorem two_of_ends {l : List P} {m z : P} (h1 : l.head? = some m) (h2 : l.getLast? = some z) (hne : m ≠ z) : ∃ b t, l = m :: b :: t := by
  cases l with
  | nil => cases h1
  | cons a l =>
    cases h1
    cases l with
    | nil => cases h2; exact absurd rfl hne
    | cons b t => exact ⟨b, t, rfl⟩
theorem dropLast_snoc {l : List P} {z : P} (h : l.getLast? = some z) : l.dropLast ++ [z] = l := by
  rw [List.getLast?_eq_some_iff] at h
  obtain ⟨ys, rfl⟩ := h
  simp
structure Rd (S R : List P) : Prop where
  sub : ∀ x ∈ R, x ∈ S
  two : ∀ a b m, R.head? = some m → [a, b] <:+: R ++ [m] → a ≠ b ∧ ∀ q ∈ S, 0 ≤ det a b q
  three : Wide S → ∀ a b c m k, R.head? = some m → R[1]? = some k → [a, b, c] <:+: R ++ [m, k] → 0 < det a b c
theorem lt_ne {a b : P} (h : lt a b) : a ≠ b := fun e => by subst e; exact lt_irr h
theorem rim_shape {S : List P} (ha : Asc S) (h2 : 2 ≤ S.length) : ∃ m z L1 U1, S.head? = some m ∧ S.getLast? = some z ∧ lt m z ∧ low S = L1 ++ [z] ∧ upp S = z :: U1 ++ [m] ∧ L1.head? = some m ∧ rim S = L1 ++ z :: U1 := by
  have hn : S ≠ [] := fun e => by rw [e] at h2; simp at h2
  obtain ⟨m, z, hm, hz, hl⟩ := asc_split ha h2
  have L := low_ends ha hn
  have U := upp_ends ha hn
  rw [hm, hz] at L U
  obtain ⟨b, t, eL⟩ := two_of_ends L.1 L.2 (lt_ne hl)
  obtain ⟨b', t', eU⟩ := two_of_ends U.1 U.2 (Ne.symm (lt_ne hl))
  have dL := dropLast_snoc L.2
  have dU := dropLast_snoc U.2
  have hU : (upp S).dropLast = z :: (b' :: t').dropLast := by rw [eU]; rfl
  refine ⟨m, z, (low S).dropLast, (b' :: t').dropLast, hm, hz, hl, dL.symm, by rw [← hU, dU], ?_, ?_⟩
  · rw [eL]; rfl
  · unfold rim; rw [hU]
theorem rim_rd {S : List P} (ha : Asc S) (h2 : 2 ≤ S.length) : Rd S (rim S) := by
  have hn : S ≠ [] := fun e => by rw [e] at h2; simp at h2
  obtain ⟨m, z, L1, U1, hm, hz, hl, eL, eU, h1, eR⟩ := rim_shape ha h2
  have hh : (rim S).head? = some m := by rw [eR, List.head?_append, h1]; rfl
  refine ⟨fun x hx => ?_, fun a b m' e i => ?_, fun hw a b c m' k e ek i => ?_⟩
  · unfold rim at hx
    rcases List.mem_append.mp hx with y | y
    · exact low_sub ha hn x ((List.dropLast_sublist _).mem y)
    · exact upp_sub ha hn x ((List.dropLast_sublist _).mem y)
  · rw [hh] at e; cases e
    rw [eR, List.append_assoc, List.cons_append] at i
    rcases infix_two i with j | j
    · rw [← eL] at j
      have := low_two ha hn j
      exact ⟨lt_ne this.1, this.2⟩
    · rw [← List.cons_append, ← eU] at j
      have := upp_two ha hn j
      exact ⟨Ne.symm (lt_ne this.1), this.2⟩
  · rw [hh] at e; cases e
    have atZ : ∀ a c, [a, z] <:+: low S → [z, c] <:+: upp S → 0 < det a z c := fun a c i1 i2 => by
      have x1 := low_two ha hn i1
      have x2 := upp_two ha hn i2
      exact strict_end hw x1.2 x2.2 x1.1 x2.1 (upp_sub ha hn c (i2.mem (by simp)))
    have atM : ∀ a c, [a, m] <:+: upp S → [m, c] <:+: low S → 0 < det a m c := fun a c i1 i2 => by
      have x1 := upp_two ha hn i1
      have x2 := low_two ha hn i2
      have := strict_end (S := back S) (a := ng a) (z := ng m) (c := ng c) (wide_back hw) (fun q hq => by
        have := x1.2 (ng q) (mem_back.mp hq)
        rw [← det_ng, ng_ng] at this
        exact this) (fun q hq => by
        have := x2.2 (ng q) (mem_back.mp hq)
        rw [← det_ng, ng_ng] at this
        exact this) (lt_ng.mpr x1.1) (lt_ng.mpr x2.1) (mem_back.mpr (by rw [ng_ng]; exact low_sub ha hn c (i2.mem (by simp))))
      rw [det_ng] at this
      exact this
    have hk : ∃ t, low S = m :: k :: t := by
      cases L1 with
      | nil => cases h1
      | cons x L1 =>
        cases h1
        rw [eL]
        cases L1 with
        | nil =>
          rw [eR] at ek
          have : z = k := by simpa using ek
          subst this
          exact ⟨[], rfl⟩
        | cons y L1 =>
          rw [eR] at ek
          have : y = k := by simpa using ek
          subst this
          exact ⟨L1 ++ [z], rfl⟩
    obtain ⟨t, hk⟩ := hk
    have e1 : rim S ++ [m, k] = L1 ++ z :: (U1 ++ [m, k]) := by rw [eR]; simp
    rw [e1] at i
    have inL : ∀ {l : List P}, l <:+: L1 ++ [z] → l <:+: low S := fun h => by rw [eL]; exact h
    rcases infix_three i with j | j | j
    · exact low_three ha hn (inL j)
    · have e2 : z :: (U1 ++ [m, k]) = (z :: U1) ++ m :: [k] := rfl
      rw [e2] at j
      rcases infix_three j with j | j | j
      · rw [← eU] at j
        exact upp_three ha hn j
      · have := j.length_le
        simp at this
      · obtain ⟨rfl, j1, j2⟩ := j
        rw [← eU] at j1
        have : c = k := by
          obtain ⟨x, y, e⟩ := j2
          cases x with
          | nil => cases e; rfl
          | cons _ x => 
            have := congrArg List.length e
            simp at this
            omega
        subst this
        exact atM a c j1 (by rw [hk]; exact ⟨[], t, rfl⟩)
    · obtain ⟨rfl, j1, j2⟩ := j
      have j3 : [b, c] <:+: upp S := by
        rw [eU]
        have e2 : b :: (U1 ++ [m, k]) = (b :: U1) ++ m :: [k] := rfl
        rw [e2] at j2
        rcases infix_two j2 with q | q
        · exact q
        · exfalso
          obtain ⟨x, y, e⟩ := q
          cases x with
          | nil => cases e; exact lt_irr hl
          | cons _ x =>
            have := congrArg List.length e
            simp at this
            omega
      exact atZ a c (inL j1) j3
end HU
/-! the round of a round; wide rounds; rounds times a number -/
namespace HU
theorem rim_mem {S : List P} (ha : Asc S) (h2 : 2 ≤ S.length) : (∀ x ∈ low S, x ∈ rim S) ∧ ∀ x ∈ upp S, x ∈ rim S := by
  obtain ⟨m, z, L1, U1, hm, hz, hl, eL, eU, h1, eR⟩ := rim_shape ha h2
  rw [eR, eL, eU]
  refine ⟨fun x h => ?_, fun x h => ?_⟩
  · rcases List.mem_append.mp h with y | y
    · exact List.mem_append_left _ y
    · rw [List.mem_singleton.mp y]; simp
  · rcases List.mem_append.mp h with y | y
    · exact List.mem_append_right _ y
    · rw [List.mem_singleton.mp y]; exact List.mem_append_left _ (List.mem_of_head? h1)
theorem rim_between {S T : List P} (hS : Asc S) (hT : Asc T) (h2 : 2 ≤ S.length) (h1 : ∀ x ∈ rim S, x ∈ T) (h3 : ∀ x ∈ T, x ∈ S) : rim T = rim S := by
  have hn : S ≠ [] := fun e => by rw [e] at h2; simp at h2
  have mm := rim_mem hS h2
  have e1 : low T = low S := by
    unfold low
    rw [chain_between hS hT hn (fun x hx => h1 x (mm.1 x (by unfold low; exact List.mem_reverse.mpr hx))) h3]
  have e2 : upp T = upp S := by
    rw [upp_low, upp_low]
    unfold low
    rw [chain_between (asc_back hS) (asc_back hT) (back_ne hn) (fun x hx => ?_) (fun x hx => mem_back.mpr (h3 _ (mem_back.mp hx)))]
    refine mem_back.mpr (h1 _ (mm.2 _ ?_))
    rw [upp_low]
    exact List.mem_map_of_mem (by unfold low; exact List.mem_reverse.mpr hx)
  unfold rim
  rw [e1, e2]
theorem wide_of {S : List P} (ha : Asc S) (h2 : 2 ≤ S.length) (h3 : 3 ≤ (rim S).length) : Wide S := by
  have hn : S ≠ [] := fun e => by rw [e] at h2; simp at h2
  obtain ⟨m, z, L1, U1, hm, hz, hl, eL, eU, h1, eR⟩ := rim_shape ha h2
  have one : ∀ a b c, (∀ x ∈ [a, b, c], x ∈ S) → 0 < det a b c → Wide S := fun a b c h d => ⟨a, b, c, h a (by simp), h b (by simp), h c (by simp), by omega⟩
  rw [eR] at h3
  cases L1 with
  | nil => cases h1
  | cons x L1 =>
    cases L1 with
    | cons y L1 =>
      have : ∃ w t, low S = x :: y :: w :: t := by
        rw [eL]
        cases L1 with
        | nil => exact ⟨z, [], rfl⟩
        | cons w t => exact ⟨w, t ++ [z], rfl⟩
      obtain ⟨w, t, e⟩ := this
      exact one x y w (fun q hq => low_sub ha hn q (by rw [e]; simp at hq ⊢; rcases hq with h | h | h <;> simp [h])) (low_three ha hn (by rw [e]; exact ⟨[], t, rfl⟩))
    | nil =>
      cases U1 with
      | nil => simp at h3
      | cons y U1 =>
        have : ∃ w t, upp S = z :: y :: w :: t := by
          rw [eU]
          cases U1 with
          | nil => exact ⟨m, [], rfl⟩
          | cons w t => exact ⟨w, t ++ [m], rfl⟩
        obtain ⟨w, t, e⟩ := this
        exact one z y w (fun q hq => upp_sub ha hn q (by rw [e]; simp at hq ⊢; rcases hq with h | h | h <;> simp [h])) (upp_three ha hn (by rw [e]; exact ⟨[], t, rfl⟩))
theorem wide_rim {S : List P} (ha : Asc S) (h2 : 2 ≤ S.length) (hw : Wide S) : 3 ≤ (rim S).length := by
  have hn : S ≠ [] := fun e => by rw [e] at h2; simp at h2
  obtain ⟨m, z, L1, U1, hm, hz, hl, eL, eU, h1, eR⟩ := rim_shape ha h2
  rw [eR]
  cases L1 with
  | nil => cases h1
  | cons x L1 =>
    cases h1
    cases L1 with
    | cons y L1 => simp; omega
    | nil =>
      cases U1 with
      | cons y U1 => simp
      | nil =>
        exfalso
        have x1 := low_two ha hn (a := m) (b := z) (by rw [eL]; exact ⟨[], [], rfl⟩)
        have x2 := upp_two ha hn (a := z) (b := m) (by rw [eU]; exact ⟨[], [], rfl⟩)
        have all : ∀ q ∈ S, cr (sub z m) (sub q m) = 0 := fun q hq => by
          have := x1.2 q hq
          have := x2.2 q hq
          have e1 : det m z q = cr (sub z m) (sub q m) := rfl
          have e2 : det z m q = - cr (sub z m) (sub q m) := by unfold det cr sub; grind
          omega
        obtain ⟨p, q, r, hp, hq, hr, hd⟩ := hw
        refine hd ?_
        rw [det_cr]
        refine line_zero (pos_sub.mpr x1.1) ?_ ?_
        · have e : cr (sub z m) (sub q p) = cr (sub z m) (sub q m) - cr (sub z m) (sub p m) := by unfold cr sub; grind
          rw [e, all q hq, all p hp]; rfl
        · have e : cr (sub z m) (sub r p) = cr (sub z m) (sub r m) - cr (sub z m) (sub p m) := by unfold cr sub; grind
          rw [e, all r hr, all p hp]; rfl
def sc (c : Int) (a : P) : P := (c * a.1, c * a.2)
theorem det_sc (c : Int) (a b d : P) : det (sc c a) (sc c b) (sc c d) = c * c * det a b d := by unfold det sc; grind
theorem det_sc_pos {c : Int} (hc : 0 < c) (a b d : P) : 0 < det (sc c a) (sc c b) (sc c d) ↔ 0 < det a b d := by
  rw [det_sc]
  have : 0 < c * c := Int.mul_pos hc hc
  constructor
  · intro h
    rcases Int.lt_or_le 0 (det a b d) with z | z
    · exact z
    · have := Int.mul_nonpos_of_nonneg_of_nonpos (Int.le_of_lt this) z
      omega
  · exact Int.mul_pos this
theorem push_sc {c : Int} (hc : 0 < c) : ∀ (C : List P) (p : P), push (C.map (sc c)) (sc c p) = (push C p).map (sc c)
  | [], _ => rfl
  | [_], _ => rfl
  | t :: s :: r, p => by
    show (if 0 < det (sc c s) (sc c t) (sc c p) then _ else push ((s :: r).map (sc c)) (sc c p)) = _
    rw [push_sc hc (s :: r) p]
    show _ = (if 0 < det s t p then p :: t :: s :: r else push (s :: r) p).map (sc c)
    by_cases h : 0 < det s t p
    · rw [if_pos h, if_pos ((det_sc_pos hc s t p).mpr h)]; rfl
    · rw [if_neg h, if_neg (fun z => h ((det_sc_pos hc s t p).mp z))]
theorem chain_sc {c : Int} (hc : 0 < c) (T : List P) : chain (T.map (sc c)) = (chain T).map (sc c) := by
  have : ∀ (T C : List P), (T.map (sc c)).foldl push (C.map (sc c)) = (T.foldl push C).map (sc c) := by
    intro T
    induction T with
    | nil => exact fun _ => rfl
    | cons p T ih => exact fun C => by rw [List.map_cons, List.foldl_cons, List.foldl_cons, push_sc hc, ih]
  exact this T []
theorem rim_sc {c : Int} (hc : 0 < c) (T : List P) : rim (T.map (sc c)) = (rim T).map (sc c) := by
  unfold rim low upp
  rw [← List.map_reverse, chain_sc hc, chain_sc hc]
  simp [List.map_dropLast]
theorem lt_sc {c : Int} (hc : 0 < c) {a b : P} : lt (sc c a) (sc c b) ↔ lt a b := by
  unfold lt sc
  dsimp only
  have e : ∀ x y : Int, c * x < c * y ↔ x < y := fun x y => ⟨fun h => Int.lt_of_mul_lt_mul_left h (Int.le_of_lt hc), fun h => Int.mul_lt_mul_of_pos_left h hc⟩
  have e2 : ∀ x y : Int, c * x = c * y ↔ x = y := fun x y => ⟨fun h => Int.eq_of_mul_eq_mul_left (by omega) h, fun h => by rw [h]⟩
  rw [e, e, e2]
theorem sc_inj {c : Int} (hc : 0 < c) {a b : P} (h : sc c a = sc c b) : a = b := by
  unfold sc at h
  have h1 := congrArg Prod.fst h
  have h2 := congrArg Prod.snd h
  exact Prod.ext (Int.eq_of_mul_eq_mul_left (by omega) h1) (Int.eq_of_mul_eq_mul_left (by omega) h2)
theorem map_sc_inj {c : Int} (hc : 0 < c) : ∀ {S T : List P}, S.map (sc c) = T.map (sc c) → S = T
  | [], [], _ => rfl
  | [], _ :: _, h => by simp at h
  | _ :: _, [], h => by simp at h
  | a :: S, b :: T, h => by
    simp only [List.map_cons, List.cons.injEq] at h
    rw [sc_inj hc h.1, map_sc_inj hc h.2]
/-- rows in order with the same members -/
theorem asc_same : ∀ {S T : List P}, Asc S → Asc T → (∀ x, x ∈ S ↔ x ∈ T) → S = T
  | [], [], _, _, _ => rfl
  | [], b :: T, _, _, h => by have := (h b).mpr (by simp); cases this
  | a :: S, [], _, _, h => by have := (h a).mp (by simp); cases this
  | a :: S, b :: T, h1, h2, h => by
    have x1 := List.pairwise_cons.mp h1
    have x2 := List.pairwise_cons.mp h2
    have e : a = b := by
      rcases List.mem_cons.mp ((h a).mp (by simp)) with y | y
      · exact y
      · rcases List.mem_cons.mp ((h b).mpr (by simp)) with w | w
        · exact w.symm
        · exact absurd (lt_tr (x1.1 b w) (x2.1 a y)) lt_irr
    subst e
    rw [asc_same x1.2 x2.2 fun x => ⟨fun hx => ?_, fun hx => ?_⟩]
    · rcases List.mem_cons.mp ((h x).mp (List.mem_cons_of_mem _ hx)) with y | y
      · subst y; exact absurd (x1.1 x hx) lt_irr
      · exact y
    · rcases List.mem_cons.mp ((h x).mpr (List.mem_cons_of_mem _ hx)) with y | y
      · subst y; exact absurd (x2.1 x hx) lt_irr
      · exact y
end HU
/-! hulls as the program and the laws make them -/
namespace WF
open PySem PySem.Spec PyProof.Rows L2 PL
abbrev P := HU.P
abbrev dt (p : P) : D := .tuple [.int p.1, .int p.2]
abbrev cD (d : D) : Option Cell := some (.fz d)
abbrev cI (x : Int) : Option Cell := some (.fz (.int x))
theorem sSeq_nx {a b : M Out} {ρ ρ1 : PL.Env} {s s1 : S} (h : a ρ s = some (.nx ρ1, s1)) : sSeq a b ρ s = b ρ1 s1 := by
  unfold sSeq
  rw [h]
theorem sSeq_rt {a b : M Out} {ρ : PL.Env} {s s1 : S} {d : D} (h : a ρ s = some (.rt d, s1)) : sSeq a b ρ s = some (.rt d, s1) := by
  unfold sSeq
  rw [h]
theorem sSeq_bk {a b : M Out} {ρ ρ1 : PL.Env} {s s1 : S} (h : a ρ s = some (.bk ρ1, s1)) : sSeq a b ρ s = some (.bk ρ1, s1) := by
  unfold sSeq
  rw [h]
theorem sFor_at {it : M (List D)} {p : Pat} {body : M Out} {ρ : PL.Env} {s s1 : S} {xs : List D} (h : it ρ s = some (xs, s1)) : sFor it p body ρ s = forL p body xs ρ s1 := by
  unfold sFor
  rw [h]
theorem forL_nx {p : Pat} {body : M Out} {x : D} {xs : List D} {ρ ρ1 ρ2 : PL.Env} {s s1 s2 : S} (h1 : bnd p x ρ s = some (ρ1, s1)) (h2 : body ρ1 s1 = some (.nx ρ2, s2)) : forL p body (x :: xs) ρ s = forL p body xs ρ2 s2 := by
  conv => lhs; unfold forL
  rw [h1]
  simp only [h2]
theorem fnM_rt {n N : Nat} {body : M Out} {ds : List D} {s s' : S} {d : D} (hl : ds.length = n) (h : body (startE N ds) s = some (.rt d, s')) : fnM n N body ds s = some (d, s') := by
  unfold fnM
  rw [if_pos hl, h]
theorem whL_nx {c : M Bool} {b : M Out} {n : Nat} {ρ ρ2 : PL.Env} {s s1 s2 : S} (h1 : c ρ s = some (true, s1)) (h2 : b ρ s1 = some (.nx ρ2, s2)) : whL c b (n + 1) ρ s = whL c b n ρ2 s2 := by
  conv => lhs; unfold whL
  simp only [h1, h2]
theorem whL_bk {c : M Bool} {b : M Out} {n : Nat} {ρ ρ2 : PL.Env} {s s1 s2 : S} (h1 : c ρ s = some (true, s1)) (h2 : b ρ s1 = some (.bk ρ2, s2)) : whL c b (n + 1) ρ s = some (.nx ρ2, s2) := by
  conv => lhs; unfold whL
  simp only [h1, h2]
theorem whL_no {c : M Bool} {b : M Out} {n : Nat} {ρ : PL.Env} {s s1 : S} (h1 : c ρ s = some (false, s1)) : whL c b (n + 1) ρ s = some (.nx ρ, s1) := by
  conv => lhs; unfold whL
  simp only [h1]
/-- what push leaves below the new top -/
def pops : List P → P → List P
  | t :: s :: r, p => if 0 < HU.det s t p then t :: s :: r else pops (s :: r) p
  | C, _ => C
theorem push_pops : ∀ (C : List P) (p : P), HU.push C p = p :: pops C p
  | [], _ => rfl
  | [_], _ => rfl
  | t :: s :: r, p => by
    unfold HU.push pops
    by_cases h : 0 < HU.det s t p
    · rw [if_pos h, if_pos h]
    · rw [if_neg h, if_neg h]; exact push_pops (s :: r) p
def own (C : List P) : List D := (C.map dt).reverse
theorem own_cons (t : P) (C : List P) : own (t :: C) = own C ++ [dt t] := by simp [own]
theorem own_len (C : List P) : (own C).length = C.length := by simp [own]
theorem at1 (t : P) (C : List P) : atI (own (t :: C)) (-1) = some (dt t) := by
  rw [own_cons]
  simp [atI, ixN]
  have : (-1 + (((own C).length : Int) + 1)).toNat = (own C).length := by omega
  rw [this, if_pos (by omega), Option.bind_some, List.getElem?_append_right (Nat.le_refl _), Nat.sub_self]
  rfl
theorem at2 (t s : P) (C : List P) : atI (own (t :: s :: C)) (-2) = some (dt s) := by
  rw [own_cons, own_cons]
  simp [atI, ixN]
  have : (-2 + (((own C).length : Int) + 2)).toNat = (own C).length := by omega
  rw [this, if_pos (by omega), Option.bind_some, List.getElem?_append_right (Nat.le_refl _), Nat.sub_self]
  rfl
def HE (S : D) (C : List P) (x y u v p q : Option Cell) : PL.Env := [cD S, some (.ow (own C)), x, y, u, v, p, q]
def Sm (k : Nat) (p : P) : Prop := Bi p.1 k ∧ Bi p.2 k
theorem hh_step {k : Nat} (hk : k < 100000) {S : D} {t s p : P} {r : List P} {u v c d : Option Cell} {st : PL.S} (bt : Sm k t) (bs : Sm k s) (bp : Sm k p) :
    ∃ u' v' c' d', lb_half_hull_0 (HE S (t :: s :: r) (cI p.1) (cI p.2) u v c d) st = some (if 0 < HU.det s t p then .bk (HE S (t :: s :: r) (cI p.1) (cI p.2) u' v' c' d') else .nx (HE S (s :: r) (cI p.1) (cI p.2) u' v' c' d'), st) := by
  refine ⟨cI s.1, cI s.2, cI t.1, cI t.2, ?_⟩
  have := bt.1
  have := bt.2
  have := bs.1
  have := bs.2
  have := bp.1
  have := bp.2
  have k1 : dMul (.int (t.1 - s.1)) (.int (p.2 - s.2)) = _ := mulB (by omega)
  have k2 : dMul (.int (t.2 - s.2)) (.int (p.1 - s.1)) = _ := mulB (by omega)
  have a1 := at1 t (s :: r)
  have a2 := at2 t s r
  have e1 : sAsg (.tp [.tp [.nm 4, .nm 5], .tp [.nm 6, .nm 7]]) (mTup (aCons (mIxO 1 (m1 dNeg (mC (.int 2)))) (aCons (mIxO 1 (m1 dNeg (mC (.int 1)))) aNil))) (HE S (t :: s :: r) (cI p.1) (cI p.2) u v c d) st = some (.nx (HE S (t :: s :: r) (cI p.1) (cI p.2) (cI s.1) (cI s.2) (cI t.1) (cI t.2)), st) := by
    simp [HE, sAsg, mTup, aCons, aNil, mThen, mLift, mIxO, m1, mC, dNeg, owAt, iOf, a1, a2, isDs, isD, sizeLine_eq, bnd, bnds]
  unfold lb_half_hull_0
  rw [sSeq_nx e1]
  by_cases h : 0 < HU.det s t p
  · rw [if_pos h]
    have h : (t.2 - s.2) * (p.1 - s.1) < (t.1 - s.1) * (p.2 - s.2) := by unfold HU.det at h; omega
    simp [HE, sSeq, mIf, mB, m2, mThen, mLift, mVar, mC, dSub, k1, k2, dCmp, bOf, h, sBk]
  · rw [if_neg h]
    have h : ¬ (t.2 - s.2) * (p.1 - s.1) < (t.1 - s.1) * (p.2 - s.2) := by unfold HU.det at h; omega
    have e2 : (own (t :: s :: r)).dropLast = own (s :: r) := by rw [own_cons]; simp
    have e3 : own (t :: s :: r) ≠ [] := by rw [own_cons]; simp
    simp [HE, sSeq, mIf, mB, m2, mThen, mLift, mVar, mC, dSub, k1, k2, dCmp, bOf, h, sNx, sPop, owAt, e2, e3]
theorem hh_while {k : Nat} (hk : k < 100000) {S : D} {p : P} {st : PL.S} (bp : Sm k p) : ∀ (C : List P) (n : Nat) (u v c d : Option Cell), C.length < n → (∀ q ∈ C, Sm k q) →
    ∃ u' v' c' d', whL lc_half_hull_0 lb_half_hull_0 n (HE S C (cI p.1) (cI p.2) u v c d) st = some (.nx (HE S (pops C p) (cI p.1) (cI p.2) u' v' c' d'), st)
  | [], n + 1, u, v, c, d, _, _ => ⟨u, v, c, d, whL_no (by simp [lc_half_hull_0, HE, own, mB, m2, mLenO, owAt, mThen, mLift, mC, dCmp, bOf])⟩
  | [t], n + 1, u, v, c, d, _, _ => ⟨u, v, c, d, whL_no (by simp [lc_half_hull_0, HE, own, mB, m2, mLenO, owAt, mThen, mLift, mC, dCmp, bOf])⟩
  | t :: s :: r, n + 1, u, v, c, d, hn, hb => by
    have hc : lc_half_hull_0 (HE S (t :: s :: r) (cI p.1) (cI p.2) u v c d) st = some (true, st) := by
      have := own_len (t :: s :: r)
      simp [lc_half_hull_0, HE, mB, m2, mLenO, owAt, mThen, mLift, mC, dCmp, bOf, this]
      omega
    obtain ⟨u1, v1, c1, d1, e1⟩ := hh_step hk (S := S) (r := r) (u := u) (v := v) (c := c) (d := d) (st := st) (hb t (by simp)) (hb s (by simp)) bp
    unfold pops
    by_cases h : 0 < HU.det s t p
    · rw [if_pos h] at e1 ⊢
      exact ⟨u1, v1, c1, d1, whL_bk hc e1⟩
    · rw [if_neg h] at e1 ⊢
      rw [whL_nx hc e1]
      exact hh_while hk bp (s :: r) n u1 v1 c1 d1 (by simp at hn ⊢; omega) fun q hq => hb q (List.mem_cons_of_mem _ hq)
theorem pops_sub : ∀ (C : List P) (p : P), ∀ x ∈ pops C p, x ∈ C
  | [], _, x, h => h
  | [_], _, x, h => h
  | t :: s :: r, p, x, h => by
    unfold pops at h
    split at h
    · exact h
    · exact List.mem_cons_of_mem _ (pops_sub (s :: r) p x h)
theorem pops_len : ∀ (C : List P) (p : P), (pops C p).length ≤ C.length
  | [], _ => Nat.le_refl _
  | [_], _ => Nat.le_refl _
  | t :: s :: r, p => by
    unfold pops
    split
    · exact Nat.le_refl _
    · have := pops_len (s :: r) p
      simp at this ⊢
      omega
theorem hh_turn {k : Nat} (hk : k < 100000) {S : D} {p : P} {st : PL.S} {C : List P} {u v c d : Option Cell} (bp : Sm k p) (hb : ∀ q ∈ C, Sm k q) (hl : C.length < 10000) :
    ∃ u' v' c' d', lb_half_hull_1 (HE S C (cI p.1) (cI p.2) u v c d) st = some (.nx (HE S (HU.push C p) (cI p.1) (cI p.2) u' v' c' d'), st) := by
  have ht : t_half_hull_0 (HE S C (cI p.1) (cI p.2) u v c d) st = C.length + 1 := by
    simp [t_half_hull_0, HE, owAt, own_len]
  obtain ⟨u1, v1, c1, d1, e1⟩ := hh_while hk (S := S) (st := st) bp C (C.length + 1) u v c d (by omega) hb
  refine ⟨u1, v1, c1, d1, ?_⟩
  have e2 : sWh t_half_hull_0 lc_half_hull_0 lb_half_hull_0 (HE S C (cI p.1) (cI p.2) u v c d) st = some (.nx (HE S (pops C p) (cI p.1) (cI p.2) u1 v1 c1 d1), st) := by
    unfold sWh
    rw [ht]
    exact e1
  unfold lb_half_hull_1
  rw [sSeq_nx e2, push_pops]
  clear e1 e2 ht
  have h1 : (own (pops C p)).length < sizeLine := by
    rw [own_len, sizeLine_eq]
    have := pops_len C p
    omega
  simp [HE, sApp, mTup, aCons, aNil, mThen, mLift, mVar, isDs, isD, sizeLine_eq, owAt, own_cons] 
  rw [own_len]
  have := pops_len C p
  omega
theorem push_len (C : List P) (p : P) : (HU.push C p).length ≤ C.length + 1 := by
  rw [push_pops]
  have := pops_len C p
  simp
  omega
theorem push_sub (C : List P) (p : P) : ∀ x ∈ HU.push C p, x = p ∨ x ∈ C := fun x h => by
  rw [push_pops] at h
  rcases List.mem_cons.mp h with e | e
  · exact .inl e
  · exact .inr (pops_sub C p x e)
theorem hh_loop {k : Nat} (hk : k < 100000) {S : D} {st : PL.S} : ∀ (T C : List P) (x y u v c d : Option Cell), (∀ q ∈ T, Sm k q) → (∀ q ∈ C, Sm k q) → C.length + T.length < 10000 →
    ∃ x' y' u' v' c' d', forL (.tp [.nm 2, .nm 3]) lb_half_hull_1 (T.map dt) (HE S C x y u v c d) st = some (.nx (HE S (T.foldl HU.push C) x' y' u' v' c' d'), st)
  | [], C, x, y, u, v, c, d, _, _, _ => ⟨x, y, u, v, c, d, rfl⟩
  | p :: T, C, x, y, u, v, c, d, hT, hC, hl => by
    obtain ⟨u1, v1, c1, d1, e1⟩ := hh_turn hk (S := S) (st := st) (u := u) (v := v) (c := c) (d := d) (hT p (by simp)) hC (by simp at hl; omega)
    have e0 : bnd (.tp [.nm 2, .nm 3]) (dt p) (HE S C x y u v c d) st = some (HE S C (cI p.1) (cI p.2) u v c d, st) := by simp [bnd, bnds, HE]
    rw [List.map_cons, forL_nx e0 e1]
    refine hh_loop hk T (HU.push C p) _ _ u1 v1 c1 d1 (fun q hq => hT q (List.mem_cons_of_mem _ hq)) (fun q hq => ?_) ?_
    · rcases push_sub C p q hq with e | e
      · rw [e]; exact hT p (by simp)
      · exact hC q e
    · have := push_len C p
      simp at hl
      omega
theorem e_half_hull {k : Nat} (hk : k < 100000) {S : D} {T : List P} {st : PL.S} (hS : itOf S = some (T.map dt)) (hT : ∀ q ∈ T, Sm k q) (hl : T.length < 10000) :
    f_half_hull [S] st = some (.list ((HU.chain T).reverse.map dt), st) := by
  obtain ⟨x, y, u, v, c, d, e1⟩ := hh_loop hk (S := S) (st := st) T [] none none none none none none hT (by simp) (by simp; exact hl)
  have e0 : sOwn 1 (mLst aNil) (startE 8 [S]) st = some (.nx (HE S [] none none none none none none), st) := by
    simp [sOwn, mLst, aNil, mThen, mLift, isDs, startE, HE, own, List.replicate]
  have e2 : sFor (mIt (mVar 0)) (.tp [.nm 2, .nm 3]) lb_half_hull_1 (HE S [] none none none none none none) st = _ := (sFor_at (by simp [mIt, mThen, mVar, HE, mLift, hS])).trans e1
  refine fnM_rt rfl ?_
  unfold g_half_hull
  rw [sSeq_nx e0, sSeq_nx e2]
  have e3 : own (List.foldl HU.push [] T) = (HU.chain T).reverse.map dt := by
    unfold own HU.chain
    rw [List.map_reverse]
  simp [sFrz, frz, HE, sRet, mVar, mThen, mLift, e3]
end WF
/-! hulls as the laws make them -/
namespace WF
open PySem PySem.Spec PyProof.Rows L2 PL
theorem e_bend {k : Nat} (hk : k < 100000) {s t p : P} {st : PL.S} (bs : Sm k s) (bt : Sm k t) (bp : Sm k p) : f__law_bend [dt s, dt t, dt p] st = some (.int (HU.det s t p), st) := by
  have := bt.1
  have := bt.2
  have := bs.1
  have := bs.2
  have := bp.1
  have := bp.2
  have k1 : dMul (.int (t.1 - s.1)) (.int (p.2 - s.2)) = _ := mulB (by omega)
  have k2 : dMul (.int (t.2 - s.2)) (.int (p.1 - s.1)) = _ := mulB (by omega)
  simp [f__law_bend, fnM, g__law_bend, startE, sRet, m2, mThen, mLift, mVar, mC, dIx, atI, ixN, dSub, k1, k2, HU.det]
def LE (S : D) (C : List P) (x : Option Cell) : PL.Env := [cD S, some (.ow (own C)), x]
theorem lh_cond {k : Nat} (hk : k < 100000) {S : D} {t s p : P} {r : List P} {st : PL.S} (bt : Sm k t) (bs : Sm k s) (bp : Sm k p) : lc__law_chain_0 (LE S (t :: s :: r) (cD (dt p))) st = some (decide (HU.det s t p ≤ 0), st) := by
  have a1 := at1 t (s :: r)
  have a2 := at2 t s r
  have hl : (1 : Int) < (own (t :: s :: r)).length := by
    rw [own_len]
    simp
    omega
  simp [lc__law_chain_0, LE, mAnd, mIf, mB, m2, mLenO, owAt, mThen, mLift, mC, dCmp, bOf, hl, mF, aCons, aNil, mIxO, m1, dNeg, iOf, a1, a2, mVar, e_bend hk bs bt bp]
theorem lh_pop {S : D} {t s : P} {r : List P} {x : Option Cell} {st : PL.S} : lb__law_chain_0 (LE S (t :: s :: r) x) st = some (.nx (LE S (s :: r) x), st) := by
  have e2 : (own (t :: s :: r)).dropLast = own (s :: r) := by rw [own_cons]; simp
  have e3 : own (t :: s :: r) ≠ [] := by rw [own_cons]; simp
  simp [lb__law_chain_0, LE, sPop, owAt, e2, e3]
theorem lh_while {k : Nat} (hk : k < 100000) {S : D} {p : P} {st : PL.S} (bp : Sm k p) : ∀ (C : List P) (n : Nat), C.length < n → (∀ q ∈ C, Sm k q) →
    whL lc__law_chain_0 lb__law_chain_0 n (LE S C (cD (dt p))) st = some (.nx (LE S (pops C p) (cD (dt p))), st)
  | [], n + 1, _, _ => whL_no (by simp [lc__law_chain_0, LE, own, mAnd, mIf, mB, m2, mLenO, owAt, mThen, mLift, mC, dCmp, bOf, qC])
  | [t], n + 1, _, _ => whL_no (by simp [lc__law_chain_0, LE, own, mAnd, mIf, mB, m2, mLenO, owAt, mThen, mLift, mC, dCmp, bOf, qC])
  | t :: s :: r, n + 1, hn, hb => by
    have hc := lh_cond hk (S := S) (r := r) (st := st) (hb t (by simp)) (hb s (by simp)) bp
    unfold pops
    by_cases h : 0 < HU.det s t p
    · rw [if_pos h]
      rw [show decide (HU.det s t p ≤ 0) = false by simp; omega] at hc
      exact whL_no hc
    · rw [if_neg h]
      rw [show decide (HU.det s t p ≤ 0) = true by simp; omega] at hc
      rw [whL_nx hc lh_pop]
      exact lh_while hk bp (s :: r) n (by simp at hn ⊢; omega) fun q hq => hb q (List.mem_cons_of_mem _ hq)
theorem lh_turn {k : Nat} (hk : k < 100000) {S : D} {p : P} {st : PL.S} {C : List P} (bp : Sm k p) (hb : ∀ q ∈ C, Sm k q) (hl : C.length < 10000) :
    lb__law_chain_1 (LE S C (cD (dt p))) st = some (.nx (LE S (HU.push C p) (cD (dt p))), st) := by
  have ht : t__law_chain_0 (LE S C (cD (dt p))) st = C.length + 1 := by
    simp [t__law_chain_0, LE, owAt, own_len]
  have e2 : sWh t__law_chain_0 lc__law_chain_0 lb__law_chain_0 (LE S C (cD (dt p))) st = some (.nx (LE S (pops C p) (cD (dt p))), st) := by
    unfold sWh
    rw [ht]
    exact lh_while hk bp C (C.length + 1) (by omega) hb
  unfold lb__law_chain_1
  rw [sSeq_nx e2, push_pops]
  clear e2 ht
  simp [LE, sApp, mVar, mThen, mLift, isD, sizeLine_eq, owAt, own_cons]
  rw [own_len]
  have := pops_len C p
  omega
theorem lh_loop {k : Nat} (hk : k < 100000) {S : D} {st : PL.S} : ∀ (T C : List P) (x : Option Cell), (∀ q ∈ T, Sm k q) → (∀ q ∈ C, Sm k q) → C.length + T.length < 10000 →
    ∃ x', forL (.nm 2) lb__law_chain_1 (T.map dt) (LE S C x) st = some (.nx (LE S (T.foldl HU.push C) x'), st)
  | [], C, x, _, _, _ => ⟨x, rfl⟩
  | p :: T, C, x, hT, hC, hl => by
    have e1 := lh_turn hk (S := S) (st := st) (hT p (by simp)) hC (by simp at hl; omega)
    have e0 : bnd (.nm 2) (dt p) (LE S C x) st = some (LE S C (cD (dt p)), st) := by simp [bnd, LE]
    rw [List.map_cons, forL_nx e0 e1]
    refine lh_loop hk T (HU.push C p) _ (fun q hq => hT q (List.mem_cons_of_mem _ hq)) (fun q hq => ?_) ?_
    · rcases push_sub C p q hq with e | e
      · rw [e]; exact hT p (by simp)
      · exact hC q e
    · have := push_len C p
      simp at hl
      omega
theorem e_chain {k : Nat} (hk : k < 100000) {S : D} {T : List P} {st : PL.S} (hS : itOf S = some (T.map dt)) (hT : ∀ q ∈ T, Sm k q) (hl : T.length < 10000) :
    f__law_chain [S] st = some (.list ((HU.chain T).reverse.map dt), st) := by
  obtain ⟨x, e1⟩ := lh_loop hk (S := S) (st := st) T [] none hT (by simp) (by simp; exact hl)
  have e0 : sOwn 1 (mLst aNil) (startE 3 [S]) st = some (.nx (LE S [] none), st) := by
    simp [sOwn, mLst, aNil, mThen, mLift, isDs, startE, LE, own, List.replicate]
  have e2 : sFor (mIt (mVar 0)) (.nm 2) lb__law_chain_1 (LE S [] none) st = _ := (sFor_at (by simp [mIt, mThen, mVar, LE, mLift, hS])).trans e1
  refine fnM_rt rfl ?_
  unfold g__law_chain
  rw [sSeq_nx e0, sSeq_nx e2]
  have e3 : own (List.foldl HU.push [] T) = (HU.chain T).reverse.map dt := by
    unfold own HU.chain
    rw [List.map_reverse]
  simp [sFrz, frz, LE, sRet, mVar, mThen, mLift, e3]
end WF
/-! the laws' sack, draws, least terms -/
namespace WF
open PySem PySem.Spec PyProof.Rows L2 PL
def Sk (n : Nat) (s : S) : Prop := ∃ a b c : Int, s = [.int a, .int b, .int c] ∧ 0 ≤ a ∧ 0 ≤ b ∧ b < 2147483543 ∧ 0 ≤ c ∧ c ≤ n
theorem Sk.mono {n m : Nat} {s : S} (h : Sk n s) (l : n ≤ m) : Sk m s := by
  obtain ⟨a, b, c, e, h1, h2, h3, h4, h5⟩ := h
  exact ⟨a, b, c, e, h1, h2, h3, h4, by omega⟩
theorem biOf {x : Int} {n : Nat} (h0 : 0 ≤ x) (h : x < 2 ^ n) : Bi x n := ⟨by
  have : (x.natAbs : Int) = x := by omega
  have h2 : ((x.natAbs : Nat) : Int) < ((2 ^ n : Nat) : Int) := by rw [this]; push_cast; exact h
  exact Int.ofNat_lt.mp h2⟩
theorem bi31 {x : Int} (h0 : 0 ≤ x) (h : x < 2147483648) : Bi x 31 := biOf h0 (by
  have : (2 : Int) ^ 31 = 2147483648 := by decide
  omega)
theorem biAbs {x : Int} {n : Nat} (h : x.natAbs < 2 ^ n) : Bi x n := ⟨h⟩
theorem e_draw {n : Nat} {s : S} {z : Int} (h : Sk n s) (hn : n ≤ 1000000) (z0 : 0 < z) (z1 : z < 1073741824) : ∃ i s', f__law_draw [SACK, .int z] s = some (.int i, s') ∧ 0 ≤ i ∧ i < z ∧ Sk (n + 1) s' := by
  obtain ⟨a, b, c, rfl, ha, hb, hb2, hc, hc2⟩ := h
  by_cases h0 : 0 < a
  · refine ⟨a % z, [.int (a / z), .int b, .int c], ?_, Int.emod_nonneg _ (by omega), Int.emod_lt_of_pos _ z0, a / z, b, c, rfl, Int.ediv_nonneg ha (by omega), hb, hb2, hc, by omega⟩
    simp [f__law_draw, fnM, g__law_draw, startE, sSeq, mIf, mB, m2, mThen, mLift, mSk, SACK, mC, dCmp, bOf, h0, sAsg, mCall, aCons, aNil, mVar, bDivmod, z0, z1, bnd, bnds, isD, sRet]
  · have b16 : Bi 16807 31 := biAbs (by decide)
    have b48 : Bi 48611 31 := biAbs (by decide)
    have b11 : Bi 11 31 := biAbs (by decide)
    have b523 : Bi 523 31 := biAbs (by decide)
    have hbb := bi31 hb (by omega)
    have hcc := bi31 (by omega : 0 ≤ c + 1) (by omega)
    have m1' : dMul (.int b) (.int 16807) = _ := mulB (by decide)
    have m2' : dMul (.int (c + 1)) (.int 48611) = _ := mulB (by decide)
    have md1 : dMod (.int (b * 16807 + (c + 1) * 48611)) (.int 2147483543) = _ := modB (by decide)
    generalize hx : (b * 16807 + (c + 1) * 48611) % 2147483543 = x at md1
    have hx0 : 0 ≤ x := by rw [← hx]; exact Int.emod_nonneg _ (by decide)
    have hx1 : x < 2147483543 := by rw [← hx]; exact Int.emod_lt_of_pos _ (by decide)
    have dv : dDiv (.int x) (.int 11) = _ := divB (by decide) (by decide)
    have md2 : dMod (.int (x / 11)) (.int 3001) = _ := modB (by decide)
    generalize hy : x / 11 % 3001 = y at md2
    have hy0 : 0 ≤ y := by rw [← hy]; exact Int.emod_nonneg _ (by decide)
    have hy1 : y < 3001 := by rw [← hy]; exact Int.emod_lt_of_pos _ (by decide)
    have hxx := bi31 hx0 (by omega)
    have hyy := bi31 (by omega : 0 ≤ y + 10007) (by omega)
    have m3 : dMul (.int x) (.int (y + 10007)) = _ := mulB (by decide)
    have md3 : dMod (.int (x * (y + 10007) + 29)) (.int 2147483543) = _ := modB (by decide)
    generalize hw : (x * (y + 10007) + 29) % 2147483543 = w at md3
    have hw0 : 0 ≤ w := by rw [← hw]; exact Int.emod_nonneg _ (by decide)
    have hw1 : w < 2147483543 := by rw [← hw]; exact Int.emod_lt_of_pos _ (by decide)
    have dv2 : dDiv (.int w) (.int 523) = _ := divB (by decide) (by decide)
    have md4 : dMod (.int (w / 523)) (.int z) = _ := modB z0
    refine ⟨w / 523 % z, [.int a, .int w, .int (c + 1)], ?_, Int.emod_nonneg _ (by omega), Int.emod_lt_of_pos _ z0, a, w, c + 1, rfl, ha, hw0, hw1, by omega, by omega⟩
    simp [f__law_draw, fnM, g__law_draw, startE, sSeq, mIf, mB, m2, mThen, mLift, mSk, SACK, mC, dCmp, bOf, h0, sNx, sAsg, mCall, aCons, aNil, mVar, bnd, bnds, isD, sRet, dAdd, m1', m2', md1, bInt, dv, md2, m3, md3, dv2, md4]
theorem atI_nat' {ds : List D} {i : Int} (h0 : 0 ≤ i) (h1 : i < ds.length) : ∃ d, atI ds i = some d ∧ d ∈ ds := by
  have hl : i.toNat < ds.length := by omega
  refine ⟨ds[i.toNat], ?_, List.getElem_mem hl⟩
  unfold atI ixN
  simp [h0, h1, hl]
/-- one of some -/
theorem e_one {n : Nat} {s : S} {x : D} {ds : List D} (h : Sk n s) (hn : n ≤ 1000000) (hx : itOf x = some ds) (h0 : ds ≠ []) (h1 : ds.length < 10000) : ∃ d ∈ ds, ∃ s', f__law_one [SACK, x] s = some (d, s') ∧ Sk (n + 1) s' := by
  have z0 : (0 : Int) < ds.length := by
    cases ds with
    | nil => exact absurd rfl h0
    | cons _ _ => simp
  obtain ⟨i, s', e, i0, i1, k⟩ := e_draw h hn z0 (by omega)
  obtain ⟨d, hd, hm⟩ := atI_nat' i0 i1
  refine ⟨d, hm, s', ?_, k⟩
  cases x with
  | list es =>
    cases hx
    simp [f__law_one, g__law_one, fnM, startE, sRet, m2, mThen, mLift, mVar, mF, aCons, aNil, mCall, bLen, e, dIx, hd]
  | tuple es =>
    cases hx
    simp [f__law_one, g__law_one, fnM, startE, sRet, m2, mThen, mLift, mVar, mF, aCons, aNil, mCall, bLen, e, dIx, hd]
  | _ => cases hx
/-! Euclid -/
theorem gcdI_step {a b : Int} (ha : 0 ≤ a) (hb : 0 < b) : gcdI b (a % b) = gcdI a b := by
  unfold gcdI
  congr 1
  rw [Int.natAbs_emod_of_nonneg ha, Nat.gcd_comm a.natAbs b.natAbs]
  rw [Nat.gcd_comm b.natAbs (a.natAbs % b.natAbs), ← Nat.gcd_rec]
def GE (a b : Int) : PL.Env := [cI a, cI b]
theorem gcd_while {s : S} : ∀ (n : Nat) (a b : Int), 0 ≤ a → 0 ≤ b → b.natAbs < n → whL lc__law_gcd_0 lb__law_gcd_0 n (GE a b) s = some (.nx (GE (gcdI a b) 0), s)
  | 0, _, _, _, _, h => by omega
  | n + 1, a, b, ha, hb, h => by
    by_cases z : b = 0
    · subst z
      have e : gcdI a 0 = a := by unfold gcdI; simp; omega
      rw [e]
      exact whL_no (by simp [lc__law_gcd_0, GE, mB, m2, mThen, mLift, mVar, mC, neI, bOf])
    · have e1 : lc__law_gcd_0 (GE a b) s = some (true, s) := by simp [lc__law_gcd_0, GE, mB, m2, mThen, mLift, mVar, mC, neI, bOf, z]
      have md : dMod (.int a) (.int b) = _ := modB (by omega)
      have e2 : lb__law_gcd_0 (GE a b) s = some (.nx (GE b (a % b)), s) := by simp [lb__law_gcd_0, GE, sPar, aCons, aNil, m2, mThen, mLift, mVar, mCall, bInt, md, isD]
      have l0 := Int.emod_nonneg a z
      have l1 := Int.emod_lt_of_pos a (by omega : 0 < b)
      rw [whL_nx e1 e2, gcd_while n b (a % b) hb l0 (by omega), gcdI_step ha (by omega)]
theorem gcdI_abs {a b : Int} : gcdI (a.natAbs : Int) (b.natAbs : Int) = gcdI a b := by
  unfold gcdI
  simp
theorem abs_is {a : Int} : (if a < 0 then -a else a) = (a.natAbs : Int) := by split <;> omega
theorem e_gcd {a b : Int} {s : S} : f__law_gcd [.int a, .int b] s = some (.int (gcdI a b), s) := by
  refine fnM_rt rfl ?_
  have e0 : sPar 0 1 (aCons (mCall bAbs (aCons (mVar 0) aNil)) (aCons (mCall bAbs (aCons (mVar 1) aNil)) aNil)) (startE 2 [.int a, .int b]) s = some (.nx (GE a.natAbs b.natAbs), s) := by
    simp [sPar, startE, aCons, aNil, mCall, mThen, mLift, mVar, bAbs, GE, isD, abs_is]
  have e1 : sWh t__law_gcd_0 lc__law_gcd_0 lb__law_gcd_0 (GE a.natAbs b.natAbs) s = some (.nx (GE (gcdI a b) 0), s) := by
    unfold sWh
    have ht : t__law_gcd_0 (GE a.natAbs b.natAbs) s = b.natAbs + 1 := by simp [t__law_gcd_0, GE]
    rw [ht, gcd_while _ _ _ (by omega) (by omega) (by omega), gcdI_abs]
  unfold g__law_gcd
  rw [sSeq_nx e0, sSeq_nx e1]
  simp [GE, sRet, mThen, mLift, mVar]
theorem gcd_two {a b c : Int} : gcdI (gcdI a b) c = gcdI3 a b c := by
  unfold gcdI gcdI3
  simp
theorem e_spot {x y w : Int} {s : S} {m : Nat} (hw : 0 < w) [p : Bi w m] (hm : m < 8999) : f__law_spot [.int x, .int y, .int w] s = some (nm3 x y w, s) := by
  have h2 := gcd3_pos (a := x) (b := y) hw
  have i1 := gcd3_bi (a := x) (b := y) hw p
  have h3 : ∀ z, dDiv (.int z) (.int (gcdI3 x y w)) = some (.int (z / gcdI3 x y w)) := fun z => divB h2 hm
  unfold nm3
  simp [f__law_spot, g__law_spot, fnM, startE, sSeq, sAsg, bnd, bnds, mThen, mLift, mVar, m1, m2, mC, mF, aCons, aNil, mCall, mTup, isDs, isD, mIf, mB, bOf, mNot, mOr, mAnd, mAndV, mOrV, qC, sNx, sRet, sEx, dIx, atI, ixN, dCmp, dAdd, dSub, dNeg, dNot, dIs, isT, bInt, bAbs, bLen, mL, mLst, mIt, itOf, sizeLine_eq, e_gcd, gcd_two, h3]
end WF
/-! comprehensions, the law's boats -/
namespace WF
open PySem PySem.Spec PyProof.Rows L2 PL PLS
theorem lcGo_map {α : Type} {p : Pat} {f : M D} {ρ0 : PL.Env} {enc g : α → D} {s : S} : ∀ (xs : List α), (∀ x ∈ xs, ∃ ρ1, bnd p (enc x) ρ0 s = some (ρ1, s) ∧ f ρ1 s = some (g x, s) ∧ isD (g x) = true) →
    lcGo p (qC true) f ρ0 (xs.map enc) s = some (xs.map g, s)
  | [], _ => rfl
  | x :: xs, h => by
    obtain ⟨ρ1, e1, e2, e3⟩ := h x (by simp)
    have ih := lcGo_map xs fun y hy => h y (List.mem_cons_of_mem _ hy)
    rw [List.map_cons, List.map_cons]
    conv => lhs; unfold lcGo
    simp only [e1, qC, e2, e3]
    rw [ih]
    rfl
theorem lcGo_fm {α : Type} {p : Pat} {c : M Bool} {f : M D} {ρ0 : PL.Env} {enc g : α → D} {b : α → Bool} {s : S} : ∀ (xs : List α), (∀ x ∈ xs, ∃ ρ1, bnd p (enc x) ρ0 s = some (ρ1, s) ∧ c ρ1 s = some (b x, s) ∧ (b x = true → f ρ1 s = some (g x, s) ∧ isD (g x) = true)) →
    lcGo p c f ρ0 (xs.map enc) s = some ((xs.filter b).map g, s)
  | [], _ => rfl
  | x :: xs, h => by
    obtain ⟨ρ1, e1, e2, e3⟩ := h x (by simp)
    have ih := lcGo_fm xs fun y hy => h y (List.mem_cons_of_mem _ hy)
    rw [List.map_cons]
    conv => lhs; unfold lcGo
    cases hb : b x with
    | true =>
      obtain ⟨e4, e5⟩ := e3 hb
      rw [hb] at e2
      simp only [e1, e2, e4, e5]
      rw [ih, List.filter_cons, hb]
      rfl
    | false =>
      rw [hb] at e2
      simp only [e1, e2]
      rw [ih, List.filter_cons, hb]
      rfl
theorem le_size {n : Nat} (h : n ≤ 10000) : n ≤ sizeLine := by rw [sizeLine_eq]; omega
theorem mLc_map {α : Type} {it : M (List D)} {vs : List Nat} {p : Pat} {f : M D} {ρ : PL.Env} {enc g : α → D} {s s0 : S} {xs : List α} (hit : it ρ s0 = some (xs.map enc, s)) (hl : xs.length ≤ 10000)
    (h : ∀ x ∈ xs, ∃ ρ1, bnd p (enc x) (wipeE ρ vs) s = some (ρ1, s) ∧ f ρ1 s = some (g x, s) ∧ isD (g x) = true) : mLc it vs p (qC true) f ρ s0 = some (xs.map g, s) := by
  unfold mLc
  rw [hit]
  show (if (xs.map enc).length ≤ sizeLine then _ else _) = _
  rw [List.length_map, if_pos (le_size hl)]
  exact lcGo_map xs h
theorem mLc_fm {α : Type} {it : M (List D)} {vs : List Nat} {p : Pat} {c : M Bool} {f : M D} {ρ : PL.Env} {enc g : α → D} {b : α → Bool} {s s0 : S} {xs : List α} (hit : it ρ s0 = some (xs.map enc, s)) (hl : xs.length ≤ 10000)
    (h : ∀ x ∈ xs, ∃ ρ1, bnd p (enc x) (wipeE ρ vs) s = some (ρ1, s) ∧ c ρ1 s = some (b x, s) ∧ (b x = true → f ρ1 s = some (g x, s) ∧ isD (g x) = true)) : mLc it vs p c f ρ s0 = some ((xs.filter b).map g, s) := by
  unfold mLc
  rw [hit]
  show (if (xs.map enc).length ≤ sizeLine then _ else _) = _
  rw [List.length_map, if_pos (le_size hl)]
  exact lcGo_fm xs h
theorem itOf_isD' {X : D} {xs : List D} (h : itOf X = some xs) : isD X = true := by cases X <;> first | rfl | cases h
/-- a row's points over m, in least terms -/
abbrev said (R : List P) (m : Int) : D := .tuple (R.map fun r => nm3 r.1 r.2 m)
theorem e_said {R : List P} {m : Int} {X : D} {s : S} {j : Nat} (hX : itOf X = some (R.map dt)) (hm : 0 < m) [Bi m j] (hj : j < 8999) (hl : R.length ≤ 10000) : f__law_said [X, .int m] s = some (said R m, s) := by
  have e1 : mLc (mIt (mVar 0)) [2, 3] (.tp [.nm 2, .nm 3]) (qC true) le__law_said_0 (startE 4 [X, .int m]) s = some (R.map fun r => nm3 r.1 r.2 m, s) := by
    refine mLc_map (enc := dt) (by simp [startE, mIt, mThen, mVar, mLift, hX]) hl fun r _ => ⟨[cD X, cI m, cI r.1, cI r.2], by simp [startE, wipeE, bnd, bnds], ?_, rfl⟩
    simp [le__law_said_0, mF, aCons, aNil, mThen, mLift, mVar, e_spot hm hj]
  refine fnM_rt rfl ?_
  unfold g__law_said
  generalize mLc (mIt (mVar 0)) [2, 3] (.tp [.nm 2, .nm 3]) (qC true) le__law_said_0 = L at e1 ⊢
  simp [sRet, mCall, aCons, aNil, mThen, mLift, mL, e1, bTuple]
/-! sorted rows of points -/
theorem tD_dt (p : P) : tD [p.1, p.2] = dt p := rfl
def enK (p : P) : List Int := [p.1, p.2]
def deK (k : List Int) : P := (k.getD 0 0, k.getD 1 0)
theorem lex_lt {p q : P} (h : lexL (enK p) (enK q) = true) : HU.lt p q := by
  unfold enK lexL at h
  unfold HU.lt
  by_cases e : p.1 = q.1
  · rw [if_pos e] at h
    unfold lexL at h
    by_cases e2 : p.2 = q.2
    · rw [if_pos e2] at h
      unfold lexL at h
      cases h
    · rw [if_neg e2, decide_eq_true_eq] at h
      exact .inr ⟨e, h⟩
  · rw [if_neg e, decide_eq_true_eq] at h
    exact .inl h
theorem uniq_len : ∀ ks : List (List Int), (uniqS ks).length ≤ ks.length
  | [] => Nat.le_refl _
  | k :: ks => by
    unfold uniqS
    have := uniq_len ks
    split
    · simp; omega
    · simp; omega
theorem sort_pts (T : List P) : ∃ S : List P, HU.Asc S ∧ (∀ x, x ∈ S ↔ x ∈ T) ∧ S.length ≤ T.length ∧ (sortS (uniqS (T.map enK))).map tD = S.map dt := by
  have hk : ∀ k ∈ sortS (uniqS (T.map enK)), ∃ p ∈ T, k = enK p := fun k h => by
    have h2 := uniq_mem.mp ((sort_perm _).mem_iff.mp h)
    obtain ⟨p, hp, e⟩ := List.mem_map.mp h2
    exact ⟨p, hp, e.symm⟩
  have nd : (sortS (uniqS (T.map enK))).Nodup := (sort_perm _).nodup_iff.mpr (uniq_nodup _)
  have as := sort_asc (uniqS (T.map enK))
  have ln : (sortS (uniqS (T.map enK))).length ≤ T.length := by
    rw [(sort_perm _).length_eq]
    exact Nat.le_trans (uniq_len _) (by simp)
  have mem : ∀ p, enK p ∈ sortS (uniqS (T.map enK)) ↔ p ∈ T := fun p => by
    rw [(sort_perm _).mem_iff, uniq_mem, List.mem_map]
    refine ⟨fun ⟨q, hq, e⟩ => ?_, fun h => ⟨p, h, rfl⟩⟩
    have e1 : q.1 = p.1 := by unfold enK at e; simp at e; exact e.1
    have e2 : q.2 = p.2 := by unfold enK at e; simp at e; exact e.2
    have : q = p := Prod.ext e1 e2
    rw [← this]
    exact hq
  generalize sortS (uniqS (T.map enK)) = L at *
  have back : L = (L.map deK).map enK := by
    rw [List.map_map]
    conv => lhs; rw [← List.map_id L]
    refine List.map_congr_left fun k hk2 => ?_
    obtain ⟨p, _, e⟩ := hk k hk2
    subst e
    rfl
  generalize L.map deK = S at back
  subst back
  refine ⟨S, ?_, fun x => ?_, by simpa using ln, by rw [List.map_map]; rfl⟩
  · have h1 : S.Pairwise fun x y => lexL (enK y) (enK x) = false := by
      have := List.pairwise_map.mp as
      exact this
    have h2 : S.Pairwise fun x y => enK x ≠ enK y := List.pairwise_map.mp nd
    refine (h1.and h2).imp fun {p q} ⟨a, b⟩ => lex_lt ?_
    rcases lexL_tri (enK p) (enK q) with c | c | c
    · exact c
    · exact absurd c b
    · rw [a] at c; cases c
  · rw [← mem x, List.mem_map]
    refine ⟨fun h => ⟨x, h, rfl⟩, fun ⟨q, hq, e⟩ => ?_⟩
    have e1 : q.1 = x.1 := by unfold enK at e; simp at e; exact e.1
    have e2 : q.2 = x.2 := by unfold enK at e; simp at e; exact e.2
    have : q = x := Prod.ext e1 e2
    rw [← this]
    exact hq
theorem all_isTD (T : List P) : (T.map dt).all isTD = true := by
  rw [List.all_map, List.all_eq_true]
  intro x _
  rfl
theorem bk_dt (T : List P) : (T.map dt).map bkD = T.map enK := by
  rw [List.map_map]
  rfl
theorem srtU_pts {T : List P} (hl : T.length < 64) : ∃ S : List P, HU.Asc S ∧ (∀ x, x ∈ S ↔ x ∈ T) ∧ S.length ≤ T.length ∧ srtU (T.map dt) = some (S.map dt) := by
  obtain ⟨S, h1, h2, h4, h3⟩ := sort_pts T
  refine ⟨S, h1, h2, h4, ?_⟩
  unfold srtU
  rw [if_pos ⟨all_isTD T, by rw [List.length_map]; exact hl⟩, bk_dt, h3]
end WF
/-! the law's rims and boats -/
namespace WF
open PySem PySem.Spec PyProof.Rows L2 PL PLS
theorem cut_last (xs : List D) : PL.cutD xs none (some (-1)) = xs.dropLast := by
  show ((xs.drop 0).take ((if (-1 : Int) < 0 then ((-1 : Int) + (xs.length : Int)).toNat else min (-1 : Int).toNat xs.length) - 0)) = _
  rw [if_pos (by decide), List.drop_zero, Nat.sub_zero, List.dropLast_eq_take]
  congr 1
  omega
theorem itL (ds : List D) : itOf (.list ds) = some ds := rfl
theorem itT (ds : List D) : itOf (.tuple ds) = some ds := rfl
theorem chain_le (S : List P) : (HU.chain S).length ≤ S.length := by
  have h : ∀ (T C : List P), (T.foldl HU.push C).length ≤ C.length + T.length := by
    intro T
    induction T with
    | nil => intro C; simp
    | cons p T ih =>
      intro C
      have h1 := ih (HU.push C p)
      have h2 := push_len C p
      simp only [List.foldl_cons, List.length_cons]
      omega
  have := h S []
  simpa [HU.chain] using this
theorem rim_le (S : List P) : (HU.rim S).length ≤ 2 * S.length := by
  have h1 := chain_le S
  have h2 := chain_le S.reverse
  unfold HU.rim HU.low HU.upp
  simp only [List.length_append, List.length_dropLast, List.length_reverse] at *
  omega
/-- both chains, as the program and the law tell them -/
theorem two_chains {S : List P} : ((HU.chain S).reverse.map dt).dropLast ++ ((HU.chain S.reverse).reverse.map dt).dropLast = (HU.rim S).map dt := by
  unfold HU.rim HU.low HU.upp
  rw [List.map_append, List.map_dropLast, List.map_dropLast]
theorem e_rim {k : Nat} (hk : k < 100000) {T : List P} {st : PL.S} (hT : ∀ q ∈ T, Sm k q) (hl : T.length < 64) :
    ∃ S : List P, HU.Asc S ∧ (∀ x, x ∈ S ↔ x ∈ T) ∧ S.length ≤ T.length ∧ f__law_rim [.list (T.map dt)] st = some (.list ((if S.length < 3 then S else HU.rim S).map dt), st) := by
  obtain ⟨S, h1, h2, h4, h3⟩ := srtU_pts hl
  refine ⟨S, h1, h2, h4, ?_⟩
  have hS : ∀ q ∈ S, Sm k q := fun q hq => hT q ((h2 q).mp hq)
  refine fnM_rt rfl ?_
  have e0 : sAsg (.nm 1) (mL (mSrtU (mLo (mVar 0)))) (startE 2 [.list (T.map dt)]) st = some (.nx [cD (.list (T.map dt)), cD (.list (S.map dt))], st) := by
    simp [sAsg, startE, mL, mSrtU, mLo, mThen, mLift, mVar, bnd]
    rw [h3]
  unfold g__law_rim
  rw [sSeq_nx e0]
  by_cases hz : S.length < 3
  · rw [if_pos hz]
    have hi : ((S.length : Nat) : Int) < 3 := by omega
    simp [fnM, startE, sSeq, sAsg, bnd, bnds, mThen, mLift, mVar, m1, m2, mC, mF, aCons, aNil, mCall, mTup, isDs, isD, mIf, mB, bOf, mNot, mOr, mAnd, mAndV, mOrV, qC, sNx, sRet, sEx, dIx, atI, ixN, dCmp, dAdd, dSub, dNeg, dNot, dIs, isT, bInt, bAbs, bLen, mL, mLst, mIt, itOf, sizeLine_eq, hi]
  · rw [if_neg hz]
    have hi : ¬ ((S.length : Int) < 3) := by omega
    have c1 := e_chain hk (S := .list (S.map dt)) (T := S) (st := st) (itL _) hS (by omega)
    have c2 := e_chain hk (S := .list ((S.map dt).reverse)) (T := S.reverse) (st := st) (by rw [itL, List.map_reverse]) (fun q hq => hS q (List.mem_reverse.mp hq)) (by rw [List.length_reverse]; omega)
    have e1 : mIf (mB (m2 (dCmp fun i j => decide (i < j)) (mCall bLen (aCons (mVar 1) aNil)) (mC (.int 3)))) (sRet (mVar 1)) (sNx) [cD (.list (T.map dt)), cD (.list (S.map dt))] st = some (.nx [cD (.list (T.map dt)), cD (.list (S.map dt))], st) := by
      simp [fnM, startE, sSeq, sAsg, bnd, bnds, mThen, mLift, mVar, m1, m2, mC, mF, aCons, aNil, mCall, mTup, isDs, isD, mIf, mB, bOf, mNot, mOr, mAnd, mAndV, mOrV, qC, sNx, sRet, sEx, dIx, atI, ixN, dCmp, dAdd, dSub, dNeg, dNot, dIs, isT, bInt, bAbs, bLen, mL, mLst, mIt, itOf, sizeLine_eq, hi]
    rw [sSeq_nx e1]
    have a1 := chain_le S
    have a2 := chain_le S.reverse
    rw [List.length_reverse] at a2
    have hadd : dAdd (.list ((HU.chain S).reverse.map dt).dropLast) (.list ((HU.chain S.reverse).reverse.map dt).dropLast) = some (.list ((HU.rim S).map dt)) := by
      show (if _ then _ else _) = _
      rw [if_pos (le_size (by simp only [List.length_dropLast, List.length_map, List.length_reverse]; omega)), two_chains]
    generalize (HU.chain S).reverse.map dt = A at *
    generalize (HU.chain S.reverse).reverse.map dt = B at *
    simp [sRet, m2, mThen, mLift, mVar, mSl, mF, aCons, aNil, oNo, oSome, m1, dNeg, mC, c1, c2, dSl, mL, mRev, mLo, cut_last, hadd]
def Bx (c : Nat) (p : P) : Prop := p.1.natAbs ≤ c ∧ p.2.natAbs ≤ c
theorem Bx.mono {c d : Nat} {p : P} (h : Bx c p) (l : c ≤ d) : Bx d p := ⟨by have := h.1; omega, by have := h.2; omega⟩
theorem Bx.sm {c k : Nat} {p : P} (h : Bx c p) (l : c < 2 ^ k) : Sm k p := ⟨⟨by have := h.1; omega⟩, ⟨by have := h.2; omega⟩⟩
def BE (T : List P) (br tu wi hi x y rm : Option Cell) : PL.Env := [some (.fz SACK), some (.ow (T.map dt)), br, tu, wi, hi, x, y, rm]
theorem boat_step {n : Nat} {s : S} {T : List P} {br tu wi hi x y rm : Option Cell} (h : Sk n s) (hn : n + 2 ≤ 1000000) (hl : T.length < 30) :
    ∃ p s', lb__law_boat_0 (BE T br tu wi hi x y rm) s = some (.nx (BE (T ++ [p]) br tu wi hi x y rm), s') ∧ Bx 4 p ∧ Sk (n + 2) s' := by
  obtain ⟨i, s1, e1, i0, i1, k1⟩ := e_draw (z := 9) h (by omega) (by decide) (by decide)
  obtain ⟨j, s2, e2, j0, j1, k2⟩ := e_draw (z := 9) k1 (by omega) (by decide) (by decide)
  have hz : (T.map dt).length < sizeLine := by rw [List.length_map, sizeLine_eq]; omega
  rw [List.length_map] at hz
  refine ⟨(i - 4, j - 4), s2, ?_, ⟨by show (i - 4).natAbs ≤ 4; omega, by show (j - 4).natAbs ≤ 4; omega⟩, k2⟩
  simp [lb__law_boat_0, BE, sApp, mTup, aCons, aNil, m2, mThen, mLift, mF, mVar, mC, e1, e2, dSub, isDs, isD, owAt]
  rw [if_pos (le_size (by decide))]
  simp [hz]
theorem boat_loop {br wi hi x y rm : Option Cell} : ∀ (xs : List D) (n : Nat) (s : S) (T : List P) (tu : Option Cell), Sk n s → n + 2 * xs.length ≤ 1000000 → T.length + xs.length ≤ 30 →
    ∃ T' tu' s', forL (.nm 3) lb__law_boat_0 xs (BE T br tu wi hi x y rm) s = some (.nx (BE (T ++ T') br tu' wi hi x y rm), s') ∧ (∀ p ∈ T', Bx 4 p) ∧ T'.length = xs.length ∧ Sk (n + 2 * xs.length) s'
  | [], n, s, T, tu, h, _, _ => ⟨[], tu, s, by rw [List.append_nil]; rfl, by simp, rfl, h⟩
  | d :: xs, n, s, T, tu, h, hn, hl => by
    rw [List.length_cons] at hn hl
    obtain ⟨p, s1, e1, b1, k1⟩ := boat_step (br := br) (tu := cD d) (wi := wi) (hi := hi) (x := x) (y := y) (rm := rm) h (by omega) (by omega : T.length < 30)
    obtain ⟨T', tu', s2, e2, b2, l2, k2⟩ := boat_loop xs (n + 2) s1 (T ++ [p]) (cD d) k1 (by omega) (by rw [List.length_append, List.length_singleton]; omega)
    refine ⟨p :: T', tu', s2, ?_, ?_, by simp [l2], ?_⟩
    · have e0 : bnd (.nm 3) d (BE T br tu wi hi x y rm) s = some (BE T br (cD d) wi hi x y rm, s) := by simp [bnd, BE]
      rw [forL_nx e0 e1, e2, List.append_assoc]
      rfl
    · intro q hq
      rcases List.mem_cons.mp hq with z | z
      · rw [z]; exact b1
      · exact b2 q z
    · rw [List.length_cons]
      have : n + 2 * (xs.length + 1) = n + 2 + 2 * xs.length := by omega
      rw [this]
      exact k2
def boatMid : M Out := mIf (mB (m2 (dCmp fun i j => decide (i < j)) (mVar 2) (mC (.int 2)))) (sOwn 1 (mCat (mItO 1) (mLst (aCons (mTup (aCons (m2 dAdd (mC (.int 1)) (mVar 2)) (aCons (mC (.int 0)) aNil))) (aCons (mTup (aCons (m2 dSub (mC (.int 0)) (mVar 2)) (aCons (mC (.int 1)) aNil))) (aCons (mTup (aCons (m1 dNeg (mC (.int 1))) (aCons (m1 dNeg (mC (.int 1))) aNil))) aNil)))))) (mIf (mB (m2 (dEq) (mVar 2) (mC (.int 2)))) (sSeq (sAsg (.tp [.nm 4, .nm 5]) (mTup (aCons (mF f__law_one (aCons (mVar 0) (aCons (mTup (aCons (mC (.int 1)) (aCons (m1 dNeg (mC (.int 1))) aNil))) aNil))) (aCons (mF f__law_one (aCons (mVar 0) (aCons (mTup (aCons (mC (.int 1)) (aCons (m1 dNeg (mC (.int 1))) aNil))) aNil))) aNil)))) (sOwn 1 (mCat (mLc (mItO 1) [6, 7] (.tp [.nm 6, .nm 7]) (qC true) le__law_boat_1) (mLst (aCons (mTup (aCons (mVar 4) (aCons (mC (.int 0)) aNil))) (aCons (mTup (aCons (mVar 4) (aCons (m2 dMul (mC (.int 2)) (mVar 5)) aNil))) aNil)))))) (sNx))
theorem one_sign {n : Nat} {s : S} (h : Sk n s) (hn : n ≤ 1000000) : ∃ (w : Int) (s' : S), f__law_one [SACK, .tuple [.int 1, .int (-1)]] s = some (.int w, s') ∧ (w = 1 ∨ w = -1) ∧ Sk (n + 1) s' := by
  obtain ⟨d, hd, s', e, k⟩ := e_one h hn (itT [.int 1, .int (-1)]) (by simp) (by simp)
  rcases List.mem_cons.mp hd with z | z
  · subst z; exact ⟨1, s', e, .inl rfl, k⟩
  · rw [List.mem_singleton] at z
    subst z; exact ⟨-1, s', e, .inr rfl, k⟩
theorem boat_mid {n : Nat} {s : S} {T : List P} {b : Int} {tu : Option Cell} (h : Sk n s) (hn : n + 2 ≤ 1000000) (hl : T.length ≤ 20) (b0 : 0 ≤ b) (b5 : b < 5) (hT : ∀ p ∈ T, Bx 4 p) (h0 : (0, 0) ∈ T) :
    ∃ T' wi hi s', boatMid (BE T (cI b) tu none none none none none) s = some (.nx (BE T' (cI b) tu wi hi none none none), s') ∧ (∀ p ∈ T', Bx 4 p) ∧ (0, 0) ∈ T' ∧ T'.length ≤ T.length + 3 ∧ Sk (n + 2) s' := by
  have z2 : (2 : Nat) ≤ sizeLine := le_size (by decide)
  have z3 : (3 : Nat) ≤ sizeLine := le_size (by decide)
  by_cases c1 : b < 2
  · refine ⟨T ++ [(1 + b, 0), (0 - b, 1), (-1, -1)], none, none, s, ?_, ?_, List.mem_append_left _ h0, by simp, h.mono (by omega)⟩
    · have hz : T.length + 3 ≤ sizeLine := le_size (by omega)
      simp [boatMid, BE, mIf, mB, m2, mThen, mLift, mVar, mC, dCmp, bOf, c1, sOwn, mCat, mItO, owAt, mLst, aCons, aNil, mTup, dAdd, dSub, m1, dNeg, isDs, isD, z2, z3, hz]
    · intro p hp
      rcases List.mem_append.mp hp with q | q
      · exact hT p q
      · simp only [List.mem_cons, List.not_mem_nil, or_false] at q
        rcases q with q | q | q <;> subst q
        · exact ⟨by show (1 + b).natAbs ≤ 4; omega, by show (0 : Int).natAbs ≤ 4; decide⟩
        · exact ⟨by show (0 - b).natAbs ≤ 4; omega, by show (1 : Int).natAbs ≤ 4; decide⟩
        · exact ⟨by decide, by decide⟩
  · by_cases c2 : b = 2
    · subst c2
      obtain ⟨w, s1, e1, w1, k1⟩ := one_sign h (by omega)
      obtain ⟨v, s2, e2, v1, k2⟩ := one_sign k1 (by omega)
      have ww : w.natAbs = 1 := by omega
      have vv : v.natAbs = 1 := by omega
      have bw : Bi w 1 := ⟨by omega⟩
      have bv : Bi v 1 := ⟨by omega⟩
      have m2v : dMul (.int 2) (.int v) = _ := mulB (by decide)
      have hz : T.length + 2 ≤ sizeLine := le_size (by omega)
      refine ⟨T.map (fun p => (w * (p.1.natAbs : Int), v * (p.2.natAbs : Int))) ++ [(w, 0), (w, 2 * v)], cI w, cI v, s2, ?_, ?_, ?_, by simp, k2⟩
      · have q1 : sAsg (.tp [.nm 4, .nm 5]) (mTup (aCons (mF f__law_one (aCons (mVar 0) (aCons (mTup (aCons (mC (.int 1)) (aCons (m1 dNeg (mC (.int 1))) aNil))) aNil))) (aCons (mF f__law_one (aCons (mVar 0) (aCons (mTup (aCons (mC (.int 1)) (aCons (m1 dNeg (mC (.int 1))) aNil))) aNil))) aNil))) (BE T (cI 2) tu none none none none none) s = some (.nx (BE T (cI 2) tu (cI w) (cI v) none none none), s2) := by
          simp [BE, sAsg, mTup, aCons, aNil, mF, mThen, mLift, mVar, mC, m1, dNeg, isDs, isD, z2, e1, e2, bnd, bnds]
        have q2 : mLc (mItO 1) [6, 7] (.tp [.nm 6, .nm 7]) (qC true) le__law_boat_1 (BE T (cI 2) tu (cI w) (cI v) none none none) s2 = some ((T.map (fun p => dt (w * (p.1.natAbs : Int), v * (p.2.natAbs : Int)))), s2) := by
          refine mLc_map (enc := dt) (by simp [BE, mItO, owAt]) (by omega) fun p hp => ⟨[some (.fz SACK), some (.ow (T.map dt)), cI 2, tu, cI w, cI v, cI p.1, cI p.2, none], by simp [BE, wipeE, bnd, bnds], ?_, rfl⟩
          have bp := hT p hp
          have x1 : Bi (p.1.natAbs : Int) 3 := ⟨by have := bp.1; omega⟩
          have x2 : Bi (p.2.natAbs : Int) 3 := ⟨by have := bp.2; omega⟩
          have y1 : dMul (.int w) (.int (p.1.natAbs : Int)) = _ := mulB (by decide)
          have y2 : dMul (.int v) (.int (p.2.natAbs : Int)) = _ := mulB (by decide)
          simp [le__law_boat_1, mTup, aCons, aNil, m2, mThen, mLift, mVar, mCall, bAbs, abs_is, y1, y2, isDs, isD, z2]
        unfold boatMid
        generalize mLc (mItO 1) [6, 7] (.tp [.nm 6, .nm 7]) (qC true) le__law_boat_1 = L at q2 ⊢
        generalize sAsg (.tp [.nm 4, .nm 5]) _ = A at q1 ⊢
        have q0 : mIf (mB (m2 (dCmp fun i j => decide (i < j)) (mVar 2) (mC (.int 2)))) (sOwn 1 (mCat (mItO 1) (mLst (aCons (mTup (aCons (m2 dAdd (mC (.int 1)) (mVar 2)) (aCons (mC (.int 0)) aNil))) (aCons (mTup (aCons (m2 dSub (mC (.int 0)) (mVar 2)) (aCons (mC (.int 1)) aNil))) (aCons (mTup (aCons (m1 dNeg (mC (.int 1))) (aCons (m1 dNeg (mC (.int 1))) aNil))) aNil)))))) (mIf (mB (m2 (dEq) (mVar 2) (mC (.int 2)))) (sSeq A (sOwn 1 (mCat L (mLst (aCons (mTup (aCons (mVar 4) (aCons (mC (.int 0)) aNil))) (aCons (mTup (aCons (mVar 4) (aCons (m2 dMul (mC (.int 2)) (mVar 5)) aNil))) aNil)))))) (sNx)) (BE T (cI 2) tu none none none none none) s = sSeq A (sOwn 1 (mCat L (mLst (aCons (mTup (aCons (mVar 4) (aCons (mC (.int 0)) aNil))) (aCons (mTup (aCons (mVar 4) (aCons (m2 dMul (mC (.int 2)) (mVar 5)) aNil))) aNil))))) (BE T (cI 2) tu none none none none none) s := by
          simp [BE, mIf, mB, m2, mThen, mLift, mVar, mC, dCmp, bOf, eqI]
        rw [q0, sSeq_nx q1]
        simp only [sOwn, mCat, mThen, q2]
        simp [BE, mThen, mLift, mLst, aCons, aNil, mTup, mVar, mC, m2, m2v, isDs, isD, z2, hz]
      · intro p hp
        rcases List.mem_append.mp hp with q | q
        · obtain ⟨r, hr, e⟩ := List.mem_map.mp q
          subst e
          have b := hT r hr
          refine ⟨?_, ?_⟩
          · show (w * (r.1.natAbs : Int)).natAbs ≤ 4
            rw [Int.natAbs_mul, ww]
            have := b.1
            omega
          · show (v * (r.2.natAbs : Int)).natAbs ≤ 4
            rw [Int.natAbs_mul, vv]
            have := b.2
            omega
        · simp only [List.mem_cons, List.not_mem_nil, or_false] at q
          rcases q with q | q <;> subst q
          · exact ⟨by show w.natAbs ≤ 4; omega, by show (0 : Int).natAbs ≤ 4; decide⟩
          · exact ⟨by show w.natAbs ≤ 4; omega, by show (2 * v).natAbs ≤ 4; omega⟩
      · refine List.mem_append_left _ (List.mem_map.mpr ⟨(0, 0), h0, ?_⟩)
        simp
    · refine ⟨T, none, none, s, ?_, hT, h0, by omega, h.mono (by omega)⟩
      simp [boatMid, BE, mIf, mB, m2, mThen, mLift, mVar, mC, dCmp, bOf, c1, c2, eqI, sNx]
end WF
/-! a whole boat -/
namespace WF
open PySem PySem.Spec PyProof.Rows L2 PL PLS
/-- a rim, of dots of at most eight, nought among them -/
structure Rim (S R : List P) : Prop where
  asc : HU.Asc S
  eq : R = HU.rim S
  three : 3 ≤ R.length
  o : (0, 0) ∈ S
  bx : ∀ p ∈ S, Bx 4 p
  len : S.length ≤ 20
theorem Rim.two {S R : List P} (h : Rim S R) : 2 ≤ S.length := by
  have h1 := rim_le S
  have h2 := h.three
  rw [h.eq] at h2
  omega
theorem Rim.rd {S R : List P} (h : Rim S R) : HU.Rd S R := by
  rw [h.eq]
  exact HU.rim_rd h.asc h.two
theorem Rim.bR {S R : List P} (h : Rim S R) : ∀ p ∈ R, Bx 4 p := fun p hp => h.bx p (h.rd.sub p hp)
theorem Rim.lenR {S R : List P} (h : Rim S R) : R.length ≤ 40 := by
  have h1 := rim_le S
  have h2 := h.len
  rw [h.eq]
  omega
theorem boat_end {n : Nat} {s : S} {T : List P} {br tu wi hi : Option Cell} (h : Sk n s) (hn : n + 2 ≤ 1000000) (hl : T.length ≤ 10) (hT : ∀ p ∈ T, Bx 4 p) (h0 : (0, 0) ∈ T) :
    ∃ S R m s', sFrz 1 (sSeq (sAsg (.nm 8) (mF f__law_rim (aCons (mVar 1) aNil))) (sSeq (mIf (mB (m2 (dCmp fun i j => decide (i < j)) (mCall bLen (aCons (mVar 8) aNil)) (mC (.int 3)))) (sAsg (.nm 8) (mF f__law_rim (aCons (m2 dAdd (mVar 1) (mL (mLst (aCons (mTup (aCons (mC (.int 1)) (aCons (mC (.int 2)) aNil))) (aCons (mTup (aCons (mC (.int 2)) (aCons (m1 dNeg (mC (.int 1))) aNil))) aNil))))) aNil))) (sNx)) (sRet (mL (mLst (aCons (mVar 8) (aCons (m2 dAdd (mC (.int 1)) (mF f__law_draw (aCons (mVar 0) (aCons (mC (.int 3)) aNil)))) aNil))))))) (BE T br tu wi hi none none none) s = some (.rt (.list [.list (R.map dt), .int m]), s') ∧ Rim S R ∧ 1 ≤ m ∧ m ≤ 3 ∧ Sk (n + 1) s' := by
  have z2 : (2 : Nat) ≤ sizeLine := le_size (by decide)
  have sm : ∀ (T : List P), (∀ p ∈ T, Bx 4 p) → ∀ q ∈ T, Sm 3 q := fun T hT q hq => (hT q hq).sm (by decide)
  obtain ⟨S, h1, h2, h4, h3⟩ := e_rim (k := 3) (by decide) (st := s) (sm T hT) (by omega)
  obtain ⟨d, s1, e1, d0, d1, k1⟩ := e_draw (z := 3) h (by omega) (by decide) (by decide)
  have fin : ∀ S R : List P, Rim S R → (sSeq (sAsg (.nm 8) (mF f__law_rim (aCons (mVar 1) aNil))) (mIf (mB (m2 (dCmp fun i j => decide (i < j)) (mCall bLen (aCons (mVar 8) aNil)) (mC (.int 3)))) (sAsg (.nm 8) (mF f__law_rim (aCons (m2 dAdd (mVar 1) (mL (mLst (aCons (mTup (aCons (mC (.int 1)) (aCons (mC (.int 2)) aNil))) (aCons (mTup (aCons (mC (.int 2)) (aCons (m1 dNeg (mC (.int 1))) aNil))) aNil))))) aNil))) (sNx))) [some (.fz SACK), cD (.list (T.map dt)), br, tu, wi, hi, none, none, none] s = some (.nx [some (.fz SACK), cD (.list (T.map dt)), br, tu, wi, hi, none, none, cD (.list (R.map dt))], s) →
      ∃ S R m s', sFrz 1 (sSeq (sAsg (.nm 8) (mF f__law_rim (aCons (mVar 1) aNil))) (sSeq (mIf (mB (m2 (dCmp fun i j => decide (i < j)) (mCall bLen (aCons (mVar 8) aNil)) (mC (.int 3)))) (sAsg (.nm 8) (mF f__law_rim (aCons (m2 dAdd (mVar 1) (mL (mLst (aCons (mTup (aCons (mC (.int 1)) (aCons (mC (.int 2)) aNil))) (aCons (mTup (aCons (mC (.int 2)) (aCons (m1 dNeg (mC (.int 1))) aNil))) aNil))))) aNil))) (sNx)) (sRet (mL (mLst (aCons (mVar 8) (aCons (m2 dAdd (mC (.int 1)) (mF f__law_draw (aCons (mVar 0) (aCons (mC (.int 3)) aNil)))) aNil))))))) (BE T br tu wi hi none none none) s = some (.rt (.list [.list (R.map dt), .int m]), s') ∧ Rim S R ∧ 1 ≤ m ∧ m ≤ 3 ∧ Sk (n + 1) s' := by
    intro S R hR e
    refine ⟨S, R, 1 + d, s1, ?_, hR, by omega, by omega, k1⟩
    have ef : frz 1 (BE T br tu wi hi none none none) = [some (.fz SACK), cD (.list (T.map dt)), br, tu, wi, hi, none, none, none] := by simp [frz, BE]
    unfold sFrz
    rw [ef]
    generalize sAsg (.nm 8) (mF f__law_rim (aCons (mVar 1) aNil)) = A at e ⊢
    generalize mIf (mB (m2 (dCmp fun i j => decide (i < j)) (mCall bLen (aCons (mVar 8) aNil)) (mC (.int 3)))) _ _ = B at e ⊢
    cases q : A [some (.fz SACK), cD (.list (T.map dt)), br, tu, wi, hi, none, none, none] s with
    | none => unfold sSeq at e; rw [q] at e; cases e
    | some r =>
      obtain ⟨o, s2⟩ := r
      cases o with
      | nx ρ =>
        rw [sSeq_nx q] at e ⊢
        rw [sSeq_nx e]
        simp [sRet, mL, mLst, aCons, aNil, mThen, mLift, mVar, m2, mC, mF, e1, dAdd, isDs, isD, z2]
      | _ => unfold sSeq at e; rw [q] at e; cases e
  have q1 : sAsg (.nm 8) (mF f__law_rim (aCons (mVar 1) aNil)) [some (.fz SACK), cD (.list (T.map dt)), br, tu, wi, hi, none, none, none] s = some (.nx [some (.fz SACK), cD (.list (T.map dt)), br, tu, wi, hi, none, none, cD (.list ((if S.length < 3 then S else HU.rim S).map dt))], s) := by
    generalize (if S.length < 3 then S else HU.rim S) = R at *
    simp [sAsg, mF, aCons, aNil, mThen, mLift, mVar, h3, bnd]
  by_cases c : (if S.length < 3 then S else HU.rim S).length < 3
  · have hT2 : ∀ p ∈ T ++ [(1, 2), (2, -1)], Bx 4 p := by
      intro p hp
      rcases List.mem_append.mp hp with q | q
      · exact hT p q
      · simp only [List.mem_cons, List.not_mem_nil, or_false] at q
        rcases q with q | q <;> subst q <;> exact ⟨by decide, by decide⟩
    obtain ⟨S2, g1, g2, g4, g3⟩ := e_rim (k := 3) (by decide) (st := s) (sm _ hT2) (by simp; omega)
    have two : 2 ≤ S2.length := by
      have a := (g2 (0, 0)).mpr (List.mem_append_left _ h0)
      have b := (g2 (1, 2)).mpr (List.mem_append_right _ (by simp))
      cases S2 with
      | nil => cases a
      | cons x t =>
        cases t with
        | nil =>
          rw [List.mem_singleton] at a b
          rw [← a] at b
          cases b
        | cons y t => simp
    have wd : HU.Wide S2 := ⟨(0, 0), (2, -1), (1, 2), (g2 _).mpr (List.mem_append_left _ h0), (g2 _).mpr (List.mem_append_right _ (by simp)), (g2 _).mpr (List.mem_append_right _ (by simp)), by decide⟩
    have w3 := HU.wide_rim g1 two wd
    have n3 : ¬ S2.length < 3 := fun z => by
      have hs : ∀ x ∈ ([(0, 0), (2, -1), (1, 2)] : List P), x ∈ S2 := by
        intro x hx
        simp only [List.mem_cons, List.not_mem_nil, or_false] at hx
        rcases hx with e | e | e <;> subst e
        · exact (g2 _).mpr (List.mem_append_left _ h0)
        · exact (g2 _).mpr (List.mem_append_right _ (by simp))
        · exact (g2 _).mpr (List.mem_append_right _ (by simp))
      match S2, z, hs with
      | [], _, hs => exact absurd (hs (0, 0) (by simp)) (by simp)
      | [a], _, hs =>
        have x := List.mem_singleton.mp (hs (0, 0) (by simp))
        have y := List.mem_singleton.mp (hs (1, 2) (by simp))
        rw [← x] at y
        cases y
      | [a, b], _, hs =>
        have x := hs (0, 0) (by simp)
        have y := hs (1, 2) (by simp)
        have w := hs (2, -1) (by simp)
        simp only [List.mem_cons, List.not_mem_nil, or_false] at x y w
        rcases x with x | x <;> rcases y with y | y <;> rcases w with w | w <;> (first | (rw [← x] at y; cases y; done) | (rw [← x] at w; cases w; done) | (rw [← y] at w; cases w; done))
    rw [if_neg n3] at g3
    refine fin S2 (HU.rim S2) ⟨g1, rfl, w3, (g2 _).mpr (List.mem_append_left _ h0), fun p hp => hT2 p ((g2 p).mp hp), by simp at g4; omega⟩ ?_
    rw [sSeq_nx q1]
    generalize (if S.length < 3 then S else HU.rim S) = R at *
    have hz : T.length + 2 ≤ sizeLine := le_size (by omega)
    have ea : T.map dt ++ [.tuple [.int 1, .int 2], .tuple [.int 2, .int (-1)]] = (T ++ [(1, 2), (2, -1)]).map dt := by simp
    have c' : (R.length : Int) < 3 := by omega
    simp [mIf, mB, m2, mThen, mLift, mVar, mC, dCmp, bOf, mCall, bLen, aCons, aNil, c', sAsg, mF, mL, mLst, mTup, m1, dNeg, isDs, isD, z2, dAdd, hz, bnd]
    rw [ea, g3]
  · rw [if_neg (fun z => c (by rw [if_pos z]; exact z))] at q1 c
    have n3 := c
    refine fin S (HU.rim S) ⟨h1, rfl, by omega, (h2 _).mpr h0, fun p hp => hT p ((h2 p).mp hp), by omega⟩ ?_
    rw [sSeq_nx q1]
    generalize HU.rim S = R at *
    have c' : ¬ (R.length : Int) < 3 := by omega
    simp [mIf, mB, m2, mThen, mLift, mVar, mC, dCmp, bOf, mCall, bLen, aCons, aNil, c', sNx]
theorem e_boat {n : Nat} {s : S} (h : Sk n s) (hn : n + 20 ≤ 1000000) : ∃ S R m s', f__law_boat [SACK] s = some (.list [.list (R.map dt), .int m], s') ∧ Rim S R ∧ 1 ≤ m ∧ m ≤ 3 ∧ Sk (n + 20) s' := by
  obtain ⟨b, s1, e1, b0, b1, k1⟩ := e_draw (z := 5) h (by omega) (by decide) (by decide)
  obtain ⟨d, s2, e2, d0, d1, k2⟩ := e_draw (z := 3) k1 (by omega) (by decide) (by decide)
  have hx : (rgD 0 (1 + d).toNat).length ≤ 3 := by unfold rgD; simp; omega
  obtain ⟨T', tu, s3, e3, t3, l3, k3⟩ := boat_loop (br := cI b) (wi := none) (hi := none) (x := none) (y := none) (rm := none) (rgD 0 (1 + d).toNat) (n + 1 + 1) s2 [(0, 0)] none k2 (by omega) (by simp; omega)
  have hT : ∀ p ∈ [(0, 0)] ++ T', Bx 4 p := by
    intro p hp
    rcases List.mem_append.mp hp with q | q
    · rw [List.mem_singleton.mp q]; exact ⟨by decide, by decide⟩
    · exact t3 p q
  obtain ⟨T2, wi, hi, s4, e4, t4, o4, l4, k4⟩ := boat_mid (tu := tu) k3 (by omega) (by simp; omega) b0 b1 hT (by simp)
  obtain ⟨S, R, m, s5, e5, r5, m0, m1, k5⟩ := boat_end (br := cI b) (tu := tu) (wi := wi) (hi := hi) k4 (by omega) (by simp at l4; omega) t4 o4
  refine ⟨S, R, m, s5, ?_, r5, m0, m1, k5.mono (by omega)⟩
  refine fnM_rt rfl ?_
  have q1 : sParOF 1 2 (mLst (aCons (mTup (aCons (mC (.int 0)) (aCons (mC (.int 0)) aNil))) aNil)) (mF f__law_draw (aCons (mVar 0) (aCons (mC (.int 5)) aNil))) (startE 9 [SACK]) s = some (.nx (BE [(0, 0)] (cI b) none none none none none none), s1) := by
    simp [sParOF, startE, mLst, mTup, aCons, aNil, mC, mThen, mLift, isDs, isD, le_size, mF, mVar, e1, BE]
  have ok : okRg (1 + d) = true := by
    unfold okRg
    rw [Bool.and_eq_true]
    exact ⟨decide_eq_true (by omega), decide_eq_true (by omega)⟩
  have q2 : sFor (mA rg1 (aCons (m2 dAdd (mC (.int 1)) (mF f__law_draw (aCons (mVar 0) (aCons (mC (.int 3)) aNil)))) aNil)) (.nm 3) lb__law_boat_0 (BE [(0, 0)] (cI b) none none none none none none) s1 = _ := (sFor_at (by
    simp [mA, aCons, aNil, m2, mThen, mLift, mC, mF, mVar, BE, e2, dAdd, rg1, ok])).trans e3
  unfold g__law_boat
  rw [sSeq_nx q1, sSeq_nx q2]
  show sSeq boatMid _ _ _ = _
  rw [sSeq_nx e4]
  exact e5
end WF
namespace WF
open PySem PySem.Spec PyProof.Rows L2 PL
def g_point_sum : M Out := sSeq (sAsg (.tp [.tp [.nm 2, .nm 3, .nm 4], .tp [.nm 5, .nm 6, .nm 7]]) (mTup (aCons (mVar 0) (aCons (mVar 1) aNil)))) (sRet (mF f_point_of (aCons (m2 dAdd (m2 dMul (mVar 2) (mVar 7)) (m2 dMul (mVar 5) (mVar 4))) (aCons (m2 dAdd (m2 dMul (mVar 3) (mVar 7)) (m2 dMul (mVar 6) (mVar 4))) (aCons (m2 dMul (mVar 4) (mVar 7)) aNil)))))
def f_point_sum : Fn := fnM 2 8 g_point_sum
def g_point_gap : M Out := sSeq (sAsg (.tp [.tp [.nm 2, .nm 3, .nm 4], .tp [.nm 5, .nm 6, .nm 7]]) (mTup (aCons (mVar 0) (aCons (mVar 1) aNil)))) (sRet (mF f_point_of (aCons (m2 dSub (m2 dMul (mVar 2) (mVar 7)) (m2 dMul (mVar 5) (mVar 4))) (aCons (m2 dSub (m2 dMul (mVar 3) (mVar 7)) (m2 dMul (mVar 6) (mVar 4))) (aCons (m2 dMul (mVar 4) (mVar 7)) aNil)))))
def f_point_gap : Fn := fnM 2 8 g_point_gap
def g_point_times : M Out := sSeq (sAsg (.tp [.nm 2, .nm 3, .nm 4]) (mVar 0)) (sRet (mF f_point_of (aCons (m2 dMul (mVar 2) (m2 dIx (mVar 1) (mC (.int 0)))) (aCons (m2 dMul (mVar 3) (m2 dIx (mVar 1) (mC (.int 0)))) (aCons (m2 dMul (mVar 4) (m2 dIx (mVar 1) (mC (.int 1)))) aNil)))))
def f_point_times : Fn := fnM 2 5 g_point_times
def g_point_between : M Out := sRet (mF f_point_sum (aCons (mVar 0) (aCons (mF f_point_times (aCons (mF f_point_gap (aCons (mVar 1) (aCons (mVar 0) aNil))) (aCons (mVar 2) aNil))) aNil)))
def f_point_between : Fn := fnM 3 3 g_point_between
def g_turn : M Out := sSeq (sAsg (.tp [.tp [.nm 3, .nm 4, .nm 5], .tp [.nm 6, .nm 7]]) (mTup (aCons (mVar 0) (aCons (mF f_course_to (aCons (mVar 0) (aCons (mVar 1) aNil))) aNil)))) (sRet (m2 dSub (m2 dMul (mVar 6) (m2 dSub (m2 dMul (m2 dIx (mVar 2) (mC (.int 1))) (mVar 5)) (m2 dMul (mVar 4) (m2 dIx (mVar 2) (mC (.int 2)))))) (m2 dMul (mVar 7) (m2 dSub (m2 dMul (m2 dIx (mVar 2) (mC (.int 0))) (mVar 5)) (m2 dMul (mVar 3) (m2 dIx (mVar 2) (mC (.int 2))))))))
def f_turn : Fn := fnM 3 8 g_turn
def g_direction_along : M Out := sSeq (sAsg (.nm 2) (mCall bGcd (aCons (mVar 0) (aCons (mVar 1) aNil)))) (sRet (mTup (aCons (m2 dDiv (mVar 0) (mVar 2)) (aCons (m2 dDiv (mVar 1) (mVar 2)) aNil))))
def f_direction_along : Fn := fnM 2 3 g_direction_along
def g_half_turn : M Out := sSeq (mIf (mOr (mB (m2 (dCmp fun i j => decide (j < i)) (m2 dIx (mVar 0) (mC (.int 1))) (mC (.int 0)))) (mAnd (mB (m2 (dEq) (m2 dIx (mVar 0) (mC (.int 1))) (mC (.int 0)))) (mB (m2 (dCmp fun i j => decide (j < i)) (m2 dIx (mVar 0) (mC (.int 0))) (mC (.int 0)))))) (sRet (mC (.int 0))) (sNx)) (sRet (mC (.int 1)))
def f_half_turn : Fn := fnM 1 1 g_half_turn
def g_stands_before : M Out := sSeq (sPar 2 3 (aCons (mF f_half_turn (aCons (mVar 0) aNil)) (aCons (mF f_half_turn (aCons (mVar 1) aNil)) aNil))) (sSeq (mIf (mB (m2 (dNe) (mVar 2) (mVar 3))) (sRet (m2 (dCmp fun i j => decide (i < j)) (mVar 2) (mVar 3))) (sNx)) (sRet (m2 (dCmp fun i j => decide (j < i)) (m2 dSub (m2 dMul (m2 dIx (mVar 0) (mC (.int 0))) (m2 dIx (mVar 1) (mC (.int 1)))) (m2 dMul (m2 dIx (mVar 0) (mC (.int 1))) (m2 dIx (mVar 1) (mC (.int 0))))) (mC (.int 0)))))
def f_stands_before : Fn := fnM 2 4 g_stands_before
def g_is_fraction : M Out := sRet (mAndV (mF f_are_whole (aCons (mVar 0) (aCons (mC (.int 2)) aNil))) (mAndV (m2 (dCmp fun i j => decide (j < i)) (m2 dIx (mVar 0) (mC (.int 1))) (mC (.int 0))) (m2 (dEq) (mCall bGcd (aCons (m2 dIx (mVar 0) (mC (.int 0))) (aCons (m2 dIx (mVar 0) (mC (.int 1))) aNil))) (mC (.int 1)))))
def f_is_fraction : Fn := fnM 1 1 g_is_fraction
def g_need_fraction : M Out := mIf (mNot (mB (mF f_is_fraction (aCons (mVar 0) aNil)))) (sNo) (sNx)
def f_need_fraction : Fn := fnM 1 1 g_need_fraction
def g_need_direction : M Out := mIf (mNot (mB (mF f_is_direction (aCons (mVar 0) aNil)))) (sNo) (sNx)
def f_need_direction : Fn := fnM 1 1 g_need_direction
def g_direction_of : M Out := sSeq (sEx (mF f_need_point (aCons (mVar 0) aNil))) (sSeq (mIf (mB (m2 (dEq) (mVar 0) (mC (.tuple [(.int 0), (.int 0), (.int 1)])))) (sRet (mC .none)) (sNx)) (sRet (mF f_direction_along (aCons (m2 dIx (mVar 0) (mC (.int 0))) (aCons (m2 dIx (mVar 0) (mC (.int 1))) aNil)))))
def f_direction_of : Fn := fnM 1 1 g_direction_of
def g_is_earlier : M Out := sSeq (sEx (mF f_need_direction (aCons (mVar 0) aNil))) (sSeq (sEx (mF f_need_direction (aCons (mVar 1) aNil))) (sRet (mF f_stands_before (aCons (mVar 0) (aCons (mVar 1) aNil)))))
def f_is_earlier : Fn := fnM 2 2 g_is_earlier
def g_point_at : M Out := sSeq (sEx (mF f_need_fraction (aCons (mVar 0) aNil))) (sSeq (sEx (mF f_need_fraction (aCons (mVar 1) aNil))) (sRet (mF f_point_of (aCons (m2 dMul (m2 dIx (mVar 0) (mC (.int 0))) (m2 dIx (mVar 1) (mC (.int 1)))) (aCons (m2 dMul (m2 dIx (mVar 1) (mC (.int 0))) (m2 dIx (mVar 0) (mC (.int 1)))) (aCons (m2 dMul (m2 dIx (mVar 0) (mC (.int 1))) (m2 dIx (mVar 1) (mC (.int 1)))) aNil))))))
def f_point_at : Fn := fnM 2 2 g_point_at
def g_plus : M Out := sSeq (sEx (mF f_need_point (aCons (mVar 0) aNil))) (sSeq (sEx (mF f_need_point (aCons (mVar 1) aNil))) (sRet (mF f_point_sum (aCons (mVar 0) (aCons (mVar 1) aNil)))))
def f_plus : Fn := fnM 2 2 g_plus
def g_minus : M Out := sSeq (sEx (mF f_need_point (aCons (mVar 0) aNil))) (sSeq (sEx (mF f_need_point (aCons (mVar 1) aNil))) (sRet (mF f_point_gap (aCons (mVar 0) (aCons (mVar 1) aNil)))))
def f_minus : Fn := fnM 2 2 g_minus
def g_times : M Out := sSeq (sEx (mF f_need_point (aCons (mVar 0) aNil))) (sSeq (sEx (mF f_need_fraction (aCons (mVar 1) aNil))) (sRet (mF f_point_times (aCons (mVar 0) (aCons (mVar 1) aNil)))))
def f_times : Fn := fnM 2 2 g_times
def g_between : M Out := sSeq (sEx (mF f_need_point (aCons (mVar 0) aNil))) (sSeq (sEx (mF f_need_point (aCons (mVar 1) aNil))) (sSeq (sEx (mF f_need_fraction (aCons (mVar 2) aNil))) (sRet (mF f_point_between (aCons (mVar 0) (aCons (mVar 1) (aCons (mVar 2) aNil)))))))
def f_between : Fn := fnM 3 3 g_between
def g_sense : M Out := sSeq (sEx (mF f_need_point (aCons (mVar 0) aNil))) (sSeq (sEx (mF f_need_point (aCons (mVar 1) aNil))) (sSeq (sEx (mF f_need_point (aCons (mVar 2) aNil))) (sSeq (sAsg (.nm 3) (mF f_turn (aCons (mVar 0) (aCons (mVar 1) (aCons (mVar 2) aNil))))) (sSeq (mIf (mB (m2 (dCmp fun i j => decide (j < i)) (mVar 3) (mC (.int 0)))) (sRet (mC (.int 1))) (sNx)) (sSeq (mIf (mB (m2 (dCmp fun i j => decide (i < j)) (mVar 3) (mC (.int 0)))) (sRet (m1 dNeg (mC (.int 1)))) (sNx)) (sRet (mC (.int 0))))))))
def f_sense : Fn := fnM 3 4 g_sense
def g_side_through : M Out := sSeq (sEx (mF f_need_point (aCons (mVar 0) aNil))) (sSeq (sEx (mF f_need_point (aCons (mVar 1) aNil))) (sSeq (mIf (mB (m2 (dEq) (mVar 0) (mVar 1))) (sNo) (sNx)) (sSeq (sAsg (.tp [.nm 2, .nm 3]) (mF f_course_to (aCons (mVar 0) (aCons (mVar 1) aNil)))) (sRet (mF f_side_of (aCons (mVar 3) (aCons (m1 dNeg (mVar 2)) (aCons (mF f_along (aCons (mVar 3) (aCons (m1 dNeg (mVar 2)) (aCons (mVar 0) aNil)))) aNil))))))))
def f_side_through : Fn := fnM 2 4 g_side_through
def g_excess : M Out := sSeq (sEx (mF f_need_side (aCons (mVar 0) aNil))) (sSeq (sEx (mF f_need_point (aCons (mVar 1) aNil))) (sRet (mF f_ratio (aCons (mF f_overshoot (aCons (mVar 0) (aCons (mVar 1) aNil))) (aCons (m2 dIx (mVar 1) (mC (.int 2))) aNil)))))
def f_excess : Fn := fnM 2 2 g_excess
def lb__law_source_0 : M Out := sAsg (.nm 2) (m2 dMod (mCall bInt (aCons (m2 dAdd (m2 dAdd (m2 dMul (mVar 2) (mC (.int 52361))) (m2 dMod (mCall bInt (aCons (mVar 3) aNil)) (mC (.int 998244353)))) (mC (.int 17))) aNil)) (mC (.int 1000000007)))
def g__law_source : M Out := sSeq (sAsg (.nm 2) (m2 dAdd (mC (.int 40009)) (m2 dMul (mC (.int 977)) (mVar 1)))) (sSeq (sFor (mIt (mSl (mVar 0) oNo (oSome (mC (.int 63))))) (.nm 3) lb__law_source_0) (sSeq (sAsg (.nm 4) (mIf (mB (m2 (dCmp fun i j => decide (i < j)) (mVar 1) (mCall bLen (aCons (mVar 0) aNil)))) (mCall bAbs (aCons (mCall bInt (aCons (m2 dIx (mVar 0) (mVar 1)) aNil)) aNil)) (mC (.int 0)))) (sRetL (mLst (aCons (mIf (mB (m2 (dCmp fun i j => decide (j ≤ i)) (mVar 4) (m2 dPow (mC (.int 10)) (mC (.int 18))))) (mVar 4) (mC (.int 0))) (aCons (m2 dMod (mCall bInt (aCons (m2 dAdd (mVar 2) (m2 dMul (m2 dMod (mCall bInt (aCons (mVar 4) aNil)) (mC (.int 998244353))) (mC (.int 3)))) aNil)) (mC (.int 1000000007))) (aCons (mC (.int 0)) aNil)))))))
def f__law_source : FnL := fnL 2 5 g__law_source
def g__law_rounds : M Out := sRet (mCall bMax (aCons (mC (.int 2)) (aCons (mCall bMin (aCons (mCall bLen (aCons (mVar 0) aNil)) (aCons (mC (.int 3)) aNil))) aNil)))
def f__law_rounds : Fn := fnM 1 1 g__law_rounds
def g__law_draw_v2 : M Out := sSeq (mIf (mB (m2 (dCmp fun i j => decide (j < i)) (mSk 0 0) (mC (.int 0)))) (sSeq (sAsg (.tp [.sb 0 0, .nm 2]) (mCall bDivmod (aCons (mSk 0 0) (aCons (mVar 1) aNil)))) (sRet (mVar 2))) (sNx)) (sSeq (sAsg (.sb 0 2) (m2 dAdd (mSk 0 2) (mC (.int 1)))) (sSeq (sAsg (.nm 3) (m2 dMod (mCall bInt (aCons (m2 dAdd (mSk 0 1) (m2 dMul (mC (.int 7919)) (mSk 0 2))) aNil)) (mC (.int 1000000007)))) (sSeq (sAsg (.sb 0 1) (m2 dMod (mCall bInt (aCons (m2 dAdd (m2 dMul (mVar 3) (m2 dAdd (m2 dMod (mCall bInt (aCons (mVar 3) aNil)) (mC (.int 9973))) (mC (.int 30011)))) (mC (.int 13))) aNil)) (mC (.int 1000000007)))) (sRet (m2 dMod (mCall bInt (aCons (m2 dDiv (mSk 0 1) (mC (.int 89))) aNil)) (mVar 1))))))
def f__law_draw_v2 : Fn := fnM 2 4 g__law_draw_v2
def g__law_pick : M Out := sRet (m2 dIx (mVar 1) (mF f__law_draw_v2 (aCons (mVar 0) (aCons (mCall bLen (aCons (mVar 1) aNil)) aNil))))
def f__law_pick : Fn := fnM 2 2 g__law_pick
def t__law_least_0 : PL.Env → S → Nat := fun ρ _ => match ρ[4]? with
  | some (some (Cell.fz (.int b))) => b.natAbs + 1
  | _ => 0
def lc__law_least_0 : M Bool := mB (m2 (dCmp fun i j => decide (j < i)) (mVar 4) (mC (.int 0)))
def lb__law_least_0 : M Out := sPar 3 4 (aCons (mVar 4) (aCons (m2 dMod (mCall bInt (aCons (mVar 3) aNil)) (mVar 4)) aNil))
def lb__law_least_1 : M Out := sSeq (sPar 3 4 (aCons (mVar 1) (aCons (mCall bAbs (aCons (mVar 2) aNil)) aNil))) (sSeq (sWh t__law_least_0 lc__law_least_0 lb__law_least_0) (sAsg (.nm 1) (mVar 3)))
def le__law_least_2 : M D := m2 dDiv (mVar 2) (mCall bMax (aCons (mC (.int 1)) (aCons (mVar 1) aNil)))
def g__law_least : M Out := sSeq (sAsg (.nm 1) (mC (.int 0))) (sSeq (sFor (mIt (mVar 0)) (.nm 2) lb__law_least_1) (sRet (mCall bTuple (aCons (mL (mLc (mIt (mVar 0)) [2] (.nm 2) (qC true) le__law_least_2)) aNil))))
def f__law_least : Fn := fnM 1 5 g__law_least
def g__law_spot_v2 : M Out := sSeq (sPar 1 2 (aCons (mF f__law_pick (aCons (mVar 0) (aCons (mTup (aCons (mC (.int 2)) (aCons (mC (.int 3)) (aCons (mC (.int 3)) (aCons (mC (.int 5)) (aCons (mC (.int 9)) (aCons (mC (.int 99)) aNil))))))) aNil))) (aCons (mF f__law_pick (aCons (mVar 0) (aCons (mTup (aCons (mC (.int 1)) (aCons (mC (.int 1)) (aCons (mC (.int 1)) (aCons (mC (.int 2)) (aCons (mC (.int 3)) (aCons (mC (.int 5)) aNil))))))) aNil))) aNil))) (sRet (mF f__law_least (aCons (mTup (aCons (m2 dSub (mF f__law_draw_v2 (aCons (mVar 0) (aCons (m2 dAdd (m2 dMul (mC (.int 2)) (mVar 1)) (mC (.int 1))) aNil))) (mVar 1)) (aCons (m2 dSub (mF f__law_draw_v2 (aCons (mVar 0) (aCons (m2 dAdd (m2 dMul (mC (.int 2)) (mVar 1)) (mC (.int 1))) aNil))) (mVar 1)) (aCons (mVar 2) aNil)))) aNil)))
def f__law_spot_v2 : Fn := fnM 1 3 g__law_spot_v2
def g__law_part : M Out := sSeq (sAsg (.nm 2) (mF f__law_least (aCons (mTup (aCons (mVar 0) (aCons (mVar 1) aNil))) aNil))) (sRet (mIf (mB (m2 (dCmp fun i j => decide (j < i)) (m2 dIx (mVar 2) (mC (.int 1))) (mC (.int 0)))) (mVar 2) (mTup (aCons (m2 dSub (mC (.int 0)) (m2 dIx (mVar 2) (mC (.int 0)))) (aCons (m2 dSub (mC (.int 0)) (m2 dIx (mVar 2) (mC (.int 1)))) aNil)))))
def f__law_part : Fn := fnM 2 3 g__law_part
def g__law_sum : M Out := sRet (mF f__law_part (aCons (m2 dAdd (m2 dMul (m2 dIx (mVar 0) (mC (.int 0))) (m2 dIx (mVar 1) (mC (.int 1)))) (m2 dMul (m2 dIx (mVar 1) (mC (.int 0))) (m2 dIx (mVar 0) (mC (.int 1))))) (aCons (m2 dMul (m2 dIx (mVar 0) (mC (.int 1))) (m2 dIx (mVar 1) (mC (.int 1)))) aNil)))
def f__law_sum : Fn := fnM 2 2 g__law_sum
def g__law_by : M Out := sRet (mF f__law_part (aCons (m2 dMul (m2 dIx (mVar 0) (mC (.int 0))) (m2 dIx (mVar 1) (mC (.int 0)))) (aCons (m2 dMul (m2 dIx (mVar 0) (mC (.int 1))) (m2 dIx (mVar 1) (mC (.int 1)))) aNil)))
def f__law_by : Fn := fnM 2 2 g__law_by
def g__law_add_v2 : M Out := sSeq (sAsg (.nm 2) (m2 dMul (m2 dIx (mVar 0) (mC (.int 2))) (m2 dIx (mVar 1) (mC (.int 2))))) (sRet (mF f__law_least (aCons (mTup (aCons (m2 dAdd (m2 dMul (m2 dIx (mVar 0) (mC (.int 0))) (m2 dIx (mVar 1) (mC (.int 2)))) (m2 dMul (m2 dIx (mVar 1) (mC (.int 0))) (m2 dIx (mVar 0) (mC (.int 2))))) (aCons (m2 dAdd (m2 dMul (m2 dIx (mVar 0) (mC (.int 1))) (m2 dIx (mVar 1) (mC (.int 2)))) (m2 dMul (m2 dIx (mVar 1) (mC (.int 1))) (m2 dIx (mVar 0) (mC (.int 2))))) (aCons (mVar 2) aNil)))) aNil)))
def f__law_add_v2 : Fn := fnM 2 3 g__law_add_v2
def g__law_grow : M Out := sRet (mF f__law_least (aCons (mTup (aCons (m2 dMul (m2 dIx (mVar 0) (mC (.int 0))) (m2 dIx (mVar 1) (mC (.int 0)))) (aCons (m2 dMul (m2 dIx (mVar 0) (mC (.int 1))) (m2 dIx (mVar 1) (mC (.int 0)))) (aCons (m2 dMul (m2 dIx (mVar 0) (mC (.int 2))) (m2 dIx (mVar 1) (mC (.int 1)))) aNil)))) aNil))
def f__law_grow : Fn := fnM 2 2 g__law_grow
def g__law_midway : M Out := sRet (mF f__law_add_v2 (aCons (mF f__law_grow (aCons (mVar 0) (aCons (mTup (aCons (m2 dSub (m2 dIx (mVar 2) (mC (.int 1))) (m2 dIx (mVar 2) (mC (.int 0)))) (aCons (m2 dIx (mVar 2) (mC (.int 1))) aNil))) aNil))) (aCons (mF f__law_grow (aCons (mVar 1) (aCons (mVar 2) aNil))) aNil)))
def f__law_midway : Fn := fnM 3 3 g__law_midway
def g__law_back : M Out := sRet (mTup (aCons (m2 dSub (mC (.int 0)) (m2 dIx (mVar 0) (mC (.int 0)))) (aCons (m2 dSub (mC (.int 0)) (m2 dIx (mVar 0) (mC (.int 1)))) (aCons (m2 dIx (mVar 0) (mC (.int 2))) aNil))))
def f__law_back : Fn := fnM 1 1 g__law_back
def g__law_left : M Out := sSeq (sAsg (.nm 3) (m2 dSub (m2 dMul (m2 dIx (mVar 0) (mC (.int 0))) (m2 dSub (m2 dMul (m2 dIx (mVar 1) (mC (.int 1))) (m2 dIx (mVar 2) (mC (.int 2)))) (m2 dMul (m2 dIx (mVar 1) (mC (.int 2))) (m2 dIx (mVar 2) (mC (.int 1)))))) (m2 dMul (m2 dIx (mVar 0) (mC (.int 1))) (m2 dSub (m2 dMul (m2 dIx (mVar 1) (mC (.int 0))) (m2 dIx (mVar 2) (mC (.int 2)))) (m2 dMul (m2 dIx (mVar 1) (mC (.int 2))) (m2 dIx (mVar 2) (mC (.int 0)))))))) (sRet (m2 dAdd (mVar 3) (m2 dMul (m2 dIx (mVar 0) (mC (.int 2))) (m2 dSub (m2 dMul (m2 dIx (mVar 1) (mC (.int 0))) (m2 dIx (mVar 2) (mC (.int 1)))) (m2 dMul (m2 dIx (mVar 1) (mC (.int 1))) (m2 dIx (mVar 2) (mC (.int 0))))))))
def f__law_left : Fn := fnM 3 4 g__law_left
def g__law_side_v2 : M Out := sSeq (sPar 2 3 (aCons (m2 dSub (m2 dMul (m2 dIx (mVar 0) (mC (.int 2))) (m2 dIx (mVar 1) (mC (.int 1)))) (m2 dMul (m2 dIx (mVar 0) (mC (.int 1))) (m2 dIx (mVar 1) (mC (.int 2))))) (aCons (m2 dSub (m2 dMul (m2 dIx (mVar 0) (mC (.int 0))) (m2 dIx (mVar 1) (mC (.int 2)))) (m2 dMul (m2 dIx (mVar 0) (mC (.int 2))) (m2 dIx (mVar 1) (mC (.int 0))))) aNil))) (sRet (mF f__law_least (aCons (mTup (aCons (mVar 2) (aCons (mVar 3) (aCons (m2 dSub (m2 dMul (m2 dIx (mVar 0) (mC (.int 0))) (m2 dIx (mVar 1) (mC (.int 1)))) (m2 dMul (m2 dIx (mVar 0) (mC (.int 1))) (m2 dIx (mVar 1) (mC (.int 0))))) aNil)))) aNil)))
def f__law_side_v2 : Fn := fnM 2 4 g__law_side_v2
def g__law_half : M Out := sRet (mIf (mOr (mB (m2 (dCmp fun i j => decide (j < i)) (m2 dIx (mVar 0) (mC (.int 1))) (mC (.int 0)))) (mAnd (mB (m2 (dEq) (m2 dIx (mVar 0) (mC (.int 1))) (mC (.int 0)))) (mB (m2 (dCmp fun i j => decide (j < i)) (m2 dIx (mVar 0) (mC (.int 0))) (mC (.int 0)))))) (mC (.int 0)) (mC (.int 1)))
def f__law_half : Fn := fnM 1 1 g__law_half
def g__law_before : M Out := sSeq (mIf (mB (m2 (dNe) (mF f__law_half (aCons (mVar 0) aNil)) (mF f__law_half (aCons (mVar 1) aNil)))) (sRet (m2 (dCmp fun i j => decide (i < j)) (mF f__law_half (aCons (mVar 0) aNil)) (mF f__law_half (aCons (mVar 1) aNil)))) (sNx)) (sRet (m2 (dCmp fun i j => decide (j < i)) (m2 dSub (m2 dMul (m2 dIx (mVar 0) (mC (.int 0))) (m2 dIx (mVar 1) (mC (.int 1)))) (m2 dMul (m2 dIx (mVar 0) (mC (.int 1))) (m2 dIx (mVar 1) (mC (.int 0))))) (mC (.int 0))))
def f__law_before : Fn := fnM 2 2 g__law_before
def g__law_gust : M Out := sSeq (sAsg (.nm 1) (mF f__law_pick (aCons (mVar 0) (aCons (mTup (aCons (mC (.int 1)) (aCons (mC (.int 1)) (aCons (mC (.int 2)) (aCons (mC (.int 4)) (aCons (mC (.int 9)) (aCons (mC (.int 99)) aNil))))))) aNil)))) (sSeq (sAsg (.nm 2) (mTup (aCons (m2 dSub (mF f__law_draw_v2 (aCons (mVar 0) (aCons (m2 dAdd (m2 dMul (mC (.int 2)) (mVar 1)) (mC (.int 1))) aNil))) (mVar 1)) (aCons (m2 dSub (mF f__law_draw_v2 (aCons (mVar 0) (aCons (m2 dAdd (m2 dMul (mC (.int 2)) (mVar 1)) (mC (.int 1))) aNil))) (mVar 1)) aNil)))) (sRet (mIf (mB (m2 (dNe) (mVar 2) (mTup (aCons (mC (.int 0)) (aCons (mC (.int 0)) aNil))))) (mF f__law_least (aCons (mVar 2) aNil)) (mTup (aCons (mC (.int 0)) (aCons (mC (.int 1)) aNil))))))
def f__law_gust : Fn := fnM 1 3 g__law_gust
def g__law_share : M Out := sRet (mF f__law_part (aCons (m2 dSub (mF f__law_draw_v2 (aCons (mVar 0) (aCons (mC (.int 13)) aNil))) (mC (.int 6))) (aCons (m2 dAdd (mC (.int 1)) (mF f__law_draw_v2 (aCons (mVar 0) (aCons (mC (.int 4)) aNil)))) aNil)))
def f__law_share : Fn := fnM 1 1 g__law_share
def g__law_sums_right : M Out := sSeq (sAsg (.nm 3) (mF f_plus (aCons (mVar 0) (aCons (mVar 1) aNil)))) (sSeq (mIf (mB (m2 (dNe) (mCall bRepr (aCons (mL (mLst (aCons (mVar 3) (aCons (mFK f_plus [0, 1] (aCons (mVar 1) (aCons (mVar 0) aNil))) (aCons (mF f_minus (aCons (mVar 3) (aCons (mVar 1) aNil))) aNil))))) aNil)) (mCall bRepr (aCons (mL (mLst (aCons (mF f__law_add_v2 (aCons (mVar 0) (aCons (mVar 1) aNil))) (aCons (mVar 3) (aCons (mVar 0) aNil))))) aNil)))) (sRet (mC (.bool false))) (sNx)) (sSeq (mIf (mB (m2 (dNe) (mCall bRepr (aCons (mL (mLst (aCons (mFK f_minus [0, 1] (aCons (mVar 0) (aCons (mVar 1) aNil))) (aCons (mF f_minus (aCons (mVar 0) (aCons (mVar 0) aNil))) aNil)))) aNil)) (mCall bRepr (aCons (mL (mLst (aCons (mF f__law_add_v2 (aCons (mVar 0) (aCons (mF f__law_back (aCons (mVar 1) aNil)) aNil))) (aCons (mTup (aCons (mC (.int 0)) (aCons (mC (.int 0)) (aCons (mC (.int 1)) aNil)))) aNil)))) aNil)))) (sRet (mC (.bool false))) (sNx)) (sSeq (sAsg (.nm 3) (mF f_times (aCons (mVar 0) (aCons (mVar 2) aNil)))) (sSeq (mIf (mB (m2 (dNe) (mCall bRepr (aCons (mL (mLst (aCons (mVar 3) (aCons (mFK f_times [0, 1] (aCons (mVar 0) (aCons (mTup (aCons (mC (.int 1)) (aCons (mC (.int 1)) aNil))) aNil))) aNil)))) aNil)) (mCall bRepr (aCons (mL (mLst (aCons (mF f__law_grow (aCons (mVar 0) (aCons (mVar 2) aNil))) (aCons (mVar 0) aNil)))) aNil)))) (sRet (mC (.bool false))) (sNx)) (sSeq (mIf (mAnd (mB (m2 (dNe) (m2 dIx (mVar 2) (mC (.int 0))) (mC (.int 0)))) (mB (m2 (dNe) (mCall bRepr (aCons (mF f_times (aCons (mVar 3) (aCons (mF f__law_part (aCons (m2 dIx (mVar 2) (mC (.int 1))) (aCons (m2 dIx (mVar 2) (mC (.int 0))) aNil))) aNil))) aNil)) (mCall bRepr (aCons (mVar 0) aNil))))) (sRet (mC (.bool false))) (sNx)) (sSeq (sPar 4 5 (aCons (mF f__law_part (aCons (m2 dIx (mVar 0) (mC (.int 0))) (aCons (m2 dIx (mVar 0) (mC (.int 2))) aNil))) (aCons (mF f__law_part (aCons (m2 dIx (mVar 0) (mC (.int 1))) (aCons (m2 dIx (mVar 0) (mC (.int 2))) aNil))) aNil))) (sRet (m2 (dEq) (mCall bRepr (aCons (mL (mLst (aCons (mF f_point_at (aCons (mVar 4) (aCons (mVar 5) aNil))) (aCons (mFK f_point_at [1, 0] (aCons (mVar 4) (aCons (mVar 5) aNil))) aNil)))) aNil)) (mCall bRepr (aCons (mL (mLst (aCons (mVar 0) (aCons (mTup (aCons (m2 dIx (mVar 0) (mC (.int 1))) (aCons (m2 dIx (mVar 0) (mC (.int 0))) (aCons (m2 dIx (mVar 0) (mC (.int 2))) aNil)))) aNil)))) aNil))))))))))
def f__law_sums_right : Fn := fnM 3 6 g__law_sums_right
def g__law_between_right : M Out := sSeq (sAsg (.nm 4) (mF f_between (aCons (mVar 0) (aCons (mVar 1) (aCons (mVar 2) aNil))))) (sSeq (mIf (mB (m2 (dNe) (mCall bRepr (aCons (mVar 4) aNil)) (mCall bRepr (aCons (mF f__law_midway (aCons (mVar 0) (aCons (mVar 1) (aCons (mVar 2) aNil)))) aNil)))) (sRet (mC (.bool false))) (sNx)) (sSeq (mIf (mB (m2 (dNe) (mCall bRepr (aCons (mFK f_between [0, 1, 2] (aCons (mVar 1) (aCons (mVar 0) (aCons (mF f__law_sum (aCons (mTup (aCons (mC (.int 1)) (aCons (mC (.int 1)) aNil))) (aCons (mTup (aCons (m2 dSub (mC (.int 0)) (m2 dIx (mVar 2) (mC (.int 0)))) (aCons (m2 dIx (mVar 2) (mC (.int 1))) aNil))) aNil))) aNil)))) aNil)) (mCall bRepr (aCons (mVar 4) aNil)))) (sRet (mC (.bool false))) (sNx)) (sSeq (mIf (mB (m2 (dNe) (mCall bRepr (aCons (mL (mLst (aCons (mF f_between (aCons (mVar 0) (aCons (mVar 1) (aCons (mTup (aCons (mC (.int 0)) (aCons (mC (.int 1)) aNil))) aNil)))) (aCons (mF f_between (aCons (mVar 0) (aCons (mVar 1) (aCons (mTup (aCons (mC (.int 1)) (aCons (mC (.int 1)) aNil))) aNil)))) aNil)))) aNil)) (mCall bRepr (aCons (mL (mLst (aCons (mVar 0) (aCons (mVar 1) aNil)))) aNil)))) (sRet (mC (.bool false))) (sNx)) (sRet (m2 (dEq) (mCall bRepr (aCons (mF f_between (aCons (mVar 0) (aCons (mVar 4) (aCons (mVar 3) aNil)))) aNil)) (mCall bRepr (aCons (mF f_between (aCons (mVar 0) (aCons (mVar 1) (aCons (mF f__law_by (aCons (mVar 2) (aCons (mVar 3) aNil))) aNil)))) aNil)))))))
def f__law_between_right : Fn := fnM 4 5 g__law_between_right
def g__law_senses_right : M Out := sSeq (sAsg (.nm 3) (mF f__law_left (aCons (mVar 0) (aCons (mVar 1) (aCons (mVar 2) aNil))))) (sSeq (sAsg (.nm 4) (m2 dSub (mCall bInt (aCons (m2 (dCmp fun i j => decide (j < i)) (mVar 3) (mC (.int 0))) aNil)) (mCall bInt (aCons (m2 (dCmp fun i j => decide (i < j)) (mVar 3) (mC (.int 0))) aNil)))) (sSeq (sAsg (.nm 5) (mL (mLst (aCons (mF f_sense (aCons (mVar 0) (aCons (mVar 1) (aCons (mVar 2) aNil)))) (aCons (mF f_sense (aCons (mVar 1) (aCons (mVar 2) (aCons (mVar 0) aNil)))) (aCons (mFK f_sense [0, 1, 2] (aCons (mVar 1) (aCons (mVar 0) (aCons (mVar 2) aNil)))) aNil)))))) (sSeq (mIf (mOr (mB (m2 (dNe) (mCall bRepr (aCons (mVar 5) aNil)) (mCall bRepr (aCons (mL (mLst (aCons (mVar 4) (aCons (mVar 4) (aCons (m2 dSub (mC (.int 0)) (mVar 4)) aNil))))) aNil)))) (mB (m2 (dNe) (mCall bRepr (aCons (mL (mLst (aCons (mF f_sense (aCons (mVar 0) (aCons (mVar 0) (aCons (mVar 2) aNil)))) (aCons (mF f_sense (aCons (mVar 0) (aCons (mVar 1) (aCons (mVar 1) aNil)))) aNil)))) aNil)) (mC (.str "[0, 0]"))))) (sRet (mC (.bool false))) (sNx)) (sSeq (mIf (mB (m2 (dEq) (mVar 0) (mVar 1))) (sRet (mC (.bool true))) (sNx)) (sSeq (sAsg (.nm 6) (mF f_side_through (aCons (mVar 0) (aCons (mVar 1) aNil)))) (sSeq (sAsg (.nm 7) (mFK f_side_through [0, 1] (aCons (mVar 1) (aCons (mVar 0) aNil)))) (sSeq (mIf (mB (m2 (dNe) (mCall bRepr (aCons (mL (mLst (aCons (mVar 6) (aCons (mVar 7) aNil)))) aNil)) (mCall bRepr (aCons (mL (mLst (aCons (mF f__law_side_v2 (aCons (mVar 0) (aCons (mVar 1) aNil))) (aCons (mF f__law_side_v2 (aCons (mVar 1) (aCons (mVar 0) aNil))) aNil)))) aNil)))) (sRet (mC (.bool false))) (sNx)) (sSeq (sAsg (.nm 8) (m2 dSub (m2 dAdd (m2 dMul (m2 dIx (mVar 6) (mC (.int 0))) (m2 dIx (mVar 2) (mC (.int 0)))) (m2 dMul (m2 dIx (mVar 6) (mC (.int 1))) (m2 dIx (mVar 2) (mC (.int 1))))) (m2 dMul (m2 dIx (mVar 6) (mC (.int 2))) (m2 dIx (mVar 2) (mC (.int 2)))))) (sSeq (sAsg (.nm 5) (mF f_excess (aCons (mVar 6) (aCons (mVar 2) aNil)))) (sSeq (mIf (mOr (mB (m2 (dNe) (mCall bRepr (aCons (mVar 5) aNil)) (mCall bRepr (aCons (mF f__law_part (aCons (mVar 8) (aCons (m2 dIx (mVar 2) (mC (.int 2))) aNil))) aNil)))) (mB (m2 (dNe) (m2 dSub (mCall bInt (aCons (m2 (dCmp fun i j => decide (j < i)) (m2 dIx (mVar 5) (mC (.int 0))) (mC (.int 0))) aNil)) (mCall bInt (aCons (m2 (dCmp fun i j => decide (i < j)) (m2 dIx (mVar 5) (mC (.int 0))) (mC (.int 0))) aNil))) (m2 dSub (mC (.int 0)) (mVar 4))))) (sRet (mC (.bool false))) (sNx)) (sSeq (mIf (mB (m2 (dNe) (mCall bRepr (aCons (mFK f_excess [0, 1] (aCons (mVar 7) (aCons (mVar 2) aNil))) aNil)) (mCall bRepr (aCons (mTup (aCons (m2 dSub (mC (.int 0)) (m2 dIx (mVar 5) (mC (.int 0)))) (aCons (m2 dIx (mVar 5) (mC (.int 1))) aNil))) aNil)))) (sRet (mC (.bool false))) (sNx)) (sRet (m2 (dEq) (mCall bRepr (aCons (mL (mLst (aCons (mF f_excess (aCons (mVar 6) (aCons (mVar 0) aNil))) (aCons (mF f_excess (aCons (mVar 7) (aCons (mVar 1) aNil))) aNil)))) aNil)) (mC (.str "[(0, 1), (0, 1)]")))))))))))))))
def f__law_senses_right : Fn := fnM 3 9 g__law_senses_right
def lb__law_directions_right_0 : M Out := mIf (mB (m2 (dNe) (mCall bRepr (aCons (mF f_is_earlier (aCons (mVar 5) (aCons (mVar 6) aNil))) aNil)) (mCall bRepr (aCons (mAndV (m2 (dNe) (mVar 5) (mVar 6)) (mF f__law_before (aCons (mVar 5) (aCons (mVar 6) aNil)))) aNil)))) (sRet (mC (.bool false))) (sNx)
def lb__law_directions_right_1 : M Out := sFor (mIt (mVar 0)) (.nm 6) lb__law_directions_right_0
def g__law_directions_right : M Out := sSeq (sAsg (.nm 3) (mIf (mB (m2 (dNe) (mSl (mVar 1) oNo (oSome (mC (.int 2)))) (mTup (aCons (mC (.int 0)) (aCons (mC (.int 0)) aNil))))) (mF f__law_least (aCons (mSl (mVar 1) oNo (oSome (mC (.int 2)))) aNil)) (mC .none))) (sSeq (mIf (mB (m2 (dNe) (mCall bRepr (aCons (mL (mLst (aCons (mF f_direction_of (aCons (mVar 1) aNil)) (aCons (mFK f_direction_of [0] (aCons (mF f__law_grow (aCons (mVar 1) (aCons (mTup (aCons (mC (.int 7)) (aCons (mC (.int 3)) aNil))) aNil))) aNil)) aNil)))) aNil)) (mCall bRepr (aCons (mL (mLst (aCons (mVar 3) (aCons (mVar 3) aNil)))) aNil)))) (sRet (mC (.bool false))) (sNx)) (sSeq (sAsg (.nm 4) (mIf (mOr (mB (m2 (dIsN) (mVar 3) (mC .none))) (mB (m2 (dEq) (m2 dIx (mVar 2) (mC (.int 0))) (mC (.int 0))))) (mC .none) (mIf (mB (m2 (dCmp fun i j => decide (j < i)) (m2 dIx (mVar 2) (mC (.int 0))) (mC (.int 0)))) (mVar 3) (mTup (aCons (m2 dSub (mC (.int 0)) (m2 dIx (mVar 3) (mC (.int 0)))) (aCons (m2 dSub (mC (.int 0)) (m2 dIx (mVar 3) (mC (.int 1)))) aNil)))))) (sSeq (mIf (mB (m2 (dNe) (mCall bRepr (aCons (mF f_direction_of (aCons (mF f__law_grow (aCons (mVar 1) (aCons (mVar 2) aNil))) aNil)) aNil)) (mCall bRepr (aCons (mVar 4) aNil)))) (sRet (mC (.bool false))) (sNx)) (sSeq (sFor (mIt (mVar 0)) (.nm 5) lb__law_directions_right_1) (sRet (m2 (dEq) (mCall bRepr (aCons (mFK f_is_earlier [1, 0] (aCons (m2 dIx (mVar 0) (mC (.int 0))) (aCons (mTup (aCons (mC (.int 1)) (aCons (mC (.int 0)) aNil))) aNil))) aNil)) (mCall bRepr (aCons (m2 (dNe) (m2 dIx (mVar 0) (mC (.int 0))) (mTup (aCons (mC (.int 1)) (aCons (mC (.int 0)) aNil)))) aNil))))))))
def f__law_directions_right : Fn := fnM 3 7 g__law_directions_right
end WF
/-! points, fractions, sides, directions: the mathematics (out of wip/k02) -/
namespace K2
/-! ### points and fractions in least terms -/
def g2 (x y : Int) : Int := ((x.natAbs.gcd y.natAbs : Nat) : Int)
def g3 (x y w : Int) : Int := (((x.natAbs.gcd y.natAbs).gcd w.natAbs : Nat) : Int)
structure P3 where
  x : Int
  y : Int
  w : Int
structure P2 where
  n : Int
  d : Int
def Pt (p : P3) : Prop := 0 < p.w ∧ g3 p.x p.y p.w = 1
def Fr (f : P2) : Prop := 0 < f.d ∧ g2 f.n f.d = 1
def nm3 (x y w : Int) : P3 := ⟨x / g3 x y w, y / g3 x y w, w / g3 x y w⟩
def nm2 (n d : Int) : P2 := ⟨n / g2 n d, d / g2 n d⟩
theorem g3_x (x y w : Int) : g3 x y w ∣ x := Int.natAbs_dvd_natAbs.mp (Nat.dvd_trans (Nat.gcd_dvd_left _ _) (Nat.gcd_dvd_left _ _))
theorem g3_y (x y w : Int) : g3 x y w ∣ y := Int.natAbs_dvd_natAbs.mp (Nat.dvd_trans (Nat.gcd_dvd_left _ _) (Nat.gcd_dvd_right _ _))
theorem g3_w (x y w : Int) : g3 x y w ∣ w := Int.natAbs_dvd_natAbs.mp (Nat.gcd_dvd_right _ _)
theorem g2_x (x y : Int) : g2 x y ∣ x := Int.natAbs_dvd_natAbs.mp (Nat.gcd_dvd_left _ _)
theorem g2_y (x y : Int) : g2 x y ∣ y := Int.natAbs_dvd_natAbs.mp (Nat.gcd_dvd_right _ _)
theorem g3_pos {x y w : Int} (h : w ≠ 0) : 1 ≤ g3 x y w := by
  have : 0 < (x.natAbs.gcd y.natAbs).gcd w.natAbs := Nat.gcd_pos_of_pos_right _ (Int.natAbs_pos.mpr h)
  unfold g3
  omega
theorem g2_pos {x y : Int} (h : y ≠ 0) : 1 ≤ g2 x y := by
  have : 0 < x.natAbs.gcd y.natAbs := Nat.gcd_pos_of_pos_right _ (Int.natAbs_pos.mpr h)
  unfold g2
  omega
theorem g2_pos' {x y : Int} (h : x ≠ 0) : 1 ≤ g2 x y := by
  have : 0 < x.natAbs.gcd y.natAbs := Nat.gcd_pos_of_pos_left _ (Int.natAbs_pos.mpr h)
  unfold g2
  omega
theorem g2_nonneg (x y : Int) : 0 ≤ g2 x y := Int.natCast_nonneg _
theorem g3_nonneg (x y w : Int) : 0 ≤ g3 x y w := Int.natCast_nonneg _
theorem g2_scale {k x y : Int} (hk : 0 ≤ k) : g2 (k * x) (k * y) = k * g2 x y := by
  unfold g2
  rw [Int.natAbs_mul, Int.natAbs_mul, Nat.gcd_mul_left, Int.natCast_mul, Int.natAbs_of_nonneg hk]
theorem g3_scale {k x y w : Int} (hk : 0 ≤ k) : g3 (k * x) (k * y) (k * w) = k * g3 x y w := by
  unfold g3
  rw [Int.natAbs_mul, Int.natAbs_mul, Int.natAbs_mul, Nat.gcd_mul_left, Nat.gcd_mul_left, Int.natCast_mul, Int.natAbs_of_nonneg hk]
theorem ex3 {x y w : Int} (h : w ≠ 0) : ∃ g a b c : Int, 1 ≤ g ∧ x = g * a ∧ y = g * b ∧ w = g * c ∧ nm3 x y w = ⟨a, b, c⟩ ∧ g3 a b c = 1 := by
  have hg := g3_pos (x := x) (y := y) h
  obtain ⟨a, ha⟩ := g3_x x y w
  obtain ⟨b, hb⟩ := g3_y x y w
  obtain ⟨c, hc⟩ := g3_w x y w
  refine ⟨g3 x y w, a, b, c, hg, ha, hb, hc, ?_, ?_⟩
  · have q : ∀ {u v : Int}, u = g3 x y w * v → u / g3 x y w = v := fun {u v} e => by
      have e2 : u / g3 x y w = (g3 x y w * v) / g3 x y w := congrArg (· / g3 x y w) e
      rw [e2, Int.mul_ediv_cancel_left _ (show g3 x y w ≠ 0 by omega)]
    unfold nm3
    rw [q ha, q hb, q hc]
  · have e : g3 x y w = g3 x y w * g3 a b c := by
      have z := g3_scale (k := g3 x y w) (x := a) (y := b) (w := c) (by omega)
      rw [← ha, ← hb, ← hc] at z
      exact z
    have e2 : g3 x y w * 1 = g3 x y w * g3 a b c := by rw [Int.mul_one]; exact e
    exact (Int.eq_of_mul_eq_mul_left (show g3 x y w ≠ 0 by omega) e2).symm
theorem ex2 {x y : Int} (h : 1 ≤ g2 x y) : ∃ a b : Int, x = g2 x y * a ∧ y = g2 x y * b ∧ x / g2 x y = a ∧ y / g2 x y = b ∧ g2 a b = 1 := by
  obtain ⟨a, ha⟩ := g2_x x y
  obtain ⟨b, hb⟩ := g2_y x y
  have q : ∀ {u v : Int}, u = g2 x y * v → u / g2 x y = v := fun {u v} e => by
    have e2 : u / g2 x y = (g2 x y * v) / g2 x y := congrArg (· / g2 x y) e
    rw [e2, Int.mul_ediv_cancel_left _ (show g2 x y ≠ 0 by omega)]
  refine ⟨a, b, ha, hb, q ha, q hb, ?_⟩
  have e : g2 x y = g2 x y * g2 a b := by
    have z := g2_scale (k := g2 x y) (x := a) (y := b) (by omega)
    rw [← ha, ← hb] at z
    exact z
  have e2 : g2 x y * 1 = g2 x y * g2 a b := by rw [Int.mul_one]; exact e
  exact (Int.eq_of_mul_eq_mul_left (show g2 x y ≠ 0 by omega) e2).symm
theorem pos_of_mul {g c : Int} (hg : 1 ≤ g) (h : 0 < g * c) : 0 < c := by
  by_cases hc : 0 < c
  · exact hc
  · have : g * c ≤ 0 := Int.mul_nonpos_of_nonneg_of_nonpos (by omega) (by omega)
    omega
theorem nm3_pt {x y w : Int} (h : 0 < w) : Pt (nm3 x y w) := by
  obtain ⟨g, a, b, c, hg, _, _, hw, e, u⟩ := ex3 (x := x) (y := y) (show w ≠ 0 by omega)
  rw [e]
  exact ⟨pos_of_mul hg (hw ▸ h), u⟩
theorem nm2_fr {x y : Int} (h : 0 < y) : Fr (nm2 x y) := by
  obtain ⟨a, b, _, hy, e1, e2, u⟩ := ex2 (g2_pos (x := x) (show y ≠ 0 by omega))
  unfold nm2
  rw [e1, e2]
  refine ⟨pos_of_mul (g2_pos (x := x) (show y ≠ 0 by omega)) ?_, u⟩
  rw [← hy]
  exact h
/-! ### as rational numbers -/
def vx (p : P3) : Rat := (p.x : Rat) / (p.w : Rat)
def vy (p : P3) : Rat := (p.y : Rat) / (p.w : Rat)
def vf (f : P2) : Rat := (f.n : Rat) / (f.d : Rat)
theorem rat_ne {w : Int} (h : w ≠ 0) : (w : Rat) ≠ 0 := fun z => h (Rat.intCast_inj.mp (show (w : Rat) = ((0 : Int) : Rat) from z))
theorem nm3_vx {x y w : Int} (h : w ≠ 0) : vx (nm3 x y w) = (x : Rat) / (w : Rat) := by
  obtain ⟨g, a, b, c, hg, hx, hy, hw, e, u⟩ := ex3 (x := x) (y := y) h
  have hc : c ≠ 0 := fun z => h (by rw [hw, z, Int.mul_zero])
  rw [e, hx, hw]
  show (a : Rat) / (c : Rat) = _
  rw [Rat.intCast_mul, Rat.intCast_mul]
  have h1 := rat_ne hc
  have h2 := rat_ne (show g ≠ 0 by omega)
  grind
theorem nm3_vy {x y w : Int} (h : w ≠ 0) : vy (nm3 x y w) = (y : Rat) / (w : Rat) := by
  obtain ⟨g, a, b, c, hg, hx, hy, hw, e, u⟩ := ex3 (x := x) (y := y) h
  have hc : c ≠ 0 := fun z => h (by rw [hw, z, Int.mul_zero])
  rw [e, hy, hw]
  show (b : Rat) / (c : Rat) = _
  rw [Rat.intCast_mul, Rat.intCast_mul]
  have h1 := rat_ne hc
  have h2 := rat_ne (show g ≠ 0 by omega)
  grind
theorem nm2_vf {x y : Int} (h : y ≠ 0) : vf (nm2 x y) = (x : Rat) / (y : Rat) := by
  have hg := g2_pos (x := x) h
  obtain ⟨a, b, hx, hy, e1, e2, u⟩ := ex2 hg
  have hb : b ≠ 0 := fun z => h (by rw [hy, z, Int.mul_zero])
  unfold nm2 vf
  rw [e1, e2]
  generalize g2 x y = g at hg hx hy
  rw [hx, hy, Rat.intCast_mul, Rat.intCast_mul]
  have h1 := rat_ne hb
  have h2 := rat_ne (show g ≠ 0 by omega)
  grind
theorem cross {x w x' w' : Int} (h : w ≠ 0) (h' : w' ≠ 0) (e : (x : Rat) / (w : Rat) = (x' : Rat) / (w' : Rat)) : x * w' = x' * w := by
  have a := rat_ne h
  have b := rat_ne h'
  have c : (x : Rat) * (w' : Rat) = (x' : Rat) * (w : Rat) := by grind
  have d : ((x * w' : Int) : Rat) = ((x' * w : Int) : Rat) := by
    rw [Rat.intCast_mul, Rat.intCast_mul]
    exact c
  exact Rat.intCast_inj.mp d
theorem pt_ext {p q : P3} (hp : Pt p) (hq : Pt q) (ex : vx p = vx q) (ey : vy p = vy q) : p = q := by
  obtain ⟨x, y, w⟩ := p
  obtain ⟨u, v, t⟩ := q
  obtain ⟨h1, h2⟩ := hp
  obtain ⟨h3, h4⟩ := hq
  dsimp only at h1 h2 h3 h4
  have c1 : x * t = u * w := cross (show w ≠ 0 by omega) (show t ≠ 0 by omega) ex
  have c2 : y * t = v * w := cross (show w ≠ 0 by omega) (show t ≠ 0 by omega) ey
  have s1 := g3_scale (k := t) (x := x) (y := y) (w := w) (by omega)
  have s2 := g3_scale (k := w) (x := u) (y := v) (w := t) (by omega)
  rw [h2, Int.mul_one] at s1
  rw [h4, Int.mul_one] at s2
  have e : t = w := by
    have z : g3 (t * x) (t * y) (t * w) = g3 (w * u) (w * v) (w * t) := by
      rw [Int.mul_comm t x, c1, Int.mul_comm u w, Int.mul_comm t y, c2, Int.mul_comm v w, Int.mul_comm t w]
    exact s1.symm.trans (z.trans s2)
  subst e
  have ex' : x = u := Int.eq_of_mul_eq_mul_right (show t ≠ 0 by omega) c1
  have ey' : y = v := Int.eq_of_mul_eq_mul_right (show t ≠ 0 by omega) c2
  rw [ex', ey']
theorem fr_ext {p q : P2} (hp : Fr p) (hq : Fr q) (e : vf p = vf q) : p = q := by
  obtain ⟨x, w⟩ := p
  obtain ⟨u, t⟩ := q
  obtain ⟨h1, h2⟩ := hp
  obtain ⟨h3, h4⟩ := hq
  dsimp only at h1 h2 h3 h4
  have c1 : x * t = u * w := cross (show w ≠ 0 by omega) (show t ≠ 0 by omega) e
  have s1 := g2_scale (k := t) (x := x) (y := w) (by omega)
  have s2 := g2_scale (k := w) (x := u) (y := t) (by omega)
  rw [h2, Int.mul_one] at s1
  rw [h4, Int.mul_one] at s2
  have e : t = w := by
    have z : g2 (t * x) (t * w) = g2 (w * u) (w * t) := by
      rw [Int.mul_comm t x, c1, Int.mul_comm u w, Int.mul_comm t w]
    exact s1.symm.trans (z.trans s2)
  subst e
  have ex' : x = u := Int.eq_of_mul_eq_mul_right (show t ≠ 0 by omega) c1
  rw [ex']
theorem nm3_id {x y w : Int} (h : Pt ⟨x, y, w⟩) : nm3 x y w = ⟨x, y, w⟩ := by
  have hw : 0 < w := h.1
  refine pt_ext (nm3_pt hw) h ?_ ?_
  · rw [nm3_vx (show w ≠ 0 by omega)]
    rfl
  · rw [nm3_vy (show w ≠ 0 by omega)]
    rfl
def pSum (p q : P3) : P3 := nm3 (p.x * q.w + q.x * p.w) (p.y * q.w + q.y * p.w) (p.w * q.w)
def pGap (p q : P3) : P3 := nm3 (p.x * q.w - q.x * p.w) (p.y * q.w - q.y * p.w) (p.w * q.w)
def pTimes (p : P3) (f : P2) : P3 := nm3 (p.x * f.n) (p.y * f.n) (p.w * f.d)
def zx (p q : P3) : Int := q.x * p.w - p.x * q.w
def zy (p q : P3) : Int := q.y * p.w - p.y * q.w
def turnZ (p q r : P3) : Int := zx p q * (r.y * p.w - p.y * r.w) - zy p q * (r.x * p.w - p.x * r.w)
def Di (f : P2) : Prop := g2 f.n f.d = 1
def Sd (l : P3) : Prop := ¬ (l.x = 0 ∧ l.y = 0) ∧ g3 l.x l.y l.w = 1
def halfZ (f : P2) : Int := if 0 < f.d then 0 else if f.d = 0 then (if 0 < f.n then 0 else 1) else 1
def earl (p q : P2) : Bool := if halfZ p = halfZ q then decide (0 < p.n * q.d - p.d * q.n) else decide (halfZ p < halfZ q)
def sgnZ (z : Int) : Int := if 0 < z then 1 else if z < 0 then -1 else 0
def pBtw (p q : P3) (f : P2) : P3 := pSum p (pTimes (pGap q p) f)
def overZ (l p : P3) : Int := l.x * p.x + l.y * p.y - l.w * p.w
def bndF (p q : P3) : P2 := nm2 (zy p q * p.x + -zx p q * p.y) p.w
def gSide (p q : P3) : Int := g3 (zy p q * (bndF p q).d) (-zx p q * (bndF p q).d) (bndF p q).n
def pSide (p q : P3) : P3 := nm3 (zy p q * (bndF p q).d) (-zx p q * (bndF p q).d) (bndF p q).n
def partZ (t l : Int) : P2 := if 0 < l then nm2 t l else nm2 (-t) (-l)
theorem g2_neg (t l : Int) : g2 (-t) (-l) = g2 t l := by
  unfold g2
  rw [Int.natAbs_neg, Int.natAbs_neg]
def pMid (p q : P3) (f : P2) : P3 := pSum (pTimes p ⟨f.d - f.n, f.d⟩) (pTimes q f)
def pBack (p : P3) : P3 := ⟨0 - p.x, 0 - p.y, p.w⟩
def leftZ (p q r : P3) : Int := p.x * (q.y * r.w - q.w * r.y) - p.y * (q.x * r.w - q.w * r.x) + p.w * (q.x * r.y - q.y * r.x)
def pRim (p q : P3) : P3 := nm3 (p.w * q.y - p.y * q.w) (p.x * q.w - p.w * q.x) (p.x * q.y - p.y * q.x)
def fSum (p q : P2) : P2 := partZ (p.n * q.d + q.n * p.d) (p.d * q.d)
def fBy (p q : P2) : P2 := partZ (p.n * q.n) (p.d * q.d)
/-! ### bounds -/
/-! ### values -/
theorem frac_add {a b c d : Int} (hb : b ≠ 0) (hd : d ≠ 0) : ((a * d + c * b : Int) : Rat) / ((b * d : Int) : Rat) = (a : Rat) / (b : Rat) + (c : Rat) / (d : Rat) := by
  have h1 := rat_ne hb
  have h2 := rat_ne hd
  rw [Rat.intCast_add, Rat.intCast_mul, Rat.intCast_mul, Rat.intCast_mul]
  grind
theorem frac_sub {a b c d : Int} (hb : b ≠ 0) (hd : d ≠ 0) : ((a * d - c * b : Int) : Rat) / ((b * d : Int) : Rat) = (a : Rat) / (b : Rat) - (c : Rat) / (d : Rat) := by
  have h1 := rat_ne hb
  have h2 := rat_ne hd
  rw [Rat.intCast_sub, Rat.intCast_mul, Rat.intCast_mul, Rat.intCast_mul]
  grind
theorem frac_mul {a b c d : Int} (hb : b ≠ 0) (hd : d ≠ 0) : ((a * c : Int) : Rat) / ((b * d : Int) : Rat) = (a : Rat) / (b : Rat) * ((c : Rat) / (d : Rat)) := by
  have h1 := rat_ne hb
  have h2 := rat_ne hd
  rw [Rat.intCast_mul, Rat.intCast_mul]
  grind
theorem mul_ne {a b : Int} (ha : 0 < a) (hb : 0 < b) : a * b ≠ 0 := by
  have := Int.mul_pos ha hb
  omega
section
variable {p q : P3} {f g : P2}
theorem sum_pt (hp : 0 < p.w) (hq : 0 < q.w) : Pt (pSum p q) := nm3_pt (Int.mul_pos hp hq)
theorem gap_pt (hp : 0 < p.w) (hq : 0 < q.w) : Pt (pGap p q) := nm3_pt (Int.mul_pos hp hq)
theorem times_pt (hp : 0 < p.w) (hf : 0 < f.d) : Pt (pTimes p f) := nm3_pt (Int.mul_pos hp hf)
theorem sum_x (hp : 0 < p.w) (hq : 0 < q.w) : vx (pSum p q) = vx p + vx q := (nm3_vx (mul_ne hp hq)).trans (frac_add (by omega) (by omega))
theorem sum_y (hp : 0 < p.w) (hq : 0 < q.w) : vy (pSum p q) = vy p + vy q := (nm3_vy (mul_ne hp hq)).trans (frac_add (by omega) (by omega))
theorem gap_x (hp : 0 < p.w) (hq : 0 < q.w) : vx (pGap p q) = vx p - vx q := (nm3_vx (mul_ne hp hq)).trans (frac_sub (by omega) (by omega))
theorem gap_y (hp : 0 < p.w) (hq : 0 < q.w) : vy (pGap p q) = vy p - vy q := (nm3_vy (mul_ne hp hq)).trans (frac_sub (by omega) (by omega))
theorem times_x (hp : 0 < p.w) (hf : 0 < f.d) : vx (pTimes p f) = vx p * vf f := (nm3_vx (mul_ne hp hf)).trans (frac_mul (by omega) (by omega))
theorem times_y (hp : 0 < p.w) (hf : 0 < f.d) : vy (pTimes p f) = vy p * vf f := (nm3_vy (mul_ne hp hf)).trans (frac_mul (by omega) (by omega))
theorem part_fr {t l : Int} (h : l ≠ 0) : Fr (partZ t l) := by
  unfold partZ
  by_cases z : 0 < l
  · rw [if_pos z]
    exact nm2_fr z
  · rw [if_neg z]
    exact nm2_fr (by omega)
theorem part_v {t l : Int} (h : l ≠ 0) : vf (partZ t l) = (t : Rat) / (l : Rat) := by
  unfold partZ
  by_cases z : 0 < l
  · rw [if_pos z]
    exact nm2_vf h
  · rw [if_neg z, nm2_vf (show -l ≠ 0 by omega), Rat.intCast_neg, Rat.intCast_neg]
    have h1 := rat_ne h
    grind
theorem sum_comm (hp : 0 < p.w) (hq : 0 < q.w) : pSum p q = pSum q p := by
  refine pt_ext (sum_pt hp hq) (sum_pt hq hp) ?_ ?_
  · rw [sum_x hp hq, sum_x hq hp, Rat.add_comm]
  · rw [sum_y hp hq, sum_y hq hp, Rat.add_comm]
theorem gap_sum (hp : Pt p) (hq : 0 < q.w) : pGap (pSum p q) q = p := by
  have h1 := sum_pt hp.1 hq
  refine pt_ext (gap_pt h1.1 hq) hp ?_ ?_
  · rw [gap_x h1.1 hq, sum_x hp.1 hq]
    grind
  · rw [gap_y h1.1 hq, sum_y hp.1 hq]
    grind
theorem gap_back (hp : 0 < p.w) (hq : 0 < q.w) : pGap p q = pSum p (pBack q) := by
  have e1 : vx (pBack q) = - vx q := by
    show ((0 - q.x : Int) : Rat) / (q.w : Rat) = _
    rw [Rat.intCast_sub]
    unfold vx
    have := rat_ne (show q.w ≠ 0 by omega)
    grind
  have e2 : vy (pBack q) = - vy q := by
    show ((0 - q.y : Int) : Rat) / (q.w : Rat) = _
    rw [Rat.intCast_sub]
    unfold vy
    have := rat_ne (show q.w ≠ 0 by omega)
    grind
  have hb : 0 < (pBack q).w := hq
  refine pt_ext (gap_pt hp hq) (sum_pt hp hb) ?_ ?_
  · rw [gap_x hp hq, sum_x hp hb, e1]
    grind
  · rw [gap_y hp hq, sum_y hp hb, e2]
    grind
theorem zero_pt : Pt ⟨0, 0, 1⟩ := ⟨by decide, by decide⟩
theorem one_fr : Fr ⟨1, 1⟩ := ⟨by decide, by decide⟩
theorem nul_fr : Fr ⟨0, 1⟩ := ⟨by decide, by decide⟩
theorem one_vf : vf ⟨1, 1⟩ = 1 := by
  show ((1 : Int) : Rat) / ((1 : Int) : Rat) = 1
  grind
theorem nul_vf : vf ⟨0, 1⟩ = 0 := by
  show ((0 : Int) : Rat) / ((1 : Int) : Rat) = 0
  grind
theorem gap_self (hp : 0 < p.w) : pGap p p = ⟨0, 0, 1⟩ := by
  have e1 : vx ⟨0, 0, 1⟩ = 0 := by
    show ((0 : Int) : Rat) / ((1 : Int) : Rat) = 0
    grind
  have e2 : vy ⟨0, 0, 1⟩ = 0 := by
    show ((0 : Int) : Rat) / ((1 : Int) : Rat) = 0
    grind
  refine pt_ext (gap_pt hp hp) zero_pt ?_ ?_
  · rw [gap_x hp hp, e1]
    grind
  · rw [gap_y hp hp, e2]
    grind
theorem times_one (hp : Pt p) : pTimes p ⟨1, 1⟩ = p := by
  refine pt_ext (times_pt hp.1 (by decide)) hp ?_ ?_
  · rw [times_x hp.1 (by decide), one_vf]
    grind
  · rw [times_y hp.1 (by decide), one_vf]
    grind
theorem times_back (hp : Pt p) (hf : 0 < f.d) (hn : f.n ≠ 0) : pTimes (pTimes p f) (partZ f.d f.n) = p := by
  have h1 := times_pt hp.1 hf
  have h2 := part_fr (t := f.d) hn
  have e : vf f * vf (partZ f.d f.n) = 1 := by
    rw [part_v hn]
    unfold vf
    have a := rat_ne hn
    have b := rat_ne (show f.d ≠ 0 by omega)
    grind
  refine pt_ext (times_pt h1.1 h2.1) hp ?_ ?_
  · rw [times_x h1.1 h2.1, times_x hp.1 hf]
    grind
  · rw [times_y h1.1 h2.1, times_y hp.1 hf]
    grind
def pAt (f g : P2) : P3 := nm3 (f.n * g.d) (g.n * f.d) (f.d * g.d)
theorem at_x (hf : 0 < f.d) (hg : 0 < g.d) : vx (pAt f g) = vf f := by
  refine (nm3_vx (mul_ne hf hg)).trans ?_
  rw [Rat.intCast_mul, Rat.intCast_mul]
  unfold vf
  have a := rat_ne (show g.d ≠ 0 by omega)
  have b := rat_ne (show f.d ≠ 0 by omega)
  grind
theorem at_y (hf : 0 < f.d) (hg : 0 < g.d) : vy (pAt f g) = vf g := by
  refine (nm3_vy (mul_ne hf hg)).trans ?_
  rw [Rat.intCast_mul, Rat.intCast_mul]
  unfold vf
  have a := rat_ne (show g.d ≠ 0 by omega)
  have b := rat_ne (show f.d ≠ 0 by omega)
  grind
theorem swap_pt {x y w : Int} (h : Pt ⟨x, y, w⟩) : Pt ⟨y, x, w⟩ := by
  refine ⟨h.1, ?_⟩
  have z := h.2
  unfold g3 at z ⊢
  dsimp only at z ⊢
  rw [Nat.gcd_comm y.natAbs x.natAbs]
  exact z
theorem at_of (hp : Pt p) : pAt (partZ p.x p.w) (partZ p.y p.w) = p := by
  have hw : p.w ≠ 0 := by have := hp.1; omega
  have h1 := part_fr (t := p.x) hw
  have h2 := part_fr (t := p.y) hw
  refine pt_ext (nm3_pt (Int.mul_pos h1.1 h2.1)) hp ?_ ?_
  · rw [at_x h1.1 h2.1, part_v hw]
    rfl
  · rw [at_y h1.1 h2.1, part_v hw]
    rfl
/-- between -/
theorem btw_pt (hp : 0 < p.w) (hq : 0 < q.w) (hf : 0 < f.d) : Pt (pBtw p q f) := sum_pt hp (times_pt (gap_pt hq hp).1 hf).1
theorem btw_x (hp : 0 < p.w) (hq : 0 < q.w) (hf : 0 < f.d) : vx (pBtw p q f) = vx p + (vx q - vx p) * vf f := by
  unfold pBtw
  rw [sum_x hp (times_pt (gap_pt hq hp).1 hf).1, times_x (gap_pt hq hp).1 hf, gap_x hq hp]
theorem btw_y (hp : 0 < p.w) (hq : 0 < q.w) (hf : 0 < f.d) : vy (pBtw p q f) = vy p + (vy q - vy p) * vf f := by
  unfold pBtw
  rw [sum_y hp (times_pt (gap_pt hq hp).1 hf).1, times_y (gap_pt hq hp).1 hf, gap_y hq hp]
theorem com_vf (hf : 0 < f.d) : vf ⟨f.d - f.n, f.d⟩ = 1 - vf f := by
  unfold vf
  dsimp only
  rw [Rat.intCast_sub]
  have b := rat_ne (show f.d ≠ 0 by omega)
  grind
theorem mid_btw (hp : 0 < p.w) (hq : 0 < q.w) (hf : 0 < f.d) : pBtw p q f = pMid p q f := by
  have h1 := times_pt (p := p) (f := ⟨f.d - f.n, f.d⟩) hp hf
  have h2 := times_pt (p := q) hq hf
  refine pt_ext (btw_pt hp hq hf) (sum_pt h1.1 h2.1) ?_ ?_
  · unfold pMid
    rw [btw_x hp hq hf, sum_x h1.1 h2.1, times_x (f := ⟨f.d - f.n, f.d⟩) hp hf, times_x hq hf, com_vf hf]
    grind
  · unfold pMid
    rw [btw_y hp hq hf, sum_y h1.1 h2.1, times_y (f := ⟨f.d - f.n, f.d⟩) hp hf, times_y hq hf, com_vf hf]
    grind
theorem fsum_v (hf : 0 < f.d) (hg : 0 < g.d) : Fr (fSum f g) ∧ vf (fSum f g) = vf f + vf g := ⟨part_fr (mul_ne hf hg), (part_v (mul_ne hf hg)).trans (frac_add (by omega) (by omega))⟩
theorem fby_v (hf : 0 < f.d) (hg : 0 < g.d) : Fr (fBy f g) ∧ vf (fBy f g) = vf f * vf g := ⟨part_fr (mul_ne hf hg), (part_v (mul_ne hf hg)).trans (frac_mul (by omega) (by omega))⟩
theorem neg_vf (hf : 0 < f.d) : vf ⟨0 - f.n, f.d⟩ = - vf f := by
  unfold vf
  dsimp only
  rw [Rat.intCast_sub]
  have b := rat_ne (show f.d ≠ 0 by omega)
  grind
theorem btw_turn (hp : 0 < p.w) (hq : 0 < q.w) (hf : 0 < f.d) : pBtw q p (fSum ⟨1, 1⟩ ⟨0 - f.n, f.d⟩) = pBtw p q f := by
  obtain ⟨h1, h2⟩ := fsum_v (f := ⟨1, 1⟩) (g := ⟨0 - f.n, f.d⟩) (by decide) hf
  rw [one_vf, neg_vf hf] at h2
  refine pt_ext (btw_pt hq hp h1.1) (btw_pt hp hq hf) ?_ ?_
  · rw [btw_x hq hp h1.1, btw_x hp hq hf, h2]
    grind
  · rw [btw_y hq hp h1.1, btw_y hp hq hf, h2]
    grind
theorem btw_zero (hp : Pt p) (hq : 0 < q.w) : pBtw p q ⟨0, 1⟩ = p := by
  refine pt_ext (btw_pt hp.1 hq (by decide)) hp ?_ ?_
  · rw [btw_x hp.1 hq (by decide), nul_vf]
    grind
  · rw [btw_y hp.1 hq (by decide), nul_vf]
    grind
theorem btw_one (hp : 0 < p.w) (hq : Pt q) : pBtw p q ⟨1, 1⟩ = q := by
  refine pt_ext (btw_pt hp hq.1 (by decide)) hq ?_ ?_
  · rw [btw_x hp hq.1 (by decide), one_vf]
    grind
  · rw [btw_y hp hq.1 (by decide), one_vf]
    grind
theorem btw_btw (hp : 0 < p.w) (hq : 0 < q.w) (hf : 0 < f.d) (hg : 0 < g.d) : pBtw p (pBtw p q f) g = pBtw p q (fBy f g) := by
  obtain ⟨h1, h2⟩ := fby_v hf hg
  have h3 := btw_pt hp hq hf
  refine pt_ext (btw_pt hp h3.1 hg) (btw_pt hp hq h1.1) ?_ ?_
  · rw [btw_x hp h3.1 hg, btw_x hp hq hf, btw_x hp hq h1.1, h2]
    grind
  · rw [btw_y hp h3.1 hg, btw_y hp hq hf, btw_y hp hq h1.1, h2]
    grind
end
theorem sgn_mul {g z : Int} (h : 0 < g) : sgnZ (g * z) = sgnZ z := by
  unfold sgnZ
  rcases Int.lt_trichotomy z 0 with q | q | q
  · have : g * z < 0 := Int.mul_neg_of_pos_of_neg h q
    rw [if_neg (by omega), if_pos this, if_neg (by omega), if_pos q]
  · subst q
    rw [Int.mul_zero]
  · have : 0 < g * z := Int.mul_pos h q
    rw [if_pos this, if_pos q]
theorem sgn_neg (z : Int) : sgnZ (-z) = - sgnZ z := by
  unfold sgnZ
  rcases Int.lt_trichotomy z 0 with q | q | q
  · rw [if_pos (by omega), if_neg (by omega), if_pos q]
    rfl
  · subst q
    rfl
  · rw [if_neg (by omega), if_pos (by omega), if_pos q]
theorem turn_left (p q r : P3) : turnZ p q r = p.w * leftZ p q r := by
  unfold turnZ leftZ zx zy
  grind
theorem left_cyc (p q r : P3) : leftZ q r p = leftZ p q r := by
  unfold leftZ
  grind
theorem left_swap (p q r : P3) : leftZ q p r = - leftZ p q r := by
  unfold leftZ
  grind
theorem turn_aa (p r : P3) : turnZ p p r = 0 := by
  unfold turnZ zx zy
  grind
theorem turn_bb (p q : P3) : turnZ p q q = 0 := by
  unfold turnZ zx zy
  grind
theorem ex3g {x y w : Int} (hg : 1 ≤ g3 x y w) : ∃ a b c : Int, x = g3 x y w * a ∧ y = g3 x y w * b ∧ w = g3 x y w * c ∧ nm3 x y w = ⟨a, b, c⟩ ∧ g3 a b c = 1 := by
  obtain ⟨a, ha⟩ := g3_x x y w
  obtain ⟨b, hb⟩ := g3_y x y w
  obtain ⟨c, hc⟩ := g3_w x y w
  refine ⟨a, b, c, ha, hb, hc, ?_, ?_⟩
  · have q : ∀ {u v : Int}, u = g3 x y w * v → u / g3 x y w = v := fun {u v} e => by
      have e2 : u / g3 x y w = (g3 x y w * v) / g3 x y w := congrArg (· / g3 x y w) e
      rw [e2, Int.mul_ediv_cancel_left _ (show g3 x y w ≠ 0 by omega)]
    unfold nm3
    rw [q ha, q hb, q hc]
  · have e : g3 x y w = g3 x y w * g3 a b c := by
      have z := g3_scale (k := g3 x y w) (x := a) (y := b) (w := c) (by omega)
      rw [← ha, ← hb, ← hc] at z
      exact z
    have e2 : g3 x y w * 1 = g3 x y w * g3 a b c := by rw [Int.mul_one]; exact e
    exact (Int.eq_of_mul_eq_mul_left (show g3 x y w ≠ 0 by omega) e2).symm
/-- the numbers of a side before they are divided -/
def sa (p q : P3) : Int := p.w * q.y - p.y * q.w
def sb (p q : P3) : Int := p.x * q.w - p.w * q.x
def sc (p q : P3) : Int := p.x * q.y - p.y * q.x
theorem rim_eq (p q : P3) : pRim p q = nm3 (sa p q) (sb p q) (sc p q) := rfl
theorem same_of {p q : P3} (hp : Pt p) (hq : Pt q) (h1 : sa p q = 0) (h2 : sb p q = 0) : p = q := by
  have w1 := rat_ne (show p.w ≠ 0 by have := hp.1; omega)
  have w2 := rat_ne (show q.w ≠ 0 by have := hq.1; omega)
  have e1 : p.x * q.w = p.w * q.x := by unfold sb at h2; omega
  have e2 : p.w * q.y = p.y * q.w := by unfold sa at h1; omega
  have r1 : (p.x : Rat) * (q.w : Rat) = (p.w : Rat) * (q.x : Rat) := by rw [← Rat.intCast_mul, ← Rat.intCast_mul, e1]
  have r2 : (p.w : Rat) * (q.y : Rat) = (p.y : Rat) * (q.w : Rat) := by rw [← Rat.intCast_mul, ← Rat.intCast_mul, e2]
  refine pt_ext hp hq ?_ ?_
  · unfold vx
    grind
  · unfold vy
    grind
theorem side_g {p q : P3} (hp : Pt p) (hq : Pt q) (ne : p ≠ q) : 1 ≤ g3 (sa p q) (sb p q) (sc p q) := by
  have pos : 0 < ((sa p q).natAbs.gcd (sb p q).natAbs).gcd (sc p q).natAbs := by
    refine Nat.gcd_pos_of_pos_left _ ?_
    by_cases z : sa p q = 0
    · by_cases z2 : sb p q = 0
      · exact absurd (same_of hp hq z z2) ne
      · exact Nat.gcd_pos_of_pos_right _ (Int.natAbs_pos.mpr z2)
    · exact Nat.gcd_pos_of_pos_left _ (Int.natAbs_pos.mpr z)
  unfold g3
  omega
theorem g3_lt {x y w m : Int} (hx : x ≠ 0 ∨ y ≠ 0) (x0 : -m ≤ x) (x1 : x ≤ m) (y0 : -m ≤ y) (y1 : y ≤ m) : g3 x y w ≤ m := by
  rcases hx with h | h
  · have := Int.le_of_dvd (show 0 < (x.natAbs : Int) by omega) (Int.dvd_natAbs.mpr (g3_x x y w))
    omega
  · have := Int.le_of_dvd (show 0 < (y.natAbs : Int) by omega) (Int.dvd_natAbs.mpr (g3_y x y w))
    omega
theorem bnd_eq {p q : P3} (hp : 0 < p.w) : bndF p q = ⟨sc p q, 1⟩ := by
  have e : zy p q * p.x + -zx p q * p.y = p.w * sc p q := by
    unfold zy zx sc
    grind
  have g : g2 (p.w * sc p q) p.w = p.w := by
    have z := g2_scale (k := p.w) (x := sc p q) (y := 1) (by omega)
    rw [Int.mul_one] at z
    rw [z]
    unfold g2
    rw [show (1 : Int).natAbs = 1 from rfl, Nat.gcd_one_right]
    show p.w * 1 = p.w
    rw [Int.mul_one]
  unfold bndF nm2
  rw [e, g, Int.mul_ediv_cancel_left _ (show p.w ≠ 0 by omega), Int.ediv_self (show p.w ≠ 0 by omega)]
theorem zy_sa (p q : P3) : zy p q = sa p q := by
  unfold zy sa
  grind
theorem zx_sb (p q : P3) : -zx p q = sb p q := by
  unfold zx sb
  grind
theorem gside_eq {p q : P3} (hp : 0 < p.w) : gSide p q = g3 (sa p q) (sb p q) (sc p q) := by
  unfold gSide
  rw [bnd_eq hp, zy_sa, zx_sb]
  show g3 (sa p q * 1) (sb p q * 1) (sc p q) = _
  rw [Int.mul_one, Int.mul_one]
theorem pside_eq {p q : P3} (hp : 0 < p.w) : pSide p q = pRim p q := by
  unfold pSide
  rw [bnd_eq hp, zy_sa, zx_sb, rim_eq]
  show nm3 (sa p q * 1) (sb p q * 1) (sc p q) = _
  rw [Int.mul_one, Int.mul_one]
theorem rim_sd {p q : P3} (hp : Pt p) (hq : Pt q) (ne : p ≠ q) : Sd (pRim p q) := by
  have hg := side_g hp hq ne
  obtain ⟨a, b, c, ha, hb, hc, e, u⟩ := ex3g hg
  rw [rim_eq, e]
  refine ⟨fun z => ?_, u⟩
  obtain ⟨z1, z2⟩ := z
  dsimp only at z1 z2
  rw [z1, Int.mul_zero] at ha
  rw [z2, Int.mul_zero] at hb
  exact ne (same_of hp hq ha hb)
/-- over the side, times what it was divided by -/
theorem over_left {p q r : P3} (hp : Pt p) (hq : Pt q) (ne : p ≠ q) : g3 (sa p q) (sb p q) (sc p q) * overZ (pRim p q) r = - leftZ p q r := by
  have hg := side_g hp hq ne
  obtain ⟨a, b, c, ha, hb, hc, e, u⟩ := ex3g hg
  have e2 : sa p q * r.x + sb p q * r.y - sc p q * r.w = - leftZ p q r := by
    unfold sa sb sc leftZ
    grind
  rw [rim_eq, e]
  unfold overZ
  dsimp only
  generalize g3 (sa p q) (sb p q) (sc p q) = g at ha hb hc
  rw [ha, hb, hc] at e2
  grind
theorem over_sgn {p q r : P3} (hp : Pt p) (hq : Pt q) (ne : p ≠ q) : sgnZ (overZ (pRim p q) r) = - sgnZ (leftZ p q r) := by
  have hg := side_g hp hq ne
  rw [← sgn_mul (g := g3 (sa p q) (sb p q) (sc p q)) (by omega), over_left hp hq ne, sgn_neg]
theorem over_zero {p q r : P3} (hp : Pt p) (hq : Pt q) (ne : p ≠ q) (h : leftZ p q r = 0) : overZ (pRim p q) r = 0 := by
  have hg := side_g hp hq ne
  have z := over_left (r := r) hp hq ne
  rw [h] at z
  rcases Int.mul_eq_zero.mp (show g3 (sa p q) (sb p q) (sc p q) * overZ (pRim p q) r = 0 by omega) with y | y
  · omega
  · exact y
theorem sa_swap (p q : P3) : sa q p = - sa p q := by
  unfold sa
  grind
theorem sb_swap (p q : P3) : sb q p = - sb p q := by
  unfold sb
  grind
theorem sc_swap (p q : P3) : sc q p = - sc p q := by
  unfold sc
  grind
theorem over_swap {p q r : P3} (hp : Pt p) (hq : Pt q) (ne : p ≠ q) : overZ (pRim q p) r = - overZ (pRim p q) r := by
  have h1 := over_left (r := r) hp hq ne
  have h2 := over_left (r := r) hq hp (fun z => ne z.symm)
  have hg := side_g hp hq ne
  have e : g3 (sa q p) (sb q p) (sc q p) = g3 (sa p q) (sb p q) (sc p q) := by
    rw [sa_swap, sb_swap, sc_swap]
    unfold g3
    rw [Int.natAbs_neg, Int.natAbs_neg, Int.natAbs_neg]
  rw [e, left_swap] at h2
  generalize g3 (sa p q) (sb p q) (sc p q) = g at h1 h2 hg
  refine Int.eq_of_mul_eq_mul_left (show g ≠ 0 by omega) ?_
  rw [h2, Int.mul_neg, h1]
theorem nm2_neg (n d : Int) (h : d ≠ 0) : nm2 (-n) d = ⟨0 - (nm2 n d).n, (nm2 n d).d⟩ := by
  have hg := g2_pos (x := n) h
  have eg : g2 (-n) d = g2 n d := by
    unfold g2
    rw [Int.natAbs_neg]
  obtain ⟨a, b, ha, hb, e1, e2, _⟩ := ex2 hg
  unfold nm2
  dsimp only
  rw [eg, e1, e2]
  have e3 : -n = g2 n d * -a := by rw [Int.mul_neg, ← ha]
  rw [e3, Int.mul_ediv_cancel_left _ (show g2 n d ≠ 0 by omega), Int.zero_sub]
theorem nm2_zero {d : Int} (h : 0 < d) : nm2 0 d = ⟨0, 1⟩ := by
  have e : g2 0 d = d := by
    unfold g2
    rw [show (0 : Int).natAbs = 0 from rfl, Nat.gcd_zero_left]
    omega
  unfold nm2
  rw [e, Int.zero_ediv, Int.ediv_self (show d ≠ 0 by omega)]
theorem nm2_sgn {n d : Int} (h : 0 < d) : sgnZ (nm2 n d).n = sgnZ n := by
  have hg := g2_pos (x := n) (show d ≠ 0 by omega)
  obtain ⟨a, b, ha, hb, e1, e2, _⟩ := ex2 hg
  show sgnZ (n / g2 n d) = sgnZ n
  rw [e1]
  have z := sgn_mul (z := a) (show 0 < g2 n d by omega)
  rw [← ha] at z
  exact z.symm
theorem sgn_int (z : Int) : (if 0 < z then 1 else 0) - (if z < 0 then 1 else 0) = sgnZ z := by
  unfold sgnZ
  split <;> split <;> omega
theorem nm2_scale {k x y : Int} (hk : 0 < k) : nm2 (k * x) (k * y) = nm2 x y := by
  have e := g2_scale (x := x) (y := y) (show 0 ≤ k by omega)
  unfold nm2
  rw [e, Int.mul_ediv_mul_of_pos _ _ hk, Int.mul_ediv_mul_of_pos _ _ hk]
theorem g2_zero {x y : Int} : g2 x y = 0 ↔ x = 0 ∧ y = 0 := by
  refine ⟨fun h => ?_, fun ⟨h1, h2⟩ => by rw [h1, h2]; rfl⟩
  by_cases hx : x = 0
  · by_cases hy : y = 0
    · exact ⟨hx, hy⟩
    · have := g2_pos (x := x) hy
      omega
  · have := g2_pos' (y := y) hx
    omega
/-- the direction of a point grown by a fraction -/
theorem grow_dir {p : P3} {f : P2} (hp : 0 < p.w) (hf : 0 < f.d) (hn : 0 < f.n) : nm2 (pTimes p f).x (pTimes p f).y = nm2 p.x p.y ∧ (g2 (pTimes p f).x (pTimes p f).y = 0 ↔ g2 p.x p.y = 0) := by
  obtain ⟨g, a, b, c, hg, hx, hy, hw, e, u⟩ := ex3 (x := p.x * f.n) (y := p.y * f.n) (mul_ne hp hf)
  have e2 : pTimes p f = ⟨a, b, c⟩ := e
  rw [e2]
  dsimp only
  rw [Int.mul_comm] at hx hy
  refine ⟨?_, ?_⟩
  · rw [← nm2_scale (k := g) (x := a) (y := b) (by omega), ← hx, ← hy, nm2_scale hn]
  · have k1 := g2_scale (k := g) (x := a) (y := b) (by omega)
    have k2 := g2_scale (k := f.n) (x := p.x) (y := p.y) (by omega)
    rw [hx, hy] at k2
    rw [k1] at k2
    refine ⟨fun z => ?_, fun z => ?_⟩
    · rw [z, Int.mul_zero] at k2
      rcases Int.mul_eq_zero.mp k2.symm with y | y
      · omega
      · exact y
    · rw [z, Int.mul_zero] at k2
      rcases Int.mul_eq_zero.mp k2 with y | y
      · omega
      · exact y
theorem grow_zero {p : P3} {f : P2} (hp : 0 < p.w) (hf : 0 < f.d) (hn : f.n = 0) : g2 (pTimes p f).x (pTimes p f).y = 0 := by
  obtain ⟨g, a, b, c, hg, hx, hy, hw, e, u⟩ := ex3 (x := p.x * f.n) (y := p.y * f.n) (mul_ne hp hf)
  have e2 : pTimes p f = ⟨a, b, c⟩ := e
  rw [e2]
  dsimp only
  rw [hn, Int.mul_zero] at hx hy
  refine g2_zero.mpr ⟨?_, ?_⟩
  · rcases Int.mul_eq_zero.mp hx.symm with y | y
    · omega
    · exact y
  · rcases Int.mul_eq_zero.mp hy.symm with y | y
    · omega
    · exact y
theorem nm2_both (x y : Int) (h : 1 ≤ g2 x y) : nm2 (-x) (-y) = ⟨0 - (nm2 x y).n, 0 - (nm2 x y).d⟩ := by
  obtain ⟨a, b, ha, hb, e1, e2, _⟩ := ex2 h
  have hn : ∀ {u v : Int}, u = g2 x y * v → -u / g2 x y = -v := fun {u v} e => by
    have e3 : -u = g2 x y * -v := by rw [e, Int.mul_neg]
    rw [e3, Int.mul_ediv_cancel_left _ (show g2 x y ≠ 0 by omega)]
  unfold nm2
  dsimp only
  rw [g2_neg, hn ha, hn hb, e1, e2, Int.zero_sub, Int.zero_sub]
theorem grow_neg {p : P3} {f : P2} (hp : 0 < p.w) (hf : 0 < f.d) (hn : f.n < 0) (h : 1 ≤ g2 p.x p.y) : nm2 (pTimes p f).x (pTimes p f).y = ⟨0 - (nm2 p.x p.y).n, 0 - (nm2 p.x p.y).d⟩ ∧ g2 (pTimes p f).x (pTimes p f).y ≠ 0 := by
  obtain ⟨g, a, b, c, hg, hx, hy, hw, e, u⟩ := ex3 (x := p.x * f.n) (y := p.y * f.n) (mul_ne hp hf)
  have e2 : pTimes p f = ⟨a, b, c⟩ := e
  rw [e2]
  dsimp only
  have hx' : -f.n * -p.x = g * a := by rw [Int.neg_mul_neg, Int.mul_comm]; exact hx
  have hy' : -f.n * -p.y = g * b := by rw [Int.neg_mul_neg, Int.mul_comm]; exact hy
  refine ⟨?_, fun z => ?_⟩
  · rw [← nm2_scale (k := g) (x := a) (y := b) (by omega), ← hx', ← hy', nm2_scale (by omega), nm2_both _ _ h]
  · have k1 := g2_scale (k := g) (x := a) (y := b) (by omega)
    have k2 := g2_scale (k := -f.n) (x := -p.x) (y := -p.y) (by omega)
    rw [hx', hy', k1, z, Int.mul_zero, g2_neg] at k2
    rcases Int.mul_eq_zero.mp k2.symm with y | y
    · omega
    · omega
theorem g2_bd {x y m : Int} (hm : 0 ≤ m) (x0 : -m ≤ x) (x1 : x ≤ m) (y0 : -m ≤ y) (y1 : y ≤ m) : g2 x y ≤ m := by
  by_cases hx : x = 0
  · by_cases hy : y = 0
    · rw [g2_zero.mpr ⟨hx, hy⟩]
      exact hm
    · have := Int.le_of_dvd (show 0 < (y.natAbs : Int) by omega) (Int.dvd_natAbs.mpr (g2_y x y))
      omega
  · have := Int.le_of_dvd (show 0 < (x.natAbs : Int) by omega) (Int.dvd_natAbs.mpr (g2_x x y))
    omega
theorem earl_self (p : P2) : earl p p = false := by
  unfold earl
  rw [if_pos rfl]
  refine decide_eq_false ?_
  rw [Int.mul_comm]
  omega
theorem earl_one {f : P2} (h : Di f) : earl ⟨1, 0⟩ f = !(f.n == 1 && f.d == 0) := by
  obtain ⟨n, d⟩ := f
  have h1 : g2 n d = 1 := h
  have e0 : halfZ ⟨1, 0⟩ = 0 := rfl
  unfold earl
  rw [e0]
  by_cases hd : 0 < d
  · have e1 : halfZ ⟨n, d⟩ = 0 := if_pos hd
    rw [e1, if_pos rfl]
    have e2 : (n == 1 && d == 0) = false := by
      refine Bool.eq_false_iff.mpr fun z => ?_
      have := eq_of_beq (Bool.and_eq_true_iff.mp z).2
      omega
    rw [e2]
    exact decide_eq_true (by show 0 < 1 * d - 0 * n; omega)
  · by_cases hz : d = 0
    · subst hz
      have hn : n.natAbs = 1 := by
        have z : ((n.natAbs.gcd 0 : Nat) : Int) = 1 := h1
        rw [Nat.gcd_zero_right] at z
        omega
      by_cases hp : 0 < n
      · have en : n = 1 := by omega
        subst en
        have e1 : halfZ ⟨1, 0⟩ = 0 := rfl
        rw [e1, if_pos rfl]
        rfl
      · have e1 : halfZ ⟨n, 0⟩ = 1 := (if_neg hd).trans ((if_pos rfl).trans (if_neg hp))
        rw [e1, if_neg (by decide)]
        have e2 : (n == 1 && (0 : Int) == 0) = false := by
          refine Bool.eq_false_iff.mpr fun z => ?_
          have := eq_of_beq (Bool.and_eq_true_iff.mp z).1
          omega
        rw [e2]
        rfl
    · have e1 : halfZ ⟨n, d⟩ = 1 := (if_neg hd).trans (if_neg hz)
      rw [e1, if_neg (by decide)]
      have e2 : (n == 1 && d == 0) = false := by
        refine Bool.eq_false_iff.mpr fun z => ?_
        have := eq_of_beq (Bool.and_eq_true_iff.mp z).2
        omega
      rw [e2]
      rfl
end K2
/-! what the program's defs on points tell -/
namespace WF
open PySem PySem.Spec PyProof.Rows L2 PL
abbrev dp (p : K2.P3) : D := pD p.x p.y p.w
abbrev df (f : K2.P2) : D := fD f.n f.d
theorem nm3_dp {x y w : Int} : nm3 x y w = dp (K2.nm3 x y w) := rfl
theorem nm2_df {x y : Int} : fD (nmN x y) (nmD x y) = df (K2.nm2 x y) := rfl
/-- a point of few figures -/
def PB (n : Nat) (p : K2.P3) : Prop := K2.Pt p ∧ Bi p.x n ∧ Bi p.y n ∧ Bi p.w n
def FB (n : Nat) (f : K2.P2) : Prop := K2.Fr f ∧ Bi f.n n ∧ Bi f.d n
theorem nmB {x y w : Int} {n : Nat} (hw : 0 < w) (hx : Bi x n) (hy : Bi y n) (hn : Bi w n) : PB n (K2.nm3 x y w) := ⟨K2.nm3_pt hw, ⟨Bi.div_le hx.h⟩, ⟨Bi.div_le hy.h⟩, ⟨Bi.div_le hn.h⟩⟩
theorem nm2B {x y : Int} {n : Nat} (hy : 0 < y) (hx : Bi x n) (hn : Bi y n) : FB n (K2.nm2 x y) := ⟨K2.nm2_fr hy, ⟨Bi.div_le hx.h⟩, ⟨Bi.div_le hn.h⟩⟩
theorem partB {x y : Int} {n : Nat} (hy : y ≠ 0) (hx : Bi x n) (hn : Bi y n) : FB n (K2.partZ x y) := by
  unfold K2.partZ
  by_cases z : 0 < y
  · rw [if_pos z]
    exact nm2B z hx hn
  · rw [if_neg z]
    exact nm2B (by omega) biNeg biNeg
theorem PB.sum {a b : Nat} {p q : K2.P3} (hp : PB a p) (hq : PB b q) : PB (a + b + (a + b) + 1) (K2.pSum p q) := by
  obtain ⟨⟨p0, p1⟩, px, py, pw⟩ := hp
  obtain ⟨⟨q0, q1⟩, qx, qy, qw⟩ := hq
  exact nmB (Int.mul_pos p0 q0) ((inferInstance : Bi (p.x * q.w + q.x * p.w) _).mono (by omega)) ((inferInstance : Bi (p.y * q.w + q.y * p.w) _).mono (by omega)) ((inferInstance : Bi (p.w * q.w) _).mono (by omega))
theorem PB.gap {a b : Nat} {p q : K2.P3} (hp : PB a p) (hq : PB b q) : PB (a + b + (a + b) + 1) (K2.pGap p q) := by
  obtain ⟨⟨p0, p1⟩, px, py, pw⟩ := hp
  obtain ⟨⟨q0, q1⟩, qx, qy, qw⟩ := hq
  exact nmB (Int.mul_pos p0 q0) ((inferInstance : Bi (p.x * q.w - q.x * p.w) _).mono (by omega)) ((inferInstance : Bi (p.y * q.w - q.y * p.w) _).mono (by omega)) ((inferInstance : Bi (p.w * q.w) _).mono (by omega))
theorem PB.times {a b : Nat} {p : K2.P3} {f : K2.P2} (hp : PB a p) (hf : FB b f) : PB (a + b) (K2.pTimes p f) := by
  obtain ⟨⟨p0, p1⟩, px, py, pw⟩ := hp
  obtain ⟨⟨f0, f1⟩, fn, fd⟩ := hf
  exact nmB (Int.mul_pos p0 f0) inferInstance inferInstance inferInstance
theorem FB.sum {a b : Nat} {f g : K2.P2} (hf : FB a f) (hg : FB b g) : FB (a + b + (a + b) + 1) (K2.fSum f g) := by
  obtain ⟨⟨f0, _⟩, fn, fd⟩ := hf
  obtain ⟨⟨g0, _⟩, gn, gd⟩ := hg
  have := Int.mul_pos f0 g0
  exact partB (by omega) ((inferInstance : Bi (f.n * g.d + g.n * f.d) _).mono (by omega)) ((inferInstance : Bi (f.d * g.d) _).mono (by omega))
theorem FB.by {a b : Nat} {f g : K2.P2} (hf : FB a f) (hg : FB b g) : FB (a + b) (K2.fBy f g) := by
  obtain ⟨⟨f0, _⟩, fn, fd⟩ := hf
  obtain ⟨⟨g0, _⟩, gn, gd⟩ := hg
  have := Int.mul_pos f0 g0
  exact partB (by omega) inferInstance inferInstance
variable {s : S} {p q r : K2.P3} {f g : K2.P2} {a b c : Nat}
theorem e_point_sum (hp : PB a p) (hq : PB b q) (h : a + b < 2000) : f_point_sum [dp p, dp q] s = some (dp (K2.pSum p q), s) := by
  obtain ⟨⟨p0, p1⟩, px, py, pw⟩ := hp
  obtain ⟨⟨q0, q1⟩, qx, qy, qw⟩ := hq
  have k1 : dMul (.int p.x) (.int q.w) = _ := mulB (by omega)
  have k2 : dMul (.int q.x) (.int p.w) = _ := mulB (by omega)
  have k3 : dMul (.int p.y) (.int q.w) = _ := mulB (by omega)
  have k4 : dMul (.int q.y) (.int p.w) = _ := mulB (by omega)
  have k5 : dMul (.int p.w) (.int q.w) = _ := mulB (by omega)
  have k6 := e_point_of (x := p.x * q.w + q.x * p.w) (y := p.y * q.w + q.y * p.w) (s := s) (Int.mul_pos p0 q0) (by omega)
  simp [f_point_sum, g_point_sum, fnM, startE, sSeq, sAsg, bnd, bnds, mThen, mLift, mVar, m1, m2, mC, mF, aCons, aNil, mCall, mTup, isDs, isD, mIf, mB, bOf, mNot, mOr, mAnd, mAndV, mOrV, qC, sNx, sRet, sEx, dIx, atI, ixN, dCmp, dAdd, dSub, dNeg, dNot, dIs, isT, bInt, bAbs, bLen, mL, mLst, mIt, itOf, sizeLine_eq, k1, k2, k3, k4, k5, k6]
  rfl
theorem e_point_gap (hp : PB a p) (hq : PB b q) (h : a + b < 2000) : f_point_gap [dp p, dp q] s = some (dp (K2.pGap p q), s) := by
  obtain ⟨⟨p0, p1⟩, px, py, pw⟩ := hp
  obtain ⟨⟨q0, q1⟩, qx, qy, qw⟩ := hq
  have k1 : dMul (.int p.x) (.int q.w) = _ := mulB (by omega)
  have k2 : dMul (.int q.x) (.int p.w) = _ := mulB (by omega)
  have k3 : dMul (.int p.y) (.int q.w) = _ := mulB (by omega)
  have k4 : dMul (.int q.y) (.int p.w) = _ := mulB (by omega)
  have k5 : dMul (.int p.w) (.int q.w) = _ := mulB (by omega)
  have k6 := e_point_of (x := p.x * q.w - q.x * p.w) (y := p.y * q.w - q.y * p.w) (s := s) (Int.mul_pos p0 q0) (by omega)
  simp [f_point_gap, g_point_gap, fnM, startE, sSeq, sAsg, bnd, bnds, mThen, mLift, mVar, m1, m2, mC, mF, aCons, aNil, mCall, mTup, isDs, isD, mIf, mB, bOf, mNot, mOr, mAnd, mAndV, mOrV, qC, sNx, sRet, sEx, dIx, atI, ixN, dCmp, dAdd, dSub, dNeg, dNot, dIs, isT, bInt, bAbs, bLen, mL, mLst, mIt, itOf, sizeLine_eq, k1, k2, k3, k4, k5, k6]
  rfl
theorem e_point_times (hp : PB a p) (hf : FB b f) (h : a + b < 2000) : f_point_times [dp p, df f] s = some (dp (K2.pTimes p f), s) := by
  obtain ⟨⟨p0, p1⟩, px, py, pw⟩ := hp
  obtain ⟨⟨f0, f1⟩, fn, fd⟩ := hf
  have k1 : dMul (.int p.x) (.int f.n) = _ := mulB (by omega)
  have k3 : dMul (.int p.y) (.int f.n) = _ := mulB (by omega)
  have k5 : dMul (.int p.w) (.int f.d) = _ := mulB (by omega)
  have k6 := e_point_of (x := p.x * f.n) (y := p.y * f.n) (s := s) (Int.mul_pos p0 f0) (by omega)
  simp [f_point_times, g_point_times, fnM, startE, sSeq, sAsg, bnd, bnds, mThen, mLift, mVar, m1, m2, mC, mF, aCons, aNil, mCall, mTup, isDs, isD, mIf, mB, bOf, mNot, mOr, mAnd, mAndV, mOrV, qC, sNx, sRet, sEx, dIx, atI, ixN, dCmp, dAdd, dSub, dNeg, dNot, dIs, isT, bInt, bAbs, bLen, mL, mLst, mIt, itOf, sizeLine_eq, k1, k3, k5, k6]
  rfl
theorem e_point_between (hp : PB a p) (hq : PB b q) (hf : FB c f) (h : a + b + c < 500) : f_point_between [dp p, dp q, df f] s = some (dp (K2.pBtw p q f), s) := by
  have k1 := e_point_gap (s := s) hq hp (by omega)
  have h1 := hq.gap hp
  have k2 := e_point_times (s := s) h1 hf (by omega)
  have k3 := e_point_sum (s := s) hp (h1.times hf) (by omega)
  simp [f_point_between, g_point_between, fnM, startE, sSeq, sAsg, bnd, bnds, mThen, mLift, mVar, m1, m2, mC, mF, aCons, aNil, mCall, mTup, isDs, isD, mIf, mB, bOf, mNot, mOr, mAnd, mAndV, mOrV, qC, sNx, sRet, sEx, dIx, atI, ixN, dCmp, dAdd, dSub, dNeg, dNot, dIs, isT, bInt, bAbs, bLen, mL, mLst, mIt, itOf, sizeLine_eq, k1, k2, k3, K2.pBtw]
theorem e_need_pt (hp : PB a p) : f_need_point [dp p] s = some (.none, s) := e_need_point hp.1.1 hp.1.2
theorem e_is_fraction (hf : FB a f) : f_is_fraction [df f] s = some (.bool true, s) := by
  have hg : gcdI f.n f.d = 1 := hf.1.2
  simp [f_is_fraction, g_is_fraction, fnM, startE, sSeq, sAsg, bnd, bnds, mThen, mLift, mVar, m1, m2, mC, mF, aCons, aNil, mCall, mTup, isDs, isD, mIf, mB, bOf, mNot, mOr, mAnd, mAndV, mOrV, qC, sNx, sRet, sEx, dIx, atI, ixN, dCmp, dAdd, dSub, dNeg, dNot, dIs, isT, bInt, bAbs, bLen, mL, mLst, mIt, itOf, sizeLine_eq, e_are_whole2, hf.1.1, bGcd, hg, eqI]
theorem e_need_fraction (hf : FB a f) : f_need_fraction [df f] s = some (.none, s) := by
  simp [f_need_fraction, g_need_fraction, fnM, startE, sSeq, sAsg, bnd, bnds, mThen, mLift, mVar, m1, m2, mC, mF, aCons, aNil, mCall, mTup, isDs, isD, mIf, mB, bOf, mNot, mOr, mAnd, mAndV, mOrV, qC, sNx, sRet, sEx, dIx, atI, ixN, dCmp, dAdd, dSub, dNeg, dNot, dIs, isT, bInt, bAbs, bLen, mL, mLst, mIt, itOf, sizeLine_eq, e_is_fraction hf]
theorem e_plus (hp : PB a p) (hq : PB b q) (h : a + b < 2000) : f_plus [dp p, dp q] s = some (dp (K2.pSum p q), s) := by
  simp [f_plus, g_plus, fnM, startE, sSeq, sAsg, bnd, bnds, mThen, mLift, mVar, m1, m2, mC, mF, aCons, aNil, mCall, mTup, isDs, isD, mIf, mB, bOf, mNot, mOr, mAnd, mAndV, mOrV, qC, sNx, sRet, sEx, dIx, atI, ixN, dCmp, dAdd, dSub, dNeg, dNot, dIs, isT, bInt, bAbs, bLen, mL, mLst, mIt, itOf, sizeLine_eq, e_need_pt hp, e_need_pt hq, e_point_sum hp hq h]
theorem e_minus (hp : PB a p) (hq : PB b q) (h : a + b < 2000) : f_minus [dp p, dp q] s = some (dp (K2.pGap p q), s) := by
  simp [f_minus, g_minus, fnM, startE, sSeq, sAsg, bnd, bnds, mThen, mLift, mVar, m1, m2, mC, mF, aCons, aNil, mCall, mTup, isDs, isD, mIf, mB, bOf, mNot, mOr, mAnd, mAndV, mOrV, qC, sNx, sRet, sEx, dIx, atI, ixN, dCmp, dAdd, dSub, dNeg, dNot, dIs, isT, bInt, bAbs, bLen, mL, mLst, mIt, itOf, sizeLine_eq, e_need_pt hp, e_need_pt hq, e_point_gap hp hq h]
theorem e_times (hp : PB a p) (hf : FB b f) (h : a + b < 2000) : f_times [dp p, df f] s = some (dp (K2.pTimes p f), s) := by
  simp [f_times, g_times, fnM, startE, sSeq, sAsg, bnd, bnds, mThen, mLift, mVar, m1, m2, mC, mF, aCons, aNil, mCall, mTup, isDs, isD, mIf, mB, bOf, mNot, mOr, mAnd, mAndV, mOrV, qC, sNx, sRet, sEx, dIx, atI, ixN, dCmp, dAdd, dSub, dNeg, dNot, dIs, isT, bInt, bAbs, bLen, mL, mLst, mIt, itOf, sizeLine_eq, e_need_pt hp, e_need_fraction hf, e_point_times hp hf h]
theorem e_between (hp : PB a p) (hq : PB b q) (hf : FB c f) (h : a + b + c < 500) : f_between [dp p, dp q, df f] s = some (dp (K2.pBtw p q f), s) := by
  simp [f_between, g_between, fnM, startE, sSeq, sAsg, bnd, bnds, mThen, mLift, mVar, m1, m2, mC, mF, aCons, aNil, mCall, mTup, isDs, isD, mIf, mB, bOf, mNot, mOr, mAnd, mAndV, mOrV, qC, sNx, sRet, sEx, dIx, atI, ixN, dCmp, dAdd, dSub, dNeg, dNot, dIs, isT, bInt, bAbs, bLen, mL, mLst, mIt, itOf, sizeLine_eq, e_need_pt hp, e_need_pt hq, e_need_fraction hf, e_point_between hp hq hf h]
theorem e_point_at (hf : FB a f) (hg : FB b g) (h : a + b < 2000) : f_point_at [df f, df g] s = some (dp (K2.pAt f g), s) := by
  have n1 := e_need_fraction (s := s) hf
  have n2 := e_need_fraction (s := s) hg
  obtain ⟨⟨f0, _⟩, fn, fd⟩ := hf
  obtain ⟨⟨g0, _⟩, gn, gd⟩ := hg
  have k1 : dMul (.int f.n) (.int g.d) = _ := mulB (by omega)
  have k2 : dMul (.int g.n) (.int f.d) = _ := mulB (by omega)
  have k5 : dMul (.int f.d) (.int g.d) = _ := mulB (by omega)
  have k6 := e_point_of (x := f.n * g.d) (y := g.n * f.d) (s := s) (Int.mul_pos f0 g0) (by omega)
  simp [f_point_at, g_point_at, fnM, startE, sSeq, sAsg, bnd, bnds, mThen, mLift, mVar, m1, m2, mC, mF, aCons, aNil, mCall, mTup, isDs, isD, mIf, mB, bOf, mNot, mOr, mAnd, mAndV, mOrV, qC, sNx, sRet, sEx, dIx, atI, ixN, dCmp, dAdd, dSub, dNeg, dNot, dIs, isT, bInt, bAbs, bLen, mL, mLst, mIt, itOf, sizeLine_eq, n1, n2, k1, k2, k5, k6]
  rfl
end WF
/-! senses, sides, directions -/
namespace WF
open PySem PySem.Spec PyProof.Rows L2 PL
theorem gcd_lt {a b n : Nat} (h : a < 2 ^ n) (k : b < 2 ^ n) : a.gcd b < 2 ^ n := by
  by_cases z : a = 0
  · subst z
    rw [Nat.gcd_zero_left]
    exact k
  · exact Nat.lt_of_le_of_lt (Nat.le_of_dvd (by omega) (Nat.gcd_dvd_left _ _)) h
theorem gcd3_all {x y w : Int} {n : Nat} (hx : Bi x n) (hy : Bi y n) (hw : Bi w n) : Bi (gcdI3 x y w) n := ⟨by
  unfold gcdI3
  exact gcd_lt (gcd_lt hx.h hy.h) hw.h⟩
theorem gcd2_all {x y : Int} {n : Nat} (hx : Bi x n) (hy : Bi y n) : Bi (gcdI x y) n := ⟨by
  unfold gcdI
  exact gcd_lt hx.h hy.h⟩
theorem nmA {x y w : Int} {n : Nat} (hx : Bi x n) (hy : Bi y n) (hn : Bi w n) : Bi (K2.nm3 x y w).x n ∧ Bi (K2.nm3 x y w).y n ∧ Bi (K2.nm3 x y w).w n := ⟨⟨Bi.div_le hx.h⟩, ⟨Bi.div_le hy.h⟩, ⟨Bi.div_le hn.h⟩⟩
variable {s : S} {p q r : K2.P3} {f g : K2.P2} {a b c : Nat}
theorem e_turn (hp : PB a p) (hq : PB b q) (hr : PB c r) (h : a + b + c < 1000) : f_turn [dp p, dp q, dp r] s = some (.int (K2.turnZ p q r), s) := by
  obtain ⟨⟨p0, p1⟩, px, py, pw⟩ := hp
  obtain ⟨⟨q0, q1⟩, qx, qy, qw⟩ := hq
  obtain ⟨⟨r0, r1⟩, rx, ry, rw⟩ := hr
  have k0 := e_course_to (x := p.x) (y := p.y) (w := p.w) (u := q.x) (v := q.y) (t := q.w) (s := s) (by omega)
  have k1 : dMul (.int r.y) (.int p.w) = _ := mulB (by omega)
  have k2 : dMul (.int p.y) (.int r.w) = _ := mulB (by omega)
  have k3 : dMul (.int r.x) (.int p.w) = _ := mulB (by omega)
  have k4 : dMul (.int p.x) (.int r.w) = _ := mulB (by omega)
  have k5 : dMul (.int (q.x * p.w - p.x * q.w)) (.int (r.y * p.w - p.y * r.w)) = _ := mulB (by omega)
  have k6 : dMul (.int (q.y * p.w - p.y * q.w)) (.int (r.x * p.w - p.x * r.w)) = _ := mulB (by omega)
  simp [f_turn, g_turn, fnM, startE, sSeq, sAsg, bnd, bnds, mThen, mLift, mVar, m1, m2, mC, mF, aCons, aNil, mCall, mTup, isDs, isD, mIf, mB, bOf, mNot, mOr, mAnd, mAndV, mOrV, qC, sNx, sRet, sEx, dIx, atI, ixN, dCmp, dAdd, dSub, dNeg, dNot, dIs, isT, bInt, bAbs, bLen, mL, mLst, mIt, itOf, sizeLine_eq, k0, k1, k2, k3, k4, k5, k6]
  rfl
theorem e_sense (hp : PB a p) (hq : PB b q) (hr : PB c r) (h : a + b + c < 1000) : f_sense [dp p, dp q, dp r] s = some (.int (K2.sgnZ (K2.turnZ p q r)), s) := by
  have k := e_turn (s := s) hp hq hr h
  unfold K2.sgnZ
  generalize K2.turnZ p q r = z at k
  by_cases h1 : 0 < z
  · simp [f_sense, g_sense, fnM, startE, sSeq, sAsg, bnd, bnds, mThen, mLift, mVar, m1, m2, mC, mF, aCons, aNil, mCall, mTup, isDs, isD, mIf, mB, bOf, mNot, mOr, mAnd, mAndV, mOrV, qC, sNx, sRet, sEx, dIx, atI, ixN, dCmp, dAdd, dSub, dNeg, dNot, dIs, isT, bInt, bAbs, bLen, mL, mLst, mIt, itOf, sizeLine_eq, e_need_pt hp, e_need_pt hq, e_need_pt hr, k, h1]
  · by_cases h2 : z < 0
    · simp [f_sense, g_sense, fnM, startE, sSeq, sAsg, bnd, bnds, mThen, mLift, mVar, m1, m2, mC, mF, aCons, aNil, mCall, mTup, isDs, isD, mIf, mB, bOf, mNot, mOr, mAnd, mAndV, mOrV, qC, sNx, sRet, sEx, dIx, atI, ixN, dCmp, dAdd, dSub, dNeg, dNot, dIs, isT, bInt, bAbs, bLen, mL, mLst, mIt, itOf, sizeLine_eq, e_need_pt hp, e_need_pt hq, e_need_pt hr, k, h1, h2]
    · simp [f_sense, g_sense, fnM, startE, sSeq, sAsg, bnd, bnds, mThen, mLift, mVar, m1, m2, mC, mF, aCons, aNil, mCall, mTup, isDs, isD, mIf, mB, bOf, mNot, mOr, mAnd, mAndV, mOrV, qC, sNx, sRet, sEx, dIx, atI, ixN, dCmp, dAdd, dSub, dNeg, dNot, dIs, isT, bInt, bAbs, bLen, mL, mLst, mIt, itOf, sizeLine_eq, e_need_pt hp, e_need_pt hq, e_need_pt hr, k, h1, h2]
theorem dp_ne (h : p ≠ q) : dEq (dp p) (dp q) = some (.bool false) := by
  unfold dEq
  rw [if_pos ⟨rfl, rfl⟩]
  obtain ⟨x, y, w⟩ := p
  obtain ⟨u, v, t⟩ := q
  have : ¬ (x = u ∧ y = v ∧ w = t) := fun ⟨h1, h2, h3⟩ => h (by rw [h1, h2, h3])
  simp [PyData.eqv, PyData.eqvAll]
  omega
theorem e_side_through (hp : PB a p) (hq : PB b q) (ne : p ≠ q) (h : a + b < 400) : f_side_through [dp p, dp q] s = some (dp (K2.pRim p q), s) := by
  have n1 := e_need_pt (s := s) hp
  have n2 := e_need_pt (s := s) hq
  have sg := K2.side_g hp.1 hq.1 ne
  have hP := hp.1
  rw [← K2.pside_eq hp.1.1]
  rw [← K2.gside_eq hp.1.1] at sg
  have dn := dp_ne ne
  obtain ⟨⟨p0, p1⟩, px, py, pw⟩ := hp
  obtain ⟨⟨q0, q1⟩, qx, qy, qw⟩ := hq
  have k0 := e_course_to (x := p.x) (y := p.y) (w := p.w) (u := q.x) (v := q.y) (t := q.w) (s := s) (by omega)
  have bx : Bi (K2.zx p q) (2 * a + 2 * b + 1) := (inferInstance : Bi (q.x * p.w - p.x * q.w) _).mono (by omega)
  have by' : Bi (K2.zy p q) (2 * a + 2 * b + 1) := (inferInstance : Bi (q.y * p.w - p.y * q.w) _).mono (by omega)
  have k1 := e_along (a := K2.zy p q) (b := -K2.zx p q) (x := p.x) (y := p.y) (w := p.w) (s := s) (by omega) (by omega) p0 (by omega)
  have bn : Bi (K2.bndF p q).n (6 * a + 4 * b + 3) := ⟨Bi.div_le ((inferInstance : Bi (K2.zy p q * p.x + -K2.zx p q * p.y) _).mono (by omega)).h⟩
  have bd : Bi (K2.bndF p q).d a := ⟨Bi.div_le pw.h⟩
  have b1 : Bi (K2.zy p q * (K2.bndF p q).d) (6 * a + 4 * b + 3) := (inferInstance : Bi (K2.zy p q * (K2.bndF p q).d) _).mono (by omega)
  have b2 : Bi (-K2.zx p q * (K2.bndF p q).d) (6 * a + 4 * b + 3) := (inferInstance : Bi (-K2.zx p q * (K2.bndF p q).d) _).mono (by omega)
  have b3 := gcd3_all b1 b2 bn
  have k2 := e_side_of (a := K2.zy p q) (b := -K2.zx p q) (p := (K2.bndF p q).n) (q := (K2.bndF p q).d) (s := s) (by omega) (by show 0 < K2.gSide p q; omega) (by omega)
  change f_course_to [dp p, dp q] s = some (fD (K2.zx p q) (K2.zy p q), s) at k0
  change f_along [.int (K2.zy p q), .int (-K2.zx p q), dp p] s = some (df (K2.bndF p q), s) at k1
  change f_side_of [.int (K2.zy p q), .int (-K2.zx p q), df (K2.bndF p q)] s = some (dp (K2.pSide p q), s) at k2
  generalize K2.zx p q = u at *
  generalize K2.zy p q = v at *
  generalize K2.bndF p q = t at *
  simp [f_side_through, g_side_through, fnM, startE, sSeq, sAsg, bnd, bnds, mThen, mLift, mVar, m1, m2, mC, mF, aCons, aNil, mCall, mTup, isDs, isD, mIf, mB, bOf, mNot, mOr, mAnd, mAndV, mOrV, qC, sNx, sRet, sEx, dIx, atI, ixN, dCmp, dAdd, dSub, dNeg, dNot, dIs, isT, bInt, bAbs, bLen, mL, mLst, mIt, itOf, sizeLine_eq, n1, n2, dn, k0, k1, k2]
/-- a side of few figures -/
def SB (n : Nat) (l : K2.P3) : Prop := K2.Sd l ∧ Bi l.x n ∧ Bi l.y n ∧ Bi l.w n
theorem PB.rim (hp : PB a p) (hq : PB b q) (ne : p ≠ q) : SB (2 * a + 2 * b + 1) (K2.pRim p q) := by
  refine ⟨K2.rim_sd hp.1 hq.1 ne, ?_⟩
  obtain ⟨⟨p0, p1⟩, px, py, pw⟩ := hp
  obtain ⟨⟨q0, q1⟩, qx, qy, qw⟩ := hq
  exact nmA ((inferInstance : Bi (p.w * q.y - p.y * q.w) _).mono (by omega)) ((inferInstance : Bi (p.x * q.w - p.w * q.x) _).mono (by omega)) ((inferInstance : Bi (p.x * q.y - p.y * q.x) _).mono (by omega))
theorem e_excess {l : K2.P3} (hl : SB a l) (hp : PB b p) (h : a + b < 1000) : f_excess [dp l, dp p] s = some (df (K2.nm2 (K2.overZ l p) p.w), s) := by
  have n2 := e_need_pt (s := s) hp
  have n1 : f_need_side [dp l] s = some (.none, s) := e_need_side (by have := hl.1.1; omega) hl.1.2
  obtain ⟨_, lx, ly, lw⟩ := hl
  obtain ⟨⟨p0, p1⟩, px, py, pw⟩ := hp
  have k0 := e_overshoot (a := l.x) (b := l.y) (h := l.w) (x := p.x) (y := p.y) (w := p.w) (s := s) (by omega)
  have k1 := e_ratio (a := l.x * p.x + l.y * p.y - l.w * p.w) (b := p.w) (s := s) p0 (by omega)
  simp [f_excess, g_excess, fnM, startE, sSeq, sAsg, bnd, bnds, mThen, mLift, mVar, m1, m2, mC, mF, aCons, aNil, mCall, mTup, isDs, isD, mIf, mB, bOf, mNot, mOr, mAnd, mAndV, mOrV, qC, sNx, sRet, sEx, dIx, atI, ixN, dCmp, dAdd, dSub, dNeg, dNot, dIs, isT, bInt, bAbs, bLen, mL, mLst, mIt, itOf, sizeLine_eq, n1, n2, k0, k1]
  exact ⟨rfl, rfl⟩
theorem e_half_turn : f_half_turn [df f] s = some (.int (K2.halfZ f), s) := by
  unfold K2.halfZ
  by_cases h1 : 0 < f.d
  · simp [f_half_turn, g_half_turn, fnM, startE, sSeq, sAsg, bnd, bnds, mThen, mLift, mVar, m1, m2, mC, mF, aCons, aNil, mCall, mTup, isDs, isD, mIf, mB, bOf, mNot, mOr, mAnd, mAndV, mOrV, qC, sNx, sRet, sEx, dIx, atI, ixN, dCmp, dAdd, dSub, dNeg, dNot, dIs, isT, bInt, bAbs, bLen, mL, mLst, mIt, itOf, sizeLine_eq, h1]
  · by_cases h2 : f.d = 0
    · by_cases h3 : 0 < f.n
      · simp [f_half_turn, g_half_turn, fnM, startE, sSeq, sAsg, bnd, bnds, mThen, mLift, mVar, m1, m2, mC, mF, aCons, aNil, mCall, mTup, isDs, isD, mIf, mB, bOf, mNot, mOr, mAnd, mAndV, mOrV, qC, sNx, sRet, sEx, dIx, atI, ixN, dCmp, dAdd, dSub, dNeg, dNot, dIs, isT, bInt, bAbs, bLen, mL, mLst, mIt, itOf, sizeLine_eq, h2, h3, eqI]
      · simp [f_half_turn, g_half_turn, fnM, startE, sSeq, sAsg, bnd, bnds, mThen, mLift, mVar, m1, m2, mC, mF, aCons, aNil, mCall, mTup, isDs, isD, mIf, mB, bOf, mNot, mOr, mAnd, mAndV, mOrV, qC, sNx, sRet, sEx, dIx, atI, ixN, dCmp, dAdd, dSub, dNeg, dNot, dIs, isT, bInt, bAbs, bLen, mL, mLst, mIt, itOf, sizeLine_eq, h2, h3, eqI]
    · simp [f_half_turn, g_half_turn, fnM, startE, sSeq, sAsg, bnd, bnds, mThen, mLift, mVar, m1, m2, mC, mF, aCons, aNil, mCall, mTup, isDs, isD, mIf, mB, bOf, mNot, mOr, mAnd, mAndV, mOrV, qC, sNx, sRet, sEx, dIx, atI, ixN, dCmp, dAdd, dSub, dNeg, dNot, dIs, isT, bInt, bAbs, bLen, mL, mLst, mIt, itOf, sizeLine_eq, h1, h2, eqI]
theorem e_stands_before (h1 : Bi f.n a) (h2 : Bi f.d a) (h3 : Bi g.n b) (h4 : Bi g.d b) (h : a + b < 4000) : f_stands_before [df f, df g] s = some (.bool (K2.earl f g), s) := by
  have k1 : dMul (.int f.n) (.int g.d) = _ := mulB (by omega)
  have k2 : dMul (.int f.d) (.int g.n) = _ := mulB (by omega)
  have e1 := e_half_turn (s := s) (f := f)
  have e2 := e_half_turn (s := s) (f := g)
  unfold K2.earl
  generalize K2.halfZ f = i at *
  generalize K2.halfZ g = j at *
  by_cases z : i = j
  · simp [f_stands_before, g_stands_before, sPar, fnM, startE, sSeq, sAsg, bnd, bnds, mThen, mLift, mVar, m1, m2, mC, mF, aCons, aNil, mCall, mTup, isDs, isD, mIf, mB, bOf, mNot, mOr, mAnd, mAndV, mOrV, qC, sNx, sRet, sEx, dIx, atI, ixN, dCmp, dAdd, dSub, dNeg, dNot, dIs, isT, bInt, bAbs, bLen, mL, mLst, mIt, itOf, sizeLine_eq, e1, e2, neI, z, k1, k2]
  · simp [f_stands_before, g_stands_before, sPar, fnM, startE, sSeq, sAsg, bnd, bnds, mThen, mLift, mVar, m1, m2, mC, mF, aCons, aNil, mCall, mTup, isDs, isD, mIf, mB, bOf, mNot, mOr, mAnd, mAndV, mOrV, qC, sNx, sRet, sEx, dIx, atI, ixN, dCmp, dAdd, dSub, dNeg, dNot, dIs, isT, bInt, bAbs, bLen, mL, mLst, mIt, itOf, sizeLine_eq, e1, e2, neI, z]
theorem e_is_earlier (d1 : K2.Di f) (d2 : K2.Di g) (h1 : Bi f.n a) (h2 : Bi f.d a) (h3 : Bi g.n b) (h4 : Bi g.d b) (h : a + b < 4000) : f_is_earlier [df f, df g] s = some (.bool (K2.earl f g), s) := by
  have n1 : f_need_direction [df f] s = some (.none, s) := by simp [f_need_direction, g_need_direction, fnM, startE, sSeq, sAsg, bnd, bnds, mThen, mLift, mVar, m1, m2, mC, mF, aCons, aNil, mCall, mTup, isDs, isD, mIf, mB, bOf, mNot, mOr, mAnd, mAndV, mOrV, qC, sNx, sRet, sEx, dIx, atI, ixN, dCmp, dAdd, dSub, dNeg, dNot, dIs, isT, bInt, bAbs, bLen, mL, mLst, mIt, itOf, sizeLine_eq, e_is_direction d1]
  have n2 : f_need_direction [df g] s = some (.none, s) := by simp [f_need_direction, g_need_direction, fnM, startE, sSeq, sAsg, bnd, bnds, mThen, mLift, mVar, m1, m2, mC, mF, aCons, aNil, mCall, mTup, isDs, isD, mIf, mB, bOf, mNot, mOr, mAnd, mAndV, mOrV, qC, sNx, sRet, sEx, dIx, atI, ixN, dCmp, dAdd, dSub, dNeg, dNot, dIs, isT, bInt, bAbs, bLen, mL, mLst, mIt, itOf, sizeLine_eq, e_is_direction d2]
  simp [f_is_earlier, g_is_earlier, fnM, startE, sSeq, sAsg, bnd, bnds, mThen, mLift, mVar, m1, m2, mC, mF, aCons, aNil, mCall, mTup, isDs, isD, mIf, mB, bOf, mNot, mOr, mAnd, mAndV, mOrV, qC, sNx, sRet, sEx, dIx, atI, ixN, dCmp, dAdd, dSub, dNeg, dNot, dIs, isT, bInt, bAbs, bLen, mL, mLst, mIt, itOf, sizeLine_eq, n1, n2, e_stands_before h1 h2 h3 h4 h]
/-- the direction of a point as data -/
def dirD (p : K2.P3) : D := if K2.g2 p.x p.y = 0 then .none else df (K2.nm2 p.x p.y)
theorem e_direction_of (hp : PB a p) (h : a < 4000) : f_direction_of [dp p] s = some (dirD p, s) := by
  have n1 := e_need_pt (s := s) hp
  unfold dirD
  by_cases z : K2.g2 p.x p.y = 0
  · rw [if_pos z]
    obtain ⟨zx, zy⟩ := K2.g2_zero.mp z
    have e : p = ⟨0, 0, 1⟩ := by
      obtain ⟨x, y, w⟩ := p
      obtain ⟨⟨p0, p1⟩, _⟩ := hp
      have zx' : x = 0 := zx
      have zy' : y = 0 := zy
      subst zx' zy'
      have : w = 1 := by
        unfold K2.g3 at p1
        simp at p1 p0
        omega
      rw [this]
    subst e
    have dd : dEq (dp ⟨0, 0, 1⟩) (.tuple [.int 0, .int 0, .int 1]) = some (.bool true) := by
      unfold dEq
      rw [if_pos ⟨rfl, rfl⟩]
      simp [PyData.eqv, PyData.eqvAll]
    simp [f_direction_of, g_direction_of, fnM, startE, sSeq, sAsg, bnd, bnds, mThen, mLift, mVar, m1, m2, mC, mF, aCons, aNil, mCall, mTup, isDs, isD, mIf, mB, bOf, mNot, mOr, mAnd, mAndV, mOrV, qC, sNx, sRet, sEx, dIx, atI, ixN, dCmp, dAdd, dSub, dNeg, dNot, dIs, isT, bInt, bAbs, bLen, mL, mLst, mIt, itOf, sizeLine_eq, n1, dd]
  · rw [if_neg z]
    have ne : p ≠ ⟨0, 0, 1⟩ := fun e => z (by rw [e]; rfl)
    have dd : dEq (dp p) (.tuple [.int 0, .int 0, .int 1]) = some (.bool false) := dp_ne (q := ⟨0, 0, 1⟩) ne
    have g0 : 0 < gcdI p.x p.y := by
      have := K2.g2_nonneg p.x p.y
      show 0 < K2.g2 p.x p.y
      omega
    obtain ⟨_, px, py, pw⟩ := hp
    have gb := gcd2_all px py
    have k1 : dDiv (.int p.x) (.int (gcdI p.x p.y)) = _ := divB g0 (by omega)
    have k2 : dDiv (.int p.y) (.int (gcdI p.x p.y)) = _ := divB g0 (by omega)
    have k : f_direction_along [.int p.x, .int p.y] s = some (df (K2.nm2 p.x p.y), s) := by
      simp [f_direction_along, g_direction_along, fnM, startE, sSeq, sAsg, bnd, bnds, mThen, mLift, mVar, m1, m2, mC, mF, aCons, aNil, mCall, mTup, isDs, isD, mIf, mB, bOf, mNot, mOr, mAnd, mAndV, mOrV, qC, sNx, sRet, sEx, dIx, atI, ixN, dCmp, dAdd, dSub, dNeg, dNot, dIs, isT, bInt, bAbs, bLen, mL, mLst, mIt, itOf, sizeLine_eq, bGcd, k1, k2]
      exact ⟨rfl, rfl⟩
    simp [f_direction_of, g_direction_of, fnM, startE, sSeq, sAsg, bnd, bnds, mThen, mLift, mVar, m1, m2, mC, mF, aCons, aNil, mCall, mTup, isDs, isD, mIf, mB, bOf, mNot, mOr, mAnd, mAndV, mOrV, qC, sNx, sRet, sEx, dIx, atI, ixN, dCmp, dAdd, dSub, dNeg, dNot, dIs, isT, bInt, bAbs, bLen, mL, mLst, mIt, itOf, sizeLine_eq, n1, dd, k]
end WF
/-! the law's own defs on points and fractions -/
namespace WF
open PySem PySem.Spec PyProof.Rows L2 PL
def Sv (n : Nat) (s : S) : Prop := ∃ a b c : Int, s = [.int a, .int b, .int c] ∧ 0 ≤ a ∧ 0 ≤ b ∧ b < 1000000007 ∧ 0 ≤ c ∧ c ≤ n
theorem Sv.mono {n m : Nat} {s : S} (h : Sv n s) (l : n ≤ m) : Sv m s := by
  obtain ⟨a, b, c, e, h1, h2, h3, h4, h5⟩ := h
  exact ⟨a, b, c, e, h1, h2, h3, h4, by omega⟩
theorem e_draw_v2 {n : Nat} {s : S} {z : Int} (h : Sv n s) (hn : n ≤ 1000000) (z0 : 0 < z) (z1 : z < 1073741824) : ∃ i s', f__law_draw_v2 [SACK, .int z] s = some (.int i, s') ∧ 0 ≤ i ∧ i < z ∧ Sv (n + 1) s' := by
  obtain ⟨a, b, c, rfl, ha, hb, hb2, hc, hc2⟩ := h
  by_cases h0 : 0 < a
  · refine ⟨a % z, [.int (a / z), .int b, .int c], ?_, Int.emod_nonneg _ (by omega), Int.emod_lt_of_pos _ z0, a / z, b, c, rfl, Int.ediv_nonneg ha (by omega), hb, hb2, hc, by omega⟩
    simp [f__law_draw_v2, fnM, g__law_draw_v2, startE, sSeq, mIf, mB, m2, mThen, mLift, mSk, SACK, mC, dCmp, bOf, h0, sAsg, mCall, aCons, aNil, mVar, bDivmod, z0, z1, bnd, bnds, isD, sRet]
  · have b79 : Bi 7919 31 := biAbs (by decide)
    have b89 : Bi 89 31 := biAbs (by decide)
    have hcc := bi31 (by omega : 0 ≤ c + 1) (by omega)
    have m1' : dMul (.int 7919) (.int (c + 1)) = _ := mulB (by decide)
    have md1 : dMod (.int (b + 7919 * (c + 1))) (.int 1000000007) = _ := modB (by decide)
    generalize hx : (b + 7919 * (c + 1)) % 1000000007 = x at md1
    have hx0 : 0 ≤ x := by rw [← hx]; exact Int.emod_nonneg _ (by decide)
    have hx1 : x < 1000000007 := by rw [← hx]; exact Int.emod_lt_of_pos _ (by decide)
    have md2 : dMod (.int x) (.int 9973) = _ := modB (by decide)
    generalize hy : x % 9973 = y at md2
    have hy0 : 0 ≤ y := by rw [← hy]; exact Int.emod_nonneg _ (by decide)
    have hy1 : y < 9973 := by rw [← hy]; exact Int.emod_lt_of_pos _ (by decide)
    have hxx := bi31 hx0 (by omega)
    have hyy := bi31 (by omega : 0 ≤ y + 30011) (by omega)
    have m3 : dMul (.int x) (.int (y + 30011)) = _ := mulB (by decide)
    have md3 : dMod (.int (x * (y + 30011) + 13)) (.int 1000000007) = _ := modB (by decide)
    generalize hw : (x * (y + 30011) + 13) % 1000000007 = w at md3
    have hw0 : 0 ≤ w := by rw [← hw]; exact Int.emod_nonneg _ (by decide)
    have hw1 : w < 1000000007 := by rw [← hw]; exact Int.emod_lt_of_pos _ (by decide)
    have dv2 : dDiv (.int w) (.int 89) = _ := divB (by decide) (by decide)
    have md4 : dMod (.int (w / 89)) (.int z) = _ := modB z0
    refine ⟨w / 89 % z, [.int a, .int w, .int (c + 1)], ?_, Int.emod_nonneg _ (by omega), Int.emod_lt_of_pos _ z0, a, w, c + 1, rfl, ha, hw0, hw1, by omega, by omega⟩
    simp [f__law_draw_v2, fnM, g__law_draw_v2, startE, sSeq, mIf, mB, m2, mThen, mLift, mSk, SACK, mC, dCmp, bOf, h0, sNx, sAsg, mCall, aCons, aNil, mVar, bnd, bnds, isD, sRet, dAdd, m1', md1, bInt, md2, m3, md3, dv2, md4]
theorem e_pick {n : Nat} {s : S} {ds : List D} (h : Sv n s) (hn : n ≤ 1000000) (h0 : ds ≠ []) (h1 : ds.length < 10000) : ∃ d ∈ ds, ∃ s', f__law_pick [SACK, .tuple ds] s = some (d, s') ∧ Sv (n + 1) s' := by
  have z0 : (0 : Int) < ds.length := by
    cases ds with
    | nil => exact absurd rfl h0
    | cons _ _ => simp
  obtain ⟨i, s', e, i0, i1, k⟩ := e_draw_v2 h hn z0 (by omega)
  obtain ⟨d, hd, hm⟩ := atI_nat' i0 i1
  refine ⟨d, hm, s', ?_, k⟩
  simp [f__law_pick, g__law_pick, fnM, startE, sRet, m2, mThen, mLift, mVar, mF, aCons, aNil, mCall, bLen, e, dIx, hd]
/-! least terms -/
def LQ (X : D) (p n o t : Option Cell) : PL.Env := [cD X, p, n, o, t]
theorem least_while {s : S} {X : D} {p x : Option Cell} : ∀ (n : Nat) (a b : Int), 0 ≤ a → 0 ≤ b → b.natAbs < n → whL lc__law_least_0 lb__law_least_0 n (LQ X p x (cI a) (cI b)) s = some (.nx (LQ X p x (cI (gcdI a b)) (cI 0)), s)
  | 0, _, _, _, _, h => by omega
  | n + 1, a, b, ha, hb, h => by
    by_cases z : b = 0
    · subst z
      have e : gcdI a 0 = a := by unfold gcdI; simp; omega
      rw [e]
      exact whL_no (by simp [lc__law_least_0, LQ, mB, m2, mThen, mLift, mVar, mC, dCmp, bOf])
    · have hp : 0 < b := by omega
      have e1 : lc__law_least_0 (LQ X p x (cI a) (cI b)) s = some (true, s) := by simp [lc__law_least_0, LQ, mB, m2, mThen, mLift, mVar, mC, dCmp, bOf, hp]
      have md : dMod (.int a) (.int b) = _ := modB (by omega)
      have e2 : lb__law_least_0 (LQ X p x (cI a) (cI b)) s = some (.nx (LQ X p x (cI b) (cI (a % b))), s) := by simp [lb__law_least_0, LQ, sPar, aCons, aNil, m2, mThen, mLift, mVar, mCall, bInt, md, isD]
      have l0 := Int.emod_nonneg a z
      have l1 := Int.emod_lt_of_pos a (by omega : 0 < b)
      rw [whL_nx e1 e2, least_while n b (a % b) hb l0 (by omega), gcdI_step ha (by omega)]
theorem gcdI_absr {a b : Int} : gcdI a (b.natAbs : Int) = gcdI a b := by
  unfold gcdI
  simp
theorem least_step {s : S} {X : D} {g x : Int} {o t : Option Cell} (hg : 0 ≤ g) : lb__law_least_1 (LQ X (cI g) (cI x) o t) s = some (.nx (LQ X (cI (gcdI g x)) (cI x) (cI (gcdI g x)) (cI 0)), s) := by
  have e0 : sPar 3 4 (aCons (mVar 1) (aCons (mCall bAbs (aCons (mVar 2) aNil)) aNil)) (LQ X (cI g) (cI x) o t) s = some (.nx (LQ X (cI g) (cI x) (cI g) (cI x.natAbs)), s) := by
    simp [sPar, LQ, aCons, aNil, mCall, mThen, mLift, mVar, bAbs, isD, abs_is]
  have e1 : sWh t__law_least_0 lc__law_least_0 lb__law_least_0 (LQ X (cI g) (cI x) (cI g) (cI x.natAbs)) s = some (.nx (LQ X (cI g) (cI x) (cI (gcdI g x)) (cI 0)), s) := by
    unfold sWh
    have ht : t__law_least_0 (LQ X (cI g) (cI x) (cI g) (cI x.natAbs)) s = x.natAbs + 1 := by simp [t__law_least_0, LQ]
    rw [ht, least_while _ _ _ (by omega) (by omega) (by omega), gcdI_absr]
  unfold lb__law_least_1
  rw [sSeq_nx e0, sSeq_nx e1]
  simp [LQ, sAsg, mThen, mVar, mLift, bnd]
theorem gcdI_nn {a b : Int} : 0 ≤ gcdI a b := by unfold gcdI; omega
def gcdAll (g : Int) (xs : List Int) : Int := xs.foldl gcdI g
theorem least_loop {s : S} {X : D} : ∀ (xs : List Int) (g : Int) (n o t : Option Cell), 0 ≤ g → ∃ n' o' t', forL (.nm 2) lb__law_least_1 (xs.map PyData.int) (LQ X (cI g) n o t) s = some (.nx (LQ X (cI (gcdAll g xs)) n' o' t'), s)
  | [], g, n, o, t, _ => ⟨n, o, t, rfl⟩
  | x :: xs, g, n, o, t, hg => by
    obtain ⟨n', o', t', e⟩ := least_loop (s := s) (X := X) xs (gcdI g x) (cI x) (cI (gcdI g x)) (cI 0) gcdI_nn
    exact ⟨n', o', t', (forL_nx (ρ1 := LQ X (cI g) (cI x) o t) rfl (least_step hg)).trans e⟩
theorem e_least {xs : List Int} {s : S} {m : Nat} (h0 : 1 ≤ gcdAll 0 xs) (hb : Bi (gcdAll 0 xs) m) (hm : m < 8999) (hl : xs.length ≤ 10000) : f__law_least [.tuple (xs.map PyData.int)] s = some (.tuple (xs.map fun x => .int (x / gcdAll 0 xs)), s) := by
  refine fnM_rt rfl ?_
  have t0 : sAsg (.nm 1) (mC (.int 0)) (startE 5 [.tuple (xs.map PyData.int)]) s = some (.nx (LQ (.tuple (xs.map PyData.int)) (cI 0) none none none), s) := by
    simp [sAsg, startE, mThen, mC, mLift, bnd, LQ]
  obtain ⟨n', o', t', e⟩ := least_loop (s := s) (X := .tuple (xs.map PyData.int)) xs 0 none none none (by omega)
  have t1 : sFor (mIt (mVar 0)) (.nm 2) lb__law_least_1 (LQ (.tuple (xs.map PyData.int)) (cI 0) none none none) s = some (.nx (LQ (.tuple (xs.map PyData.int)) (cI (gcdAll 0 xs)) n' o' t'), s) := (sFor_at (by simp [mIt, LQ, mThen, mVar, mLift, itOf])).trans e
  unfold g__law_least
  rw [sSeq_nx t0, sSeq_nx t1]
  generalize gcdAll 0 xs = g at *
  have dv : ∀ z, dDiv (.int z) (.int g) = some (.int (z / g)) := fun z => divB (by omega) hm
  have mx : bMax [.int 1, .int g] = some (.int g) := by
    simp [bMax]
    omega
  have e2 : mLc (mIt (mVar 0)) [2] (.nm 2) (qC true) le__law_least_2 (LQ (.tuple (xs.map PyData.int)) (cI g) n' o' t') s = some (xs.map fun x => .int (x / g), s) := by
    refine mLc_map (enc := PyData.int) (by simp [LQ, mIt, mThen, mVar, mLift, itOf]) hl fun x _ => ⟨LQ (.tuple (xs.map PyData.int)) (cI g) (cI x) o' t', rfl, ?_, rfl⟩
    simp [le__law_least_2, LQ, m2, mThen, mLift, mVar, mC, mCall, aCons, aNil, mx, dv]
  generalize mLc (mIt (mVar 0)) [2] (.nm 2) (qC true) le__law_least_2 = L at e2 ⊢
  simp [sRet, mCall, aCons, aNil, mThen, mLift, mL, e2, bTuple]
theorem all2 {x y : Int} : gcdAll 0 [x, y] = gcdI x y := by
  simp [gcdAll, gcdI]
theorem all3 {x y w : Int} : gcdAll 0 [x, y, w] = gcdI3 x y w := by
  simp [gcdAll, gcdI, gcdI3]
theorem e_least3 {x y w : Int} {s : S} {m : Nat} (h0 : 1 ≤ K2.g3 x y w) (hx : Bi x m) (hy : Bi y m) (hw : Bi w m) (hm : m < 8999) : f__law_least [pD x y w] s = some (dp (K2.nm3 x y w), s) := by
  have e := e_least (xs := [x, y, w]) (s := s) (m := m) (by rw [all3]; exact h0) (by rw [all3]; exact gcd3_all hx hy hw) hm (by simp)
  rw [all3] at e
  exact e
theorem e_least2 {x y : Int} {s : S} {m : Nat} (h0 : 1 ≤ K2.g2 x y) (hx : Bi x m) (hy : Bi y m) (hm : m < 8999) : f__law_least [fD x y] s = some (df (K2.nm2 x y), s) := by
  have e := e_least (xs := [x, y]) (s := s) (m := m) (by rw [all2]; exact h0) (by rw [all2]; exact gcd2_all hx hy) hm (by simp)
  rw [all2] at e
  exact e
theorem e_part {t l : Int} {s : S} {m : Nat} (h0 : l ≠ 0) (ht : Bi t m) (hl : Bi l m) (hm : m < 8999) : f__law_part [.int t, .int l] s = some (df (K2.partZ t l), s) := by
  have e := e_least2 (s := s) (K2.g2_pos (x := t) h0) ht hl hm
  have hd : (0 < (K2.nm2 t l).d) ↔ 0 < l := by
    have hg := K2.g2_pos (x := t) h0
    obtain ⟨a, b, ha, hb, e1, e2, _⟩ := K2.ex2 hg
    show 0 < l / K2.g2 t l ↔ _
    rw [e2]
    refine ⟨fun z => ?_, fun z => K2.pos_of_mul hg (by rw [← hb]; exact z)⟩
    rw [hb]
    exact Int.mul_pos (by omega) z
  unfold K2.partZ
  by_cases z : 0 < l
  · rw [if_pos z]
    have z2 := hd.mpr z
    generalize K2.nm2 t l = f at e z2
    simp [f__law_part, g__law_part, fnM, startE, sSeq, sAsg, bnd, bnds, mThen, mLift, mVar, m1, m2, mC, mF, aCons, aNil, mCall, mTup, isDs, isD, mIf, mB, bOf, mNot, mOr, mAnd, mAndV, mOrV, qC, sNx, sRet, sEx, dIx, atI, ixN, dCmp, dAdd, dSub, dNeg, dNot, dIs, isT, bInt, bAbs, bLen, mL, mLst, mIt, itOf, sizeLine_eq, e, z2]
  · rw [if_neg z, K2.nm2_both t l (K2.g2_pos h0)]
    have z2 : ¬ 0 < (K2.nm2 t l).d := fun k => z (hd.mp k)
    generalize K2.nm2 t l = f at e z2
    simp [f__law_part, g__law_part, fnM, startE, sSeq, sAsg, bnd, bnds, mThen, mLift, mVar, m1, m2, mC, mF, aCons, aNil, mCall, mTup, isDs, isD, mIf, mB, bOf, mNot, mOr, mAnd, mAndV, mOrV, qC, sNx, sRet, sEx, dIx, atI, ixN, dCmp, dAdd, dSub, dNeg, dNot, dIs, isT, bInt, bAbs, bLen, mL, mLst, mIt, itOf, sizeLine_eq, e, z2]
end WF
/-! the law's own defs on points and fractions, further -/
namespace WF
open PySem PySem.Spec PyProof.Rows L2 PL
variable {s : S} {p q r : K2.P3} {f g : K2.P2} {a b c : Nat}
theorem e_sum (hf0 : 0 < f.d) (hg0 : 0 < g.d) (f1 : Bi f.n a) (f2 : Bi f.d a) (g1 : Bi g.n b) (g2 : Bi g.d b) (h : a + b < 2000) : f__law_sum [df f, df g] s = some (df (K2.fSum f g), s) := by
  have k1 : dMul (.int f.n) (.int g.d) = _ := mulB (by omega)
  have k2 : dMul (.int g.n) (.int f.d) = _ := mulB (by omega)
  have k3 : dMul (.int f.d) (.int g.d) = _ := mulB (by omega)
  have hd := Int.mul_pos hf0 hg0
  have k4 := e_part (t := f.n * g.d + g.n * f.d) (l := f.d * g.d) (s := s) (m := a + b + (a + b) + 1) (by omega) ((inferInstance : Bi (f.n * g.d + g.n * f.d) _).mono (by omega)) ((inferInstance : Bi (f.d * g.d) _).mono (by omega)) (by omega)
  change _ = some (df (K2.fSum f g), s) at k4
  generalize K2.fSum f g = X at k4
  simp [f__law_sum, g__law_sum, fnM, startE, sSeq, sAsg, bnd, bnds, mThen, mLift, mVar, m1, m2, mC, mF, aCons, aNil, mCall, mTup, isDs, isD, mIf, mB, bOf, mNot, mOr, mAnd, mAndV, mOrV, qC, sNx, sRet, sEx, dIx, atI, ixN, dCmp, dAdd, dSub, dNeg, dNot, dIs, isT, bInt, bAbs, bLen, mL, mLst, mIt, itOf, sizeLine_eq, k1, k2, k3, k4]
theorem e_by (hf0 : 0 < f.d) (hg0 : 0 < g.d) (f1 : Bi f.n a) (f2 : Bi f.d a) (g1 : Bi g.n b) (g2 : Bi g.d b) (h : a + b < 2000) : f__law_by [df f, df g] s = some (df (K2.fBy f g), s) := by
  have k1 : dMul (.int f.n) (.int g.n) = _ := mulB (by omega)
  have k3 : dMul (.int f.d) (.int g.d) = _ := mulB (by omega)
  have hd := Int.mul_pos hf0 hg0
  have k4 := e_part (t := f.n * g.n) (l := f.d * g.d) (s := s) (m := a + b) (by omega) inferInstance inferInstance (by omega)
  change _ = some (df (K2.fBy f g), s) at k4
  generalize K2.fBy f g = X at k4
  simp [f__law_by, g__law_by, fnM, startE, sSeq, sAsg, bnd, bnds, mThen, mLift, mVar, m1, m2, mC, mF, aCons, aNil, mCall, mTup, isDs, isD, mIf, mB, bOf, mNot, mOr, mAnd, mAndV, mOrV, qC, sNx, sRet, sEx, dIx, atI, ixN, dCmp, dAdd, dSub, dNeg, dNot, dIs, isT, bInt, bAbs, bLen, mL, mLst, mIt, itOf, sizeLine_eq, k1, k3, k4]
theorem e_add (hp : PB a p) (hq : PB b q) (h : a + b < 2000) : f__law_add_v2 [dp p, dp q] s = some (dp (K2.pSum p q), s) := by
  obtain ⟨⟨p0, p1⟩, px, py, pw⟩ := hp
  obtain ⟨⟨q0, q1⟩, qx, qy, qw⟩ := hq
  have k1 : dMul (.int p.x) (.int q.w) = _ := mulB (by omega)
  have k2 : dMul (.int q.x) (.int p.w) = _ := mulB (by omega)
  have k3 : dMul (.int p.y) (.int q.w) = _ := mulB (by omega)
  have k4 : dMul (.int q.y) (.int p.w) = _ := mulB (by omega)
  have k5 : dMul (.int p.w) (.int q.w) = _ := mulB (by omega)
  have hd := Int.mul_pos p0 q0
  have k6 := e_least3 (x := p.x * q.w + q.x * p.w) (y := p.y * q.w + q.y * p.w) (w := p.w * q.w) (s := s) (m := a + b + (a + b) + 1) (K2.g3_pos (by omega)) ((inferInstance : Bi (p.x * q.w + q.x * p.w) _).mono (by omega)) ((inferInstance : Bi (p.y * q.w + q.y * p.w) _).mono (by omega)) ((inferInstance : Bi (p.w * q.w) _).mono (by omega)) (by omega)
  change _ = some (dp (K2.pSum p q), s) at k6
  generalize K2.pSum p q = X at k6
  simp [f__law_add_v2, g__law_add_v2, fnM, startE, sSeq, sAsg, bnd, bnds, mThen, mLift, mVar, m1, m2, mC, mF, aCons, aNil, mCall, mTup, isDs, isD, mIf, mB, bOf, mNot, mOr, mAnd, mAndV, mOrV, qC, sNx, sRet, sEx, dIx, atI, ixN, dCmp, dAdd, dSub, dNeg, dNot, dIs, isT, bInt, bAbs, bLen, mL, mLst, mIt, itOf, sizeLine_eq, k1, k2, k3, k4, k5, k6]
theorem e_grow (p0 : 0 < p.w) (px : Bi p.x a) (py : Bi p.y a) (pw : Bi p.w a) (f0 : 0 < f.d) (f1 : Bi f.n b) (f2 : Bi f.d b) (h : a + b < 2000) : f__law_grow [dp p, df f] s = some (dp (K2.pTimes p f), s) := by
  have k1 : dMul (.int p.x) (.int f.n) = _ := mulB (by omega)
  have k3 : dMul (.int p.y) (.int f.n) = _ := mulB (by omega)
  have k5 : dMul (.int p.w) (.int f.d) = _ := mulB (by omega)
  have hd := Int.mul_pos p0 f0
  have k6 := e_least3 (x := p.x * f.n) (y := p.y * f.n) (w := p.w * f.d) (s := s) (m := a + b) (K2.g3_pos (by omega)) inferInstance inferInstance inferInstance (by omega)
  change _ = some (dp (K2.pTimes p f), s) at k6
  generalize K2.pTimes p f = X at k6
  simp [f__law_grow, g__law_grow, fnM, startE, sSeq, sAsg, bnd, bnds, mThen, mLift, mVar, m1, m2, mC, mF, aCons, aNil, mCall, mTup, isDs, isD, mIf, mB, bOf, mNot, mOr, mAnd, mAndV, mOrV, qC, sNx, sRet, sEx, dIx, atI, ixN, dCmp, dAdd, dSub, dNeg, dNot, dIs, isT, bInt, bAbs, bLen, mL, mLst, mIt, itOf, sizeLine_eq, k1, k3, k5, k6]
theorem PB.times' (hp : PB a p) (f0 : 0 < f.d) (f1 : Bi f.n b) (f2 : Bi f.d b) : PB (a + b) (K2.pTimes p f) := by
  obtain ⟨⟨p0, p1⟩, px, py, pw⟩ := hp
  exact nmB (Int.mul_pos p0 f0) inferInstance inferInstance inferInstance
theorem PB.mono {n m : Nat} (hp : PB n p) (h : n ≤ m) : PB m p := ⟨hp.1, hp.2.1.mono h, hp.2.2.1.mono h, hp.2.2.2.mono h⟩
theorem FB.mono {n m : Nat} (hf : FB n f) (h : n ≤ m) : FB m f := ⟨hf.1, hf.2.1.mono h, hf.2.2.mono h⟩
theorem e_midway (hp : PB a p) (hq : PB b q) (hf : FB c f) (h : a + b + c < 400) : f__law_midway [dp p, dp q, df f] s = some (dp (K2.pMid p q f), s) := by
  obtain ⟨⟨f0, _⟩, f1, f2⟩ := hf
  have c1 : Bi (f.d - f.n) (c + c + 1) := inferInstance
  have c2 : Bi f.d (c + c + 1) := f2.mono (by omega)
  have k1 := e_grow (f := ⟨f.d - f.n, f.d⟩) (s := s) hp.1.1 hp.2.1 hp.2.2.1 hp.2.2.2 f0 c1 c2 (by omega)
  have k2 := e_grow (s := s) hq.1.1 hq.2.1 hq.2.2.1 hq.2.2.2 f0 f1 f2 (by omega)
  have k3 := e_add (s := s) (hp.times' (f := ⟨f.d - f.n, f.d⟩) f0 c1 c2) (hq.times' f0 f1 f2) (by omega)
  change _ = some (dp (K2.pMid p q f), s) at k3
  generalize K2.pMid p q f = X at k3
  generalize K2.pTimes p ⟨f.d - f.n, f.d⟩ = Y at k1 k3
  generalize K2.pTimes q f = Z at k2 k3
  simp only [df] at k1
  simp [f__law_midway, g__law_midway, fnM, startE, sSeq, sAsg, bnd, bnds, mThen, mLift, mVar, m1, m2, mC, mF, aCons, aNil, mCall, mTup, isDs, isD, mIf, mB, bOf, mNot, mOr, mAnd, mAndV, mOrV, qC, sNx, sRet, sEx, dIx, atI, ixN, dCmp, dAdd, dSub, dNeg, dNot, dIs, isT, bInt, bAbs, bLen, mL, mLst, mIt, itOf, sizeLine_eq, k1, k2, k3]
theorem e_back : f__law_back [dp p] s = some (dp (K2.pBack p), s) := by
  simp [f__law_back, g__law_back, fnM, startE, sSeq, sAsg, bnd, bnds, mThen, mLift, mVar, m1, m2, mC, mF, aCons, aNil, mCall, mTup, isDs, isD, mIf, mB, bOf, mNot, mOr, mAnd, mAndV, mOrV, qC, sNx, sRet, sEx, dIx, atI, ixN, dCmp, dAdd, dSub, dNeg, dNot, dIs, isT, bInt, bAbs, bLen, mL, mLst, mIt, itOf, sizeLine_eq, K2.pBack]
theorem PB.back (hp : PB a p) : PB a (K2.pBack p) := by
  obtain ⟨⟨p0, p1⟩, px, py, pw⟩ := hp
  refine ⟨⟨p0, ?_⟩, ?_, ?_, pw⟩
  · show K2.g3 (0 - p.x) (0 - p.y) p.w = 1
    rw [Int.zero_sub, Int.zero_sub]
    unfold K2.g3 at p1 ⊢
    rw [Int.natAbs_neg, Int.natAbs_neg]
    exact p1
  · show Bi (0 - p.x) a
    rw [Int.zero_sub]
    exact biNeg
  · show Bi (0 - p.y) a
    rw [Int.zero_sub]
    exact biNeg
theorem e_left (hp : PB a p) (hq : PB b q) (hr : PB c r) (h : a + b + c < 1000) : f__law_left [dp p, dp q, dp r] s = some (.int (K2.leftZ p q r), s) := by
  obtain ⟨_, px, py, pw⟩ := hp
  obtain ⟨_, qx, qy, qw⟩ := hq
  obtain ⟨_, rx, ry, rw⟩ := hr
  have k1 : dMul (.int q.y) (.int r.w) = _ := mulB (by omega)
  have k2 : dMul (.int q.w) (.int r.y) = _ := mulB (by omega)
  have k3 : dMul (.int q.x) (.int r.w) = _ := mulB (by omega)
  have k4 : dMul (.int q.w) (.int r.x) = _ := mulB (by omega)
  have k5 : dMul (.int q.x) (.int r.y) = _ := mulB (by omega)
  have k6 : dMul (.int q.y) (.int r.x) = _ := mulB (by omega)
  have k7 : dMul (.int p.x) (.int (q.y * r.w - q.w * r.y)) = _ := mulB (by omega)
  have k8 : dMul (.int p.y) (.int (q.x * r.w - q.w * r.x)) = _ := mulB (by omega)
  have k9 : dMul (.int p.w) (.int (q.x * r.y - q.y * r.x)) = _ := mulB (by omega)
  unfold K2.leftZ
  simp [f__law_left, g__law_left, fnM, startE, sSeq, sAsg, bnd, bnds, mThen, mLift, mVar, m1, m2, mC, mF, aCons, aNil, mCall, mTup, isDs, isD, mIf, mB, bOf, mNot, mOr, mAnd, mAndV, mOrV, qC, sNx, sRet, sEx, dIx, atI, ixN, dCmp, dAdd, dSub, dNeg, dNot, dIs, isT, bInt, bAbs, bLen, mL, mLst, mIt, itOf, sizeLine_eq, k1, k2, k3, k4, k5, k6, k7, k8, k9]
theorem e_side (hp : PB a p) (hq : PB b q) (ne : p ≠ q) (h : a + b < 1000) : f__law_side_v2 [dp p, dp q] s = some (dp (K2.pRim p q), s) := by
  have sg := K2.side_g hp.1 hq.1 ne
  obtain ⟨_, px, py, pw⟩ := hp
  obtain ⟨_, qx, qy, qw⟩ := hq
  have k1 : dMul (.int p.w) (.int q.y) = _ := mulB (by omega)
  have k2 : dMul (.int p.y) (.int q.w) = _ := mulB (by omega)
  have k3 : dMul (.int p.x) (.int q.w) = _ := mulB (by omega)
  have k4 : dMul (.int p.w) (.int q.x) = _ := mulB (by omega)
  have k5 : dMul (.int p.x) (.int q.y) = _ := mulB (by omega)
  have k6 : dMul (.int p.y) (.int q.x) = _ := mulB (by omega)
  have k7 := e_least3 (x := p.w * q.y - p.y * q.w) (y := p.x * q.w - p.w * q.x) (w := p.x * q.y - p.y * q.x) (s := s) (m := 2 * a + 2 * b + 1) sg ((inferInstance : Bi (p.w * q.y - p.y * q.w) _).mono (by omega)) ((inferInstance : Bi (p.x * q.w - p.w * q.x) _).mono (by omega)) ((inferInstance : Bi (p.x * q.y - p.y * q.x) _).mono (by omega)) (by omega)
  change _ = some (dp (K2.pRim p q), s) at k7
  generalize K2.pRim p q = X at k7
  simp [f__law_side_v2, g__law_side_v2, sPar, fnM, startE, sSeq, sAsg, bnd, bnds, mThen, mLift, mVar, m1, m2, mC, mF, aCons, aNil, mCall, mTup, isDs, isD, mIf, mB, bOf, mNot, mOr, mAnd, mAndV, mOrV, qC, sNx, sRet, sEx, dIx, atI, ixN, dCmp, dAdd, dSub, dNeg, dNot, dIs, isT, bInt, bAbs, bLen, mL, mLst, mIt, itOf, sizeLine_eq, k1, k2, k3, k4, k5, k6, k7]
theorem e_half : f__law_half [df f] s = some (.int (K2.halfZ f), s) := by
  unfold K2.halfZ
  by_cases h1 : 0 < f.d
  · simp [f__law_half, g__law_half, fnM, startE, sSeq, sAsg, bnd, bnds, mThen, mLift, mVar, m1, m2, mC, mF, aCons, aNil, mCall, mTup, isDs, isD, mIf, mB, bOf, mNot, mOr, mAnd, mAndV, mOrV, qC, sNx, sRet, sEx, dIx, atI, ixN, dCmp, dAdd, dSub, dNeg, dNot, dIs, isT, bInt, bAbs, bLen, mL, mLst, mIt, itOf, sizeLine_eq, h1]
  · by_cases h2 : f.d = 0
    · by_cases h3 : 0 < f.n
      · simp [f__law_half, g__law_half, fnM, startE, sSeq, sAsg, bnd, bnds, mThen, mLift, mVar, m1, m2, mC, mF, aCons, aNil, mCall, mTup, isDs, isD, mIf, mB, bOf, mNot, mOr, mAnd, mAndV, mOrV, qC, sNx, sRet, sEx, dIx, atI, ixN, dCmp, dAdd, dSub, dNeg, dNot, dIs, isT, bInt, bAbs, bLen, mL, mLst, mIt, itOf, sizeLine_eq, h2, h3, eqI]
      · simp [f__law_half, g__law_half, fnM, startE, sSeq, sAsg, bnd, bnds, mThen, mLift, mVar, m1, m2, mC, mF, aCons, aNil, mCall, mTup, isDs, isD, mIf, mB, bOf, mNot, mOr, mAnd, mAndV, mOrV, qC, sNx, sRet, sEx, dIx, atI, ixN, dCmp, dAdd, dSub, dNeg, dNot, dIs, isT, bInt, bAbs, bLen, mL, mLst, mIt, itOf, sizeLine_eq, h2, h3, eqI]
    · simp [f__law_half, g__law_half, fnM, startE, sSeq, sAsg, bnd, bnds, mThen, mLift, mVar, m1, m2, mC, mF, aCons, aNil, mCall, mTup, isDs, isD, mIf, mB, bOf, mNot, mOr, mAnd, mAndV, mOrV, qC, sNx, sRet, sEx, dIx, atI, ixN, dCmp, dAdd, dSub, dNeg, dNot, dIs, isT, bInt, bAbs, bLen, mL, mLst, mIt, itOf, sizeLine_eq, h1, h2, eqI]
theorem e_before (h1 : Bi f.n a) (h2 : Bi f.d a) (h3 : Bi g.n b) (h4 : Bi g.d b) (h : a + b < 4000) : f__law_before [df f, df g] s = some (.bool (K2.earl f g), s) := by
  have k1 : dMul (.int f.n) (.int g.d) = _ := mulB (by omega)
  have k2 : dMul (.int f.d) (.int g.n) = _ := mulB (by omega)
  have e1 := e_half (s := s) (f := f)
  have e2 := e_half (s := s) (f := g)
  unfold K2.earl
  generalize K2.halfZ f = i at *
  generalize K2.halfZ g = j at *
  by_cases z : i = j
  · simp [f__law_before, g__law_before, fnM, startE, sSeq, sAsg, bnd, bnds, mThen, mLift, mVar, m1, m2, mC, mF, aCons, aNil, mCall, mTup, isDs, isD, mIf, mB, bOf, mNot, mOr, mAnd, mAndV, mOrV, qC, sNx, sRet, sEx, dIx, atI, ixN, dCmp, dAdd, dSub, dNeg, dNot, dIs, isT, bInt, bAbs, bLen, mL, mLst, mIt, itOf, sizeLine_eq, e1, e2, neI, z, k1, k2]
  · simp [f__law_before, g__law_before, fnM, startE, sSeq, sAsg, bnd, bnds, mThen, mLift, mVar, m1, m2, mC, mF, aCons, aNil, mCall, mTup, isDs, isD, mIf, mB, bOf, mNot, mOr, mAnd, mAndV, mOrV, qC, sNx, sRet, sEx, dIx, atI, ixN, dCmp, dAdd, dSub, dNeg, dNot, dIs, isT, bInt, bAbs, bLen, mL, mLst, mIt, itOf, sizeLine_eq, e1, e2, neI, z]
theorem bi7 {x : Int} (h0 : -100 ≤ x) (h1 : x ≤ 100) : Bi x 7 := ⟨by
  have : (2 : Nat) ^ 7 = 128 := by decide
  omega⟩
theorem e_share {n : Nat} (h : Sv n s) (hn : n ≤ 900000) : ∃ f s', f__law_share [SACK] s = some (df f, s') ∧ FB 7 f ∧ Sv (n + 2) s' := by
  obtain ⟨i, s1, e1, i0, i1, h1⟩ := e_draw_v2 (z := 13) h (by omega) (by decide) (by decide)
  obtain ⟨j, s2, e2, j0, j1, h2⟩ := e_draw_v2 (z := 4) h1 (by omega) (by decide) (by decide)
  have b1 := bi7 (x := i - 6) (by omega) (by omega)
  have b2 := bi7 (x := 1 + j) (by omega) (by omega)
  have e3 := e_part (t := i - 6) (l := 1 + j) (s := s2) (m := 7) (by omega) b1 b2 (by decide)
  refine ⟨K2.partZ (i - 6) (1 + j), s2, ?_, partB (by omega) b1 b2, h2⟩
  simp [f__law_share, g__law_share, fnM, startE, sSeq, sAsg, bnd, bnds, mThen, mLift, mVar, m1, m2, mC, mF, aCons, aNil, mCall, mTup, isDs, isD, mIf, mB, bOf, mNot, mOr, mAnd, mAndV, mOrV, qC, sNx, sRet, sEx, dIx, atI, ixN, dCmp, dAdd, dSub, dNeg, dNot, dIs, isT, bInt, bAbs, bLen, mL, mLst, mIt, itOf, sizeLine_eq, e1, e2, e3]
def mostL : List Int := [2, 3, 3, 5, 9, 99]
def lowL : List Int := [1, 1, 1, 2, 3, 5]
def gustL : List Int := [1, 1, 2, 4, 9, 99]
theorem e_spot_v2 {n : Nat} (h : Sv n s) (hn : n ≤ 900000) : ∃ p s', f__law_spot_v2 [SACK] s = some (dp p, s') ∧ PB 7 p ∧ Sv (n + 4) s' := by
  obtain ⟨d1, mm1, s1, e1, h1⟩ := e_pick (ds := mostL.map PyData.int) h (by omega) (by decide) (by decide)
  obtain ⟨d2, mm2, s2, e2, h2⟩ := e_pick (ds := lowL.map PyData.int) h1 (by omega) (by decide) (by decide)
  obtain ⟨m, mm, rfl⟩ := List.mem_map.mp mm1
  obtain ⟨w, mw, rfl⟩ := List.mem_map.mp mm2
  have m0 : 1 ≤ m ∧ m ≤ 99 := by
    have : ∀ x ∈ mostL, 1 ≤ x ∧ x ≤ 99 := by decide
    exact this m mm
  have w0 : 1 ≤ w ∧ w ≤ 5 := by
    have : ∀ x ∈ lowL, 1 ≤ x ∧ x ≤ 5 := by decide
    exact this w mw
  have b2 : Bi 2 2 := bi2
  have bm := bi7 (x := m) (by omega) (by omega)
  have k1 : dMul (.int 2) (.int m) = _ := mulB (by decide)
  obtain ⟨i, s3, e3, i0, i1, h3⟩ := e_draw_v2 (z := 2 * m + 1) h2 (by omega) (by omega) (by omega)
  obtain ⟨j, s4, e4, j0, j1, h4⟩ := e_draw_v2 (z := 2 * m + 1) h3 (by omega) (by omega) (by omega)
  have bi := bi7 (x := i - m) (by omega) (by omega)
  have bj := bi7 (x := j - m) (by omega) (by omega)
  have bw := bi7 (x := w) (by omega) (by omega)
  have e5 := e_least3 (x := i - m) (y := j - m) (w := w) (s := s4) (K2.g3_pos (by omega)) bi bj bw (by decide)
  refine ⟨K2.nm3 (i - m) (j - m) w, s4, ?_, nmB (by omega) bi bj bw, h4⟩
  generalize K2.nm3 (i - m) (j - m) w = X at e5
  unfold mostL at e1
  unfold lowL at e2
  simp only [List.map] at e1 e2
  simp [f__law_spot_v2, g__law_spot_v2, sPar, fnM, startE, sSeq, sAsg, bnd, bnds, mThen, mLift, mVar, m1, m2, mC, mF, aCons, aNil, mCall, mTup, isDs, isD, mIf, mB, bOf, mNot, mOr, mAnd, mAndV, mOrV, qC, sNx, sRet, sEx, dIx, atI, ixN, dCmp, dAdd, dSub, dNeg, dNot, dIs, isT, bInt, bAbs, bLen, mL, mLst, mIt, itOf, sizeLine_eq, e1, e2, k1, e3, e4, e5]
/-- a direction of few figures -/
def DB (n : Nat) (f : K2.P2) : Prop := K2.Di f ∧ Bi f.n n ∧ Bi f.d n
theorem nm2_di {x y : Int} (h : 1 ≤ K2.g2 x y) : K2.Di (K2.nm2 x y) := by
  obtain ⟨a, b, ha, hb, e1, e2, u⟩ := K2.ex2 h
  show K2.g2 (x / K2.g2 x y) (y / K2.g2 x y) = 1
  rw [e1, e2]
  exact u
theorem e_gust {n : Nat} (h : Sv n s) (hn : n ≤ 900000) : ∃ f s', f__law_gust [SACK] s = some (df f, s') ∧ DB 7 f ∧ Sv (n + 3) s' := by
  obtain ⟨d1, mm1, s1, e1, h1⟩ := e_pick (ds := gustL.map PyData.int) h (by omega) (by decide) (by decide)
  obtain ⟨m, mm, rfl⟩ := List.mem_map.mp mm1
  have m0 : 1 ≤ m ∧ m ≤ 99 := by
    have : ∀ x ∈ gustL, 1 ≤ x ∧ x ≤ 99 := by decide
    exact this m mm
  have b2 : Bi 2 2 := bi2
  have bm := bi7 (x := m) (by omega) (by omega)
  have k1 : dMul (.int 2) (.int m) = _ := mulB (by decide)
  obtain ⟨i, s3, e3, i0, i1, h3⟩ := e_draw_v2 (z := 2 * m + 1) h1 (by omega) (by omega) (by omega)
  obtain ⟨j, s4, e4, j0, j1, h4⟩ := e_draw_v2 (z := 2 * m + 1) h3 (by omega) (by omega) (by omega)
  have bi := bi7 (x := i - m) (by omega) (by omega)
  have bj := bi7 (x := j - m) (by omega) (by omega)
  unfold gustL at e1
  simp only [List.map] at e1
  by_cases z : i - m = 0 ∧ j - m = 0
  · have dn : dNe (.tuple [.int (i - m), .int (j - m)]) (.tuple [.int 0, .int 0]) = some (.bool false) := by
      unfold dNe
      rw [if_pos ⟨rfl, rfl⟩]
      simp [PyData.eqv, PyData.eqvAll, z.1, z.2]
    refine ⟨⟨0, 1⟩, s4, ?_, ⟨rfl, biAbs (by decide), biAbs (by decide)⟩, h4⟩
    simp [f__law_gust, g__law_gust, fnM, startE, sSeq, sAsg, bnd, bnds, mThen, mLift, mVar, m1, m2, mC, mF, aCons, aNil, mCall, mTup, isDs, isD, mIf, mB, bOf, mNot, mOr, mAnd, mAndV, mOrV, qC, sNx, sRet, sEx, dIx, atI, ixN, dCmp, dAdd, dSub, dNeg, dNot, dIs, isT, bInt, bAbs, bLen, mL, mLst, mIt, itOf, sizeLine_eq, e1, k1, e3, e4, dn]
  · have hz : i - m ≠ 0 ∨ j - m ≠ 0 := by omega
    have dn := ne00 hz
    have hg : 1 ≤ K2.g2 (i - m) (j - m) := by
      rcases hz with hz | hz
      · exact K2.g2_pos' hz
      · exact K2.g2_pos hz
    have e5 := e_least2 (x := i - m) (y := j - m) (s := s4) hg bi bj (by decide)
    refine ⟨K2.nm2 (i - m) (j - m), s4, ?_, ⟨nm2_di hg, ⟨Bi.div_le bi.h⟩, ⟨Bi.div_le bj.h⟩⟩, h4⟩
    generalize K2.nm2 (i - m) (j - m) = X at e5
    simp [f__law_gust, g__law_gust, fnM, startE, sSeq, sAsg, bnd, bnds, mThen, mLift, mVar, m1, m2, mC, mF, aCons, aNil, mCall, mTup, isDs, isD, mIf, mB, bOf, mNot, mOr, mAnd, mAndV, mOrV, qC, sNx, sRet, sEx, dIx, atI, ixN, dCmp, dAdd, dSub, dNeg, dNot, dIs, isT, bInt, bAbs, bLen, mL, mLst, mIt, itOf, sizeLine_eq, e1, k1, e3, e4, dn, e5]
end WF
/-! what is shown; sums and places between -/
namespace WF
open PySem PySem.Spec PyProof.Rows L2 PL
theorem repr_at3 {d : D} (h1 : isD d = true) (h2 : d.showable = true) (h3 : d.depth ≤ 60) (h4 : d.shown.length ≤ 100000) : bRepr [d] = some (.str d.shown) := by
  show (if _ then _ else _) = _
  rw [if_pos ⟨h1, h2, h3, by rw [sizeLine_eq]; omega⟩]
/-- can be shown, in few signs -/
structure Shw3 (d : D) (n k : Nat) : Prop where
  is : isD d = true
  sh : d.showable = true
  dp : d.depth ≤ k
  ln : d.shown.length ≤ n
theorem shw_int3 {x : Int} {n : Nat} (p : Bi x n) (h : n < 1900) : Shw3 (.int x) 1921 5 := by
  have z : x.natAbs.log2 < 1920 := by have := p.log (show n < 1901 by omega); omega
  refine ⟨rfl, by simp [PyData.showable, z], by simp [PyData.depth], ?_⟩
  show (Str.ofString (toString x)).length ≤ 1921
  exact int_text_len_1921 z
theorem shw_none : Shw3 .none 1921 5 := ⟨rfl, rfl, by simp [PyData.depth], by simp only [PyData.shown]; decide⟩
theorem shw_t2 {a b : D} {n k : Nat} (ha : Shw3 a n k) (hb : Shw3 b n k) : Shw3 (.tuple [a, b]) (3 * n + 20) (k + 5) := by
  have e : (PyData.tuple [a, b]).shown = tupleText [a.shown, b.shown] := by simp only [PyData.shown, PyData.shownAll]
  have := ha.dp
  have := hb.dp
  have := ha.ln
  have := hb.ln
  refine ⟨rfl, ?_, ?_, ?_⟩
  · show PyData.showableAll [a, b] = true
    simp only [PyData.showableAll, ha.sh, hb.sh, Bool.and_self]
  · simp [PyData.depth, PyData.depthAll]
    omega
  · rw [e]
    refine Nat.le_trans (tupleText_len_le _) ?_
    simp only [List.map_cons, List.map_nil, List.sum_cons, List.sum_nil, List.length_cons, List.length_nil]
    omega
theorem shw_t3 {a b c : D} {n k : Nat} (ha : Shw3 a n k) (hb : Shw3 b n k) (hc : Shw3 c n k) : Shw3 (.tuple [a, b, c]) (3 * n + 20) (k + 5) := by
  have e : (PyData.tuple [a, b, c]).shown = tupleText [a.shown, b.shown, c.shown] := by simp only [PyData.shown, PyData.shownAll]
  have := ha.dp
  have := hb.dp
  have := hc.dp
  have := ha.ln
  have := hb.ln
  have := hc.ln
  refine ⟨rfl, ?_, ?_, ?_⟩
  · show PyData.showableAll [a, b, c] = true
    simp only [PyData.showableAll, ha.sh, hb.sh, hc.sh, Bool.and_self]
  · simp [PyData.depth, PyData.depthAll]
    omega
  · rw [e]
    refine Nat.le_trans (tupleText_len_le _) ?_
    simp only [List.map_cons, List.map_nil, List.sum_cons, List.sum_nil, List.length_cons, List.length_nil]
    omega
theorem shw_l2 {a b : D} {n k : Nat} (ha : Shw3 a n k) (hb : Shw3 b n k) : Shw3 (.list [a, b]) (3 * n + 20) (k + 5) := by
  have e : (PyData.list [a, b]).shown = listText [a.shown, b.shown] := by simp only [PyData.shown, PyData.shownAll]
  have := ha.dp
  have := hb.dp
  have := ha.ln
  have := hb.ln
  refine ⟨rfl, ?_, ?_, ?_⟩
  · show PyData.showableAll [a, b] = true
    simp only [PyData.showableAll, ha.sh, hb.sh, Bool.and_self]
  · simp [PyData.depth, PyData.depthAll]
    omega
  · rw [e]
    refine Nat.le_trans (listText_len_le _) ?_
    simp only [List.map_cons, List.map_nil, List.sum_cons, List.sum_nil, List.length_cons, List.length_nil]
    omega
theorem shw_l3 {a b c : D} {n k : Nat} (ha : Shw3 a n k) (hb : Shw3 b n k) (hc : Shw3 c n k) : Shw3 (.list [a, b, c]) (3 * n + 20) (k + 5) := by
  have e : (PyData.list [a, b, c]).shown = listText [a.shown, b.shown, c.shown] := by simp only [PyData.shown, PyData.shownAll]
  have := ha.dp
  have := hb.dp
  have := hc.dp
  have := ha.ln
  have := hb.ln
  have := hc.ln
  refine ⟨rfl, ?_, ?_, ?_⟩
  · show PyData.showableAll [a, b, c] = true
    simp only [PyData.showableAll, ha.sh, hb.sh, hc.sh, Bool.and_self]
  · simp [PyData.depth, PyData.depthAll]
    omega
  · rw [e]
    refine Nat.le_trans (listText_len_le _) ?_
    simp only [List.map_cons, List.map_nil, List.sum_cons, List.sum_nil, List.length_cons, List.length_nil]
    omega
theorem Shw3.repr {d : D} {n k : Nat} (h : Shw3 d n k) (hn : n ≤ 100000) (hk : k ≤ 60) : bRepr [d] = some (.str d.shown) := repr_at3 h.is h.sh (Nat.le_trans h.dp hk) (Nat.le_trans h.ln hn)
theorem ne_same3 (x : Str) : dNe (.str x) (.str x) = some (.bool false) := by
  unfold dNe
  rw [if_pos ⟨rfl, rfl⟩]
  simp [PyData.eqv]
theorem eq_same3 (x : Str) : dEq (.str x) (.str x) = some (.bool true) := by
  unfold dEq
  rw [if_pos ⟨rfl, rfl⟩]
  simp [PyData.eqv]
theorem rep_no {A B : M D} {d : D} {n k : Nat} {ρ : PL.Env} {s : S} (ha : A ρ s = some (d, s)) (hb : B ρ s = some (d, s)) (h : Shw3 d n k) (hn : n ≤ 100000) (hk : k ≤ 60) : mB (m2 (dNe) (mCall bRepr (aCons A aNil)) (mCall bRepr (aCons B aNil))) ρ s = some (false, s) := by
  simp [mB, m2, mCall, aCons, aNil, mThen, mLift, ha, hb, h.repr hn hk, ne_same3, bOf]
theorem rep_nx {A B : M D} {d : D} {n k : Nat} {ρ : PL.Env} {s : S} (ha : A ρ s = some (d, s)) (hb : B ρ s = some (d, s)) (h : Shw3 d n k) (hn : n ≤ 100000) (hk : k ≤ 60) : mIf (mB (m2 (dNe) (mCall bRepr (aCons A aNil)) (mCall bRepr (aCons B aNil)))) (sRet (mC (.bool false))) (sNx) ρ s = some (.nx ρ, s) := by
  unfold mIf mThen
  rw [rep_no ha hb h hn hk]
  rfl
theorem rep_rt {A B : M D} {d : D} {n k : Nat} {ρ : PL.Env} {s : S} (ha : A ρ s = some (d, s)) (hb : B ρ s = some (d, s)) (h : Shw3 d n k) (hn : n ≤ 100000) (hk : k ≤ 60) : sRet (m2 (dEq) (mCall bRepr (aCons A aNil)) (mCall bRepr (aCons B aNil))) ρ s = some (.rt (.bool true), s) := by
  simp [sRet, m2, mCall, aCons, aNil, mThen, mLift, ha, hb, h.repr hn hk, eq_same3]
variable {s : S} {p q r : K2.P3} {f g : K2.P2} {a b c : Nat}
theorem PB.shw (h : PB a p) (ha : a < 1900) : Shw3 (dp p) (3 * 1921 + 20) 10 := shw_t3 (shw_int3 h.2.1 ha) (shw_int3 h.2.2.1 ha) (shw_int3 h.2.2.2 ha)
theorem FB.shw (h : FB a f) (ha : a < 1900) : Shw3 (df f) (3 * 1921 + 20) 10 := shw_t2 (shw_int3 h.2.1 ha) (shw_int3 h.2.2 ha)
theorem one_fb : FB 7 ⟨1, 1⟩ := ⟨K2.one_fr, biAbs (by decide), biAbs (by decide)⟩
theorem nul_fb : FB 7 ⟨0, 1⟩ := ⟨K2.nul_fr, biAbs (by decide), biAbs (by decide)⟩
theorem neg_fb (h : FB a f) : FB a ⟨0 - f.n, f.d⟩ := by
  obtain ⟨⟨h0, h1⟩, h2, h3⟩ := h
  refine ⟨⟨h0, ?_⟩, ?_, h3⟩
  · show K2.g2 (0 - f.n) f.d = 1
    rw [Int.zero_sub]
    unfold K2.g2 at h1 ⊢
    rw [Int.natAbs_neg]
    exact h1
  · show Bi (0 - f.n) a
    rw [Int.zero_sub]
    exact biNeg
def TE (p q f t u v : D) : PL.Env := [cD p, cD q, cD f, cD t, cD u, cD v]
theorem e_sums_right (hp : PB 7 p) (hq : PB 7 q) (hf : FB 7 f) : f__law_sums_right [dp p, dp q, df f] s = some (.bool true, s) := by
  have p0 := hp.1.1
  have q0 := hq.1.1
  have f0 := hf.1.1
  have hS := hp.sum hq
  have hT := hp.times hf
  have ro : ∀ x y : D, reord [0, 1] [x, y] = [x, y] := fun _ _ => rfl
  have ro2 : ∀ x y : D, reord [1, 0] [x, y] = [y, x] := fun _ _ => rfl
  -- plus
  have a1 := e_plus (s := s) hp hq (by decide)
  have a2 := e_plus (s := s) hq hp (by decide)
  rw [K2.sum_comm q0 p0] at a2
  have a3 := e_minus (s := s) hS hq (by decide)
  rw [K2.gap_sum hp.1 q0] at a3
  have a4 := e_add (s := s) hp hq (by decide)
  have b1 := e_minus (s := s) hp hq (by decide)
  have b2 := e_minus (s := s) hp hp (by decide)
  rw [K2.gap_self p0] at b2
  have b3 := e_back (s := s) (p := q)
  have b4 := e_add (s := s) hp hq.back (by decide)
  rw [← K2.gap_back p0 q0] at b4
  have hG := hp.gap hq
  have c1 := e_times (s := s) hp hf (by decide)
  have c2 := e_times (s := s) hp one_fb (by decide)
  rw [K2.times_one hp.1] at c2
  have c3 := e_grow (s := s) p0 hp.2.1 hp.2.2.1 hp.2.2.2 f0 hf.2.1 hf.2.2 (by decide)
  have w0 : p.w ≠ 0 := by omega
  have h1 := e_part (t := p.x) (l := p.w) (s := s) w0 hp.2.1 hp.2.2.2 (by decide)
  have h2 := e_part (t := p.y) (l := p.w) (s := s) w0 hp.2.2.1 hp.2.2.2 (by decide)
  have hF := partB w0 hp.2.1 hp.2.2.2
  have hF2 := partB w0 hp.2.2.1 hp.2.2.2
  have i1 := e_point_at (s := s) hF hF2 (by decide)
  have i2 := e_point_at (s := s) hF2 hF (by decide)
  rw [K2.at_of hp.1] at i1
  have i3 : K2.pAt (K2.partZ p.y p.w) (K2.partZ p.x p.w) = ⟨p.y, p.x, p.w⟩ := K2.at_of (p := ⟨p.y, p.x, p.w⟩) (K2.swap_pt hp.1)
  rw [i3] at i2
  have hZ : PB 7 ⟨0, 0, 1⟩ := ⟨K2.zero_pt, biAbs (by decide), biAbs (by decide), biAbs (by decide)⟩
  have hW : PB 7 ⟨p.y, p.x, p.w⟩ := ⟨K2.swap_pt hp.1, hp.2.2.1, hp.2.1, hp.2.2.2⟩
  have t4 : mIf (mAnd (mB (m2 (dNe) (m2 dIx (mVar 2) (mC (.int 0))) (mC (.int 0)))) (mB (m2 (dNe) (mCall bRepr (aCons (mF f_times (aCons (mVar 3) (aCons (mF f__law_part (aCons (m2 dIx (mVar 2) (mC (.int 1))) (aCons (m2 dIx (mVar 2) (mC (.int 0))) aNil))) aNil))) aNil)) (mCall bRepr (aCons (mVar 0) aNil))))) (sRet (mC (.bool false))) (sNx) [cD (dp p), cD (dp q), cD (df f), cD (dp (K2.pTimes p f)), none, none] s = some (.nx [cD (dp p), cD (dp q), cD (df f), cD (dp (K2.pTimes p f)), none, none], s) := by
    by_cases z : f.n = 0
    · simp [mIf, mAnd, mB, m2, mThen, mLift, mVar, mC, dIx, atI, ixN, neI, z, bOf, qC, sNx]
    · have g1 := e_part (t := f.d) (l := f.n) (s := s) z hf.2.2 hf.2.1 (by decide)
      have g2 := e_times (s := s) hT (partB z hf.2.2 hf.2.1) (by decide)
      rw [K2.times_back hp.1 f0 z] at g2
      have k := rep_no (A := mF f_times (aCons (mVar 3) (aCons (mF f__law_part (aCons (m2 dIx (mVar 2) (mC (.int 1))) (aCons (m2 dIx (mVar 2) (mC (.int 0))) aNil))) aNil))) (B := mVar 0) (ρ := [cD (dp p), cD (dp q), cD (df f), cD (dp (K2.pTimes p f)), none, none]) (s := s) (d := dp p) (by
        generalize K2.pTimes p f = X at g2
        generalize K2.partZ f.d f.n = Y at g1 g2
        simp [fnM, startE, sSeq, sAsg, bnd, bnds, mThen, mLift, mVar, m1, m2, mC, mF, aCons, aNil, mCall, mTup, isDs, isD, mIf, mB, bOf, mNot, mOr, mAnd, mAndV, mOrV, qC, sNx, sRet, sEx, dIx, atI, ixN, dCmp, dAdd, dSub, dNeg, dNot, dIs, isT, bInt, bAbs, bLen, mL, mLst, mIt, itOf, sizeLine_eq, g1, g2]) (by simp [mVar]) (hp.shw (by decide)) (by decide) (by decide)
      generalize mB (m2 (dNe) (mCall bRepr (aCons (mF f_times (aCons (mVar 3) (aCons (mF f__law_part (aCons (m2 dIx (mVar 2) (mC (.int 1))) (aCons (m2 dIx (mVar 2) (mC (.int 0))) aNil))) aNil))) aNil)) (mCall bRepr (aCons (mVar 0) aNil))) = L at k ⊢
      simp [mIf, mAnd, mB, m2, mThen, mLift, mVar, mC, dIx, atI, ixN, neI, z, bOf, qC, sNx, k]
  have sS := hS.shw (by decide)
  have sG := hG.shw (by decide)
  have sT := hT.shw (by decide)
  have sp := hp.shw (by decide)
  have sZ := hZ.shw (by decide)
  have sW := hW.shw (by decide)
  have j1 : dp (⟨0, 0, 1⟩ : K2.P3) = .tuple [.int 0, .int 0, .int 1] := rfl
  have j2 : df (⟨1, 1⟩ : K2.P2) = .tuple [.int 1, .int 1] := rfl
  have j3 : dp (⟨p.y, p.x, p.w⟩ : K2.P3) = .tuple [.int p.y, .int p.x, .int p.w] := rfl
  rw [j1] at b2
  rw [j2] at c2
  rw [j3] at i2
  generalize K2.pSum p q = S1 at *
  generalize K2.pGap p q = G1 at *
  generalize K2.pTimes p f = T1 at *
  generalize K2.pBack q = B1 at *
  generalize K2.partZ p.x p.w = X1 at *
  generalize K2.partZ p.y p.w = Y1 at *
  refine fnM_rt rfl ?_
  unfold g__law_sums_right
  have t0 : sAsg (.nm 3) (mF f_plus (aCons (mVar 0) (aCons (mVar 1) aNil))) (startE 6 [dp p, dp q, df f]) s = some (.nx [cD (dp p), cD (dp q), cD (df f), cD (dp S1), none, none], s) := by
    simp [fnM, startE, sSeq, sAsg, bnd, bnds, mThen, mLift, mVar, m1, m2, mC, mF, aCons, aNil, mCall, mTup, isDs, isD, mIf, mB, bOf, mNot, mOr, mAnd, mAndV, mOrV, qC, sNx, sRet, sEx, dIx, atI, ixN, dCmp, dAdd, dSub, dNeg, dNot, dIs, isT, bInt, bAbs, bLen, mL, mLst, mIt, itOf, sizeLine_eq, a1]
  rw [sSeq_nx t0]
  rw [sSeq_nx (rep_nx (d := .list [dp S1, dp S1, dp p]) (by simp [fnM, startE, sSeq, sAsg, bnd, bnds, mThen, mLift, mVar, m1, m2, mC, mF, aCons, aNil, mCall, mTup, isDs, isD, mIf, mB, bOf, mNot, mOr, mAnd, mAndV, mOrV, qC, sNx, sRet, sEx, dIx, atI, ixN, dCmp, dAdd, dSub, dNeg, dNot, dIs, isT, bInt, bAbs, bLen, mL, mLst, mIt, itOf, sizeLine_eq, mFK, ro, a2, a3]) (by simp [fnM, startE, sSeq, sAsg, bnd, bnds, mThen, mLift, mVar, m1, m2, mC, mF, aCons, aNil, mCall, mTup, isDs, isD, mIf, mB, bOf, mNot, mOr, mAnd, mAndV, mOrV, qC, sNx, sRet, sEx, dIx, atI, ixN, dCmp, dAdd, dSub, dNeg, dNot, dIs, isT, bInt, bAbs, bLen, mL, mLst, mIt, itOf, sizeLine_eq, a4]) (shw_l3 sS sS sp) (by decide) (by decide))]
  rw [sSeq_nx (rep_nx (d := .list [dp G1, .tuple [.int 0, .int 0, .int 1]]) (by simp [fnM, startE, sSeq, sAsg, bnd, bnds, mThen, mLift, mVar, m1, m2, mC, mF, aCons, aNil, mCall, mTup, isDs, isD, mIf, mB, bOf, mNot, mOr, mAnd, mAndV, mOrV, qC, sNx, sRet, sEx, dIx, atI, ixN, dCmp, dAdd, dSub, dNeg, dNot, dIs, isT, bInt, bAbs, bLen, mL, mLst, mIt, itOf, sizeLine_eq, mFK, ro, b1, b2]) (by simp [fnM, startE, sSeq, sAsg, bnd, bnds, mThen, mLift, mVar, m1, m2, mC, mF, aCons, aNil, mCall, mTup, isDs, isD, mIf, mB, bOf, mNot, mOr, mAnd, mAndV, mOrV, qC, sNx, sRet, sEx, dIx, atI, ixN, dCmp, dAdd, dSub, dNeg, dNot, dIs, isT, bInt, bAbs, bLen, mL, mLst, mIt, itOf, sizeLine_eq, b3, b4]) (shw_l2 sG sZ) (by decide) (by decide))]
  have t3 : sAsg (.nm 3) (mF f_times (aCons (mVar 0) (aCons (mVar 2) aNil))) [cD (dp p), cD (dp q), cD (df f), cD (dp S1), none, none] s = some (.nx [cD (dp p), cD (dp q), cD (df f), cD (dp T1), none, none], s) := by
    simp [fnM, startE, sSeq, sAsg, bnd, bnds, mThen, mLift, mVar, m1, m2, mC, mF, aCons, aNil, mCall, mTup, isDs, isD, mIf, mB, bOf, mNot, mOr, mAnd, mAndV, mOrV, qC, sNx, sRet, sEx, dIx, atI, ixN, dCmp, dAdd, dSub, dNeg, dNot, dIs, isT, bInt, bAbs, bLen, mL, mLst, mIt, itOf, sizeLine_eq, c1]
  rw [sSeq_nx t3]
  rw [sSeq_nx (rep_nx (d := .list [dp T1, dp p]) (by simp [fnM, startE, sSeq, sAsg, bnd, bnds, mThen, mLift, mVar, m1, m2, mC, mF, aCons, aNil, mCall, mTup, isDs, isD, mIf, mB, bOf, mNot, mOr, mAnd, mAndV, mOrV, qC, sNx, sRet, sEx, dIx, atI, ixN, dCmp, dAdd, dSub, dNeg, dNot, dIs, isT, bInt, bAbs, bLen, mL, mLst, mIt, itOf, sizeLine_eq, mFK, ro, c2]) (by simp [fnM, startE, sSeq, sAsg, bnd, bnds, mThen, mLift, mVar, m1, m2, mC, mF, aCons, aNil, mCall, mTup, isDs, isD, mIf, mB, bOf, mNot, mOr, mAnd, mAndV, mOrV, qC, sNx, sRet, sEx, dIx, atI, ixN, dCmp, dAdd, dSub, dNeg, dNot, dIs, isT, bInt, bAbs, bLen, mL, mLst, mIt, itOf, sizeLine_eq, c3]) (shw_l2 sT sp) (by decide) (by decide))]
  rw [sSeq_nx t4]
  have t5 : sPar 4 5 (aCons (mF f__law_part (aCons (m2 dIx (mVar 0) (mC (.int 0))) (aCons (m2 dIx (mVar 0) (mC (.int 2))) aNil))) (aCons (mF f__law_part (aCons (m2 dIx (mVar 0) (mC (.int 1))) (aCons (m2 dIx (mVar 0) (mC (.int 2))) aNil))) aNil)) [cD (dp p), cD (dp q), cD (df f), cD (dp T1), none, none] s = some (.nx [cD (dp p), cD (dp q), cD (df f), cD (dp T1), cD (df X1), cD (df Y1)], s) := by
    simp [sPar, fnM, startE, sSeq, sAsg, bnd, bnds, mThen, mLift, mVar, m1, m2, mC, mF, aCons, aNil, mCall, mTup, isDs, isD, mIf, mB, bOf, mNot, mOr, mAnd, mAndV, mOrV, qC, sNx, sRet, sEx, dIx, atI, ixN, dCmp, dAdd, dSub, dNeg, dNot, dIs, isT, bInt, bAbs, bLen, mL, mLst, mIt, itOf, sizeLine_eq, h1, h2]
  rw [sSeq_nx t5]
  exact rep_rt (d := .list [dp p, .tuple [.int p.y, .int p.x, .int p.w]]) (by simp [fnM, startE, sSeq, sAsg, bnd, bnds, mThen, mLift, mVar, m1, m2, mC, mF, aCons, aNil, mCall, mTup, isDs, isD, mIf, mB, bOf, mNot, mOr, mAnd, mAndV, mOrV, qC, sNx, sRet, sEx, dIx, atI, ixN, dCmp, dAdd, dSub, dNeg, dNot, dIs, isT, bInt, bAbs, bLen, mL, mLst, mIt, itOf, sizeLine_eq, mFK, ro2, i1, i2]) (by simp [fnM, startE, sSeq, sAsg, bnd, bnds, mThen, mLift, mVar, m1, m2, mC, mF, aCons, aNil, mCall, mTup, isDs, isD, mIf, mB, bOf, mNot, mOr, mAnd, mAndV, mOrV, qC, sNx, sRet, sEx, dIx, atI, ixN, dCmp, dAdd, dSub, dNeg, dNot, dIs, isT, bInt, bAbs, bLen, mL, mLst, mIt, itOf, sizeLine_eq]) (shw_l2 sp sW) (by decide) (by decide)
theorem e_between_right (hp : PB 7 p) (hq : PB 7 q) (hf : FB 7 f) (hg : FB 7 g) : f__law_between_right [dp p, dp q, df f, df g] s = some (.bool true, s) := by
  have p0 := hp.1.1
  have q0 := hq.1.1
  have f0 := hf.1.1
  have g0 := hg.1.1
  have ro : ∀ x y z : D, reord [0, 1, 2] [x, y, z] = [x, y, z] := fun _ _ _ => rfl
  have hB : PB 101 (K2.pBtw p q f) := (hp.sum ((hq.gap hp).times hf)).mono (by decide)
  have a1 := e_between (s := s) hp hq hf (by decide)
  have a2 := e_midway (s := s) hp hq hf (by decide)
  rw [← K2.mid_btw p0 q0 f0] at a2
  have hn := neg_fb hf
  have a3 := e_sum (s := s) (f := ⟨1, 1⟩) (g := ⟨0 - f.n, f.d⟩) (by decide) f0 one_fb.2.1 one_fb.2.2 hn.2.1 hn.2.2 (by decide)
  have a4 := e_between (s := s) hq hp (one_fb.sum hn) (by decide)
  rw [K2.btw_turn p0 q0 f0] at a4
  have b1 := e_between (s := s) hp hq nul_fb (by decide)
  rw [K2.btw_zero hp.1 q0] at b1
  have b2 := e_between (s := s) hp hq one_fb (by decide)
  rw [K2.btw_one p0 hq.1] at b2
  have c1 := e_between (s := s) hp hB hg (by decide)
  rw [K2.btw_btw p0 q0 f0 g0] at c1
  have c2 := e_by (s := s) f0 g0 hf.2.1 hf.2.2 hg.2.1 hg.2.2 (by decide)
  have c3 := e_between (s := s) hp hq (hf.by hg) (by decide)
  have hB2 : PB 200 (K2.pBtw p q (K2.fBy f g)) := (hp.sum ((hq.gap hp).times (hf.by hg))).mono (by decide)
  have sB := hB.shw (by decide)
  have sB2 := hB2.shw (by decide)
  have sp := hp.shw (by decide)
  have sq := hq.shw (by decide)
  have j1 : df (⟨0, 1⟩ : K2.P2) = .tuple [.int 0, .int 1] := rfl
  have j2 : df (⟨1, 1⟩ : K2.P2) = .tuple [.int 1, .int 1] := rfl
  have j3 : df (⟨0 - f.n, f.d⟩ : K2.P2) = .tuple [.int (0 - f.n), .int f.d] := rfl
  rw [j1] at b1
  rw [j2] at b2
  rw [j2, j3] at a3
  generalize K2.pBtw p q (K2.fBy f g) = B2 at *
  generalize K2.pBtw p q f = B1 at *
  generalize K2.fBy f g = F1 at *
  generalize K2.fSum ⟨1, 1⟩ ⟨0 - f.n, f.d⟩ = F2 at *
  refine fnM_rt rfl ?_
  unfold g__law_between_right
  have t0 : sAsg (.nm 4) (mF f_between (aCons (mVar 0) (aCons (mVar 1) (aCons (mVar 2) aNil)))) (startE 5 [dp p, dp q, df f, df g]) s = some (.nx [cD (dp p), cD (dp q), cD (df f), cD (df g), cD (dp B1)], s) := by
    simp [fnM, startE, sSeq, sAsg, bnd, bnds, mThen, mLift, mVar, m1, m2, mC, mF, aCons, aNil, mCall, mTup, isDs, isD, mIf, mB, bOf, mNot, mOr, mAnd, mAndV, mOrV, qC, sNx, sRet, sEx, dIx, atI, ixN, dCmp, dAdd, dSub, dNeg, dNot, dIs, isT, bInt, bAbs, bLen, mL, mLst, mIt, itOf, sizeLine_eq, a1]
  rw [sSeq_nx t0]
  rw [sSeq_nx (rep_nx (d := dp B1) (by simp [mVar]) (by simp [fnM, startE, sSeq, sAsg, bnd, bnds, mThen, mLift, mVar, m1, m2, mC, mF, aCons, aNil, mCall, mTup, isDs, isD, mIf, mB, bOf, mNot, mOr, mAnd, mAndV, mOrV, qC, sNx, sRet, sEx, dIx, atI, ixN, dCmp, dAdd, dSub, dNeg, dNot, dIs, isT, bInt, bAbs, bLen, mL, mLst, mIt, itOf, sizeLine_eq, a2]) sB (by decide) (by decide))]
  rw [sSeq_nx (rep_nx (d := dp B1) (by simp [fnM, startE, sSeq, sAsg, bnd, bnds, mThen, mLift, mVar, m1, m2, mC, mF, aCons, aNil, mCall, mTup, isDs, isD, mIf, mB, bOf, mNot, mOr, mAnd, mAndV, mOrV, qC, sNx, sRet, sEx, dIx, atI, ixN, dCmp, dAdd, dSub, dNeg, dNot, dIs, isT, bInt, bAbs, bLen, mL, mLst, mIt, itOf, sizeLine_eq, -Int.zero_sub, mFK, ro, a3, a4]) (by simp [mVar]) sB (by decide) (by decide))]
  rw [sSeq_nx (rep_nx (d := .list [dp p, dp q]) (by simp [fnM, startE, sSeq, sAsg, bnd, bnds, mThen, mLift, mVar, m1, m2, mC, mF, aCons, aNil, mCall, mTup, isDs, isD, mIf, mB, bOf, mNot, mOr, mAnd, mAndV, mOrV, qC, sNx, sRet, sEx, dIx, atI, ixN, dCmp, dAdd, dSub, dNeg, dNot, dIs, isT, bInt, bAbs, bLen, mL, mLst, mIt, itOf, sizeLine_eq, b1, b2]) (by simp [fnM, startE, sSeq, sAsg, bnd, bnds, mThen, mLift, mVar, m1, m2, mC, mF, aCons, aNil, mCall, mTup, isDs, isD, mIf, mB, bOf, mNot, mOr, mAnd, mAndV, mOrV, qC, sNx, sRet, sEx, dIx, atI, ixN, dCmp, dAdd, dSub, dNeg, dNot, dIs, isT, bInt, bAbs, bLen, mL, mLst, mIt, itOf, sizeLine_eq]) (shw_l2 sp sq) (by decide) (by decide))]
  exact rep_rt (d := dp B2) (by simp [fnM, startE, sSeq, sAsg, bnd, bnds, mThen, mLift, mVar, m1, m2, mC, mF, aCons, aNil, mCall, mTup, isDs, isD, mIf, mB, bOf, mNot, mOr, mAnd, mAndV, mOrV, qC, sNx, sRet, sEx, dIx, atI, ixN, dCmp, dAdd, dSub, dNeg, dNot, dIs, isT, bInt, bAbs, bLen, mL, mLst, mIt, itOf, sizeLine_eq, c1]) (by simp [fnM, startE, sSeq, sAsg, bnd, bnds, mThen, mLift, mVar, m1, m2, mC, mF, aCons, aNil, mCall, mTup, isDs, isD, mIf, mB, bOf, mNot, mOr, mAnd, mAndV, mOrV, qC, sNx, sRet, sEx, dIx, atI, ixN, dCmp, dAdd, dSub, dNeg, dNot, dIs, isT, bInt, bAbs, bLen, mL, mLst, mIt, itOf, sizeLine_eq, c2, c3]) sB2 (by decide) (by decide)
end WF
/-! senses, sides; directions -/
namespace WF
open PySem PySem.Spec PyProof.Rows L2 PL
theorem Shw3.mono {d : D} {n m k l : Nat} (h : Shw3 d n k) (h1 : n ≤ m) (h2 : k ≤ l) : Shw3 d m l := ⟨h.is, h.sh, Nat.le_trans h.dp h2, Nat.le_trans h.ln h1⟩
theorem shw_bool (b : Bool) : Shw3 (.bool b) 1921 5 := by
  cases b
  · exact ⟨rfl, rfl, by simp [PyData.depth], by simp only [PyData.shown]; decide⟩
  · exact ⟨rfl, rfl, by simp [PyData.depth], by simp only [PyData.shown]; decide⟩
variable {s : S} {p q r : K2.P3} {f g : K2.P2} {a b c : Nat}
theorem sgn_bi (z : Int) : Bi (K2.sgnZ z) 7 := by
  unfold K2.sgnZ
  split
  · exact biAbs (by decide)
  · split
    · exact biAbs (by decide)
    · exact biAbs (by decide)
theorem rep00 : bRepr [.list [.int 0, .int 0]] = some (.str "[0, 0]") := by
  rw [repr_at3 rfl rfl (by simp [PyData.depth, PyData.depthAll]) (by simp only [PyData.shown, PyData.shownAll]; decide)]
  rfl
theorem rep01 : bRepr [.list [.tuple [.int 0, .int 1], .tuple [.int 0, .int 1]]] = some (.str "[(0, 1), (0, 1)]") := by
  rw [repr_at3 rfl rfl (by simp [PyData.depth, PyData.depthAll]) (by simp only [PyData.shown, PyData.shownAll]; decide)]
  rfl
theorem dp_eq : dEq (dp p) (dp p) = some (.bool true) := by
  unfold dEq
  rw [if_pos ⟨rfl, rfl⟩]
  simp [PyData.eqv, PyData.eqvAll]
theorem sgn_decide (z : Int) : (if decide (0 < z) = true then (1 : Int) else 0) - (if decide (z < 0) = true then 1 else 0) = K2.sgnZ z := by
  rw [← K2.sgn_int]
  simp only [decide_eq_true_eq]
theorem e_senses_right (hp : PB 7 p) (hq : PB 7 q) (hr : PB 101 r) : f__law_senses_right [dp p, dp q, dp r] s = some (.bool true, s) := by
  have p0 := hp.1.1
  have q0 := hq.1.1
  have r0 := hr.1.1
  have ro2 : ∀ x y : D, reord [0, 1] [x, y] = [x, y] := fun _ _ => rfl
  have ro : ∀ x y z : D, reord [0, 1, 2] [x, y, z] = [x, y, z] := fun _ _ _ => rfl
  have a0 := e_left (s := s) hp hq hr (by decide)
  have sd := sgn_decide (K2.leftZ p q r)
  have a1 := e_sense (s := s) hp hq hr (by decide)
  rw [K2.turn_left, K2.sgn_mul p0] at a1
  have a2 := e_sense (s := s) hq hr hp (by decide)
  rw [K2.turn_left, K2.sgn_mul q0, K2.left_cyc] at a2
  have a3 := e_sense (s := s) hq hp hr (by decide)
  rw [K2.turn_left, K2.sgn_mul q0, K2.left_swap, K2.sgn_neg] at a3
  have a4 := e_sense (s := s) hp hp hr (by decide)
  rw [K2.turn_aa] at a4
  have a5 := e_sense (s := s) hp hq hq (by decide)
  rw [K2.turn_bb] at a5
  have z0 : K2.sgnZ 0 = 0 := rfl
  rw [z0] at a4 a5
  have bz := sgn_bi (K2.leftZ p q r)
  have bz2 : Bi (-K2.sgnZ (K2.leftZ p q r)) 7 := biNeg
  have r0' := rep00
  have r1' := rep01
  refine fnM_rt rfl ?_
  unfold g__law_senses_right
  have t3 : sAsg (.nm 3) (mF f__law_left (aCons (mVar 0) (aCons (mVar 1) (aCons (mVar 2) aNil)))) (startE 9 [dp p, dp q, dp r]) s = some (.nx [cD (dp p), cD (dp q), cD (dp r), cI (K2.leftZ p q r), none, none, none, none, none], s) := by
    simp [fnM, startE, sSeq, sAsg, bnd, bnds, mThen, mLift, mVar, m1, m2, mC, mF, aCons, aNil, mCall, mTup, isDs, isD, mIf, mB, bOf, mNot, mOr, mAnd, mAndV, mOrV, qC, sNx, sRet, sEx, dIx, atI, ixN, dCmp, dAdd, dSub, dNeg, dNot, dIs, isT, bInt, bAbs, bLen, mL, mLst, mIt, itOf, sizeLine_eq, a0]
  rw [sSeq_nx t3]
  generalize hW : K2.sgnZ (K2.leftZ p q r) = W at *
  have t4 : sAsg (.nm 4) (m2 dSub (mCall bInt (aCons (m2 (dCmp fun i j => decide (j < i)) (mVar 3) (mC (.int 0))) aNil)) (mCall bInt (aCons (m2 (dCmp fun i j => decide (i < j)) (mVar 3) (mC (.int 0))) aNil))) [cD (dp p), cD (dp q), cD (dp r), cI (K2.leftZ p q r), none, none, none, none, none] s = some (.nx [cD (dp p), cD (dp q), cD (dp r), cI (K2.leftZ p q r), cI W, none, none, none, none], s) := by
    generalize K2.leftZ p q r = Z at *
    simp only [sAsg, bnd, mThen, mLift, mVar, m2, mC, aCons, aNil, mCall, dCmp, bInt, dSub, List.getElem?_cons_succ, List.getElem?_cons_zero]
    rw [sd]
    rfl
  rw [sSeq_nx t4]
  have t5 : sAsg (.nm 5) (mL (mLst (aCons (mF f_sense (aCons (mVar 0) (aCons (mVar 1) (aCons (mVar 2) aNil)))) (aCons (mF f_sense (aCons (mVar 1) (aCons (mVar 2) (aCons (mVar 0) aNil)))) (aCons (mFK f_sense [0, 1, 2] (aCons (mVar 1) (aCons (mVar 0) (aCons (mVar 2) aNil)))) aNil))))) [cD (dp p), cD (dp q), cD (dp r), cI (K2.leftZ p q r), cI W, none, none, none, none] s = some (.nx [cD (dp p), cD (dp q), cD (dp r), cI (K2.leftZ p q r), cI W, cD (.list [.int W, .int W, .int (-W)]), none, none, none], s) := by
    simp [fnM, startE, sSeq, sAsg, bnd, bnds, mThen, mLift, mVar, m1, m2, mC, mF, aCons, aNil, mCall, mTup, isDs, isD, mIf, mB, bOf, mNot, mOr, mAnd, mAndV, mOrV, qC, sNx, sRet, sEx, dIx, atI, ixN, dCmp, dAdd, dSub, dNeg, dNot, dIs, isT, bInt, bAbs, bLen, mL, mLst, mIt, itOf, sizeLine_eq, mFK, ro, a1, a2, a3]
  rw [sSeq_nx t5]
  have t6 : mIf (mOr (mB (m2 (dNe) (mCall bRepr (aCons (mVar 5) aNil)) (mCall bRepr (aCons (mL (mLst (aCons (mVar 4) (aCons (mVar 4) (aCons (m2 dSub (mC (.int 0)) (mVar 4)) aNil))))) aNil)))) (mB (m2 (dNe) (mCall bRepr (aCons (mL (mLst (aCons (mF f_sense (aCons (mVar 0) (aCons (mVar 0) (aCons (mVar 2) aNil)))) (aCons (mF f_sense (aCons (mVar 0) (aCons (mVar 1) (aCons (mVar 1) aNil)))) aNil)))) aNil)) (mC (.str "[0, 0]"))))) (sRet (mC (.bool false))) (sNx) [cD (dp p), cD (dp q), cD (dp r), cI (K2.leftZ p q r), cI W, cD (.list [.int W, .int W, .int (-W)]), none, none, none] s = some (.nx [cD (dp p), cD (dp q), cD (dp r), cI (K2.leftZ p q r), cI W, cD (.list [.int W, .int W, .int (-W)]), none, none, none], s) := by
    have k1 := rep_no (A := mVar 5) (B := mL (mLst (aCons (mVar 4) (aCons (mVar 4) (aCons (m2 dSub (mC (.int 0)) (mVar 4)) aNil))))) (ρ := [cD (dp p), cD (dp q), cD (dp r), cI (K2.leftZ p q r), cI W, cD (.list [.int W, .int W, .int (-W)]), none, none, none]) (s := s) (d := .list [.int W, .int W, .int (-W)]) (by simp [mVar]) (by simp [fnM, startE, sSeq, sAsg, bnd, bnds, mThen, mLift, mVar, m1, m2, mC, mF, aCons, aNil, mCall, mTup, isDs, isD, mIf, mB, bOf, mNot, mOr, mAnd, mAndV, mOrV, qC, sNx, sRet, sEx, dIx, atI, ixN, dCmp, dAdd, dSub, dNeg, dNot, dIs, isT, bInt, bAbs, bLen, mL, mLst, mIt, itOf, sizeLine_eq]) (shw_l3 (shw_int3 bz (by decide)) (shw_int3 bz (by decide)) (shw_int3 bz2 (by decide))) (by decide) (by decide)
    have k2 : mB (m2 (dNe) (mCall bRepr (aCons (mL (mLst (aCons (mF f_sense (aCons (mVar 0) (aCons (mVar 0) (aCons (mVar 2) aNil)))) (aCons (mF f_sense (aCons (mVar 0) (aCons (mVar 1) (aCons (mVar 1) aNil)))) aNil)))) aNil)) (mC (.str "[0, 0]"))) [cD (dp p), cD (dp q), cD (dp r), cI (K2.leftZ p q r), cI W, cD (.list [.int W, .int W, .int (-W)]), none, none, none] s = some (false, s) := by
      have nn := ne_same3 "[0, 0]"
      simp [fnM, startE, sSeq, sAsg, bnd, bnds, mThen, mLift, mVar, m1, m2, mC, mF, aCons, aNil, mCall, mTup, isDs, isD, mIf, mB, bOf, mNot, mOr, mAnd, mAndV, mOrV, qC, sNx, sRet, sEx, dIx, atI, ixN, dCmp, dAdd, dSub, dNeg, dNot, dIs, isT, bInt, bAbs, bLen, mL, mLst, mIt, itOf, sizeLine_eq, a4, a5, r0', nn]
    generalize mB (m2 (dNe) (mCall bRepr (aCons (mVar 5) aNil)) _) = L1 at k1 ⊢
    generalize mB (m2 (dNe) _ (mC (.str "[0, 0]"))) = L2 at k2 ⊢
    simp [mIf, mOr, mThen, mLift, k1, k2, sNx]
  rw [sSeq_nx t6]
  by_cases ne : p = q
  · subst ne
    have e := dp_eq (p := p)
    refine sSeq_rt ?_
    simp [mIf, mB, m2, mThen, mLift, mVar, mC, e, bOf, sRet]
  have t7 : mIf (mB (m2 (dEq) (mVar 0) (mVar 1))) (sRet (mC (.bool true))) (sNx) [cD (dp p), cD (dp q), cD (dp r), cI (K2.leftZ p q r), cI W, cD (.list [.int W, .int W, .int (-W)]), none, none, none] s = some (.nx [cD (dp p), cD (dp q), cD (dp r), cI (K2.leftZ p q r), cI W, cD (.list [.int W, .int W, .int (-W)]), none, none, none], s) := by
    have e := dp_ne ne
    simp [mIf, mB, m2, mThen, mLift, mVar, mC, e, bOf, sNx]
  rw [sSeq_nx t7]
  have ne2 : q ≠ p := fun z => ne z.symm
  have b1 := e_side_through (s := s) hp hq ne (by decide)
  have b2 := e_side_through (s := s) hq hp ne2 (by decide)
  have b3 := e_side (s := s) hp hq ne (by decide)
  have b4 := e_side (s := s) hq hp ne2 (by decide)
  have hR := hp.rim hq ne
  have hO := hq.rim hp ne2
  have c1 := e_excess (s := s) hR hr (by decide)
  have c2 := e_excess (s := s) hO hr (by decide)
  rw [K2.over_swap hp.1 hq.1 ne, K2.nm2_neg _ _ (by omega)] at c2
  have c3 := e_excess (s := s) hR hp (by decide)
  rw [K2.over_zero hp.1 hq.1 ne (by unfold K2.leftZ; grind), K2.nm2_zero p0] at c3
  have c4 := e_excess (s := s) hO hq (by decide)
  rw [K2.over_zero hq.1 hp.1 ne2 (by unfold K2.leftZ; grind), K2.nm2_zero q0] at c4
  have sg := K2.nm2_sgn (n := K2.overZ (K2.pRim p q) r) (d := r.w) r0
  rw [K2.over_sgn hp.1 hq.1 ne, hW] at sg
  obtain ⟨_, lx, ly, lw⟩ := hR
  obtain ⟨_, ox, oy, ow⟩ := hO
  obtain ⟨_, rx, ry, rw⟩ := hr
  have k1 : dMul (.int (K2.pRim p q).x) (.int r.x) = _ := mulB (by decide)
  have k2 : dMul (.int (K2.pRim p q).y) (.int r.y) = _ := mulB (by decide)
  have k3 : dMul (.int (K2.pRim p q).w) (.int r.w) = _ := mulB (by decide)
  have bo : Bi (K2.overZ (K2.pRim p q) r) 400 := (inferInstance : Bi ((K2.pRim p q).x * r.x + (K2.pRim p q).y * r.y - (K2.pRim p q).w * r.w) _).mono (by decide)
  have d1 := e_part (t := K2.overZ (K2.pRim p q) r) (l := r.w) (s := s) (m := 400) (by omega) bo (rw.mono (by decide)) (by decide)
  have pz : K2.partZ (K2.overZ (K2.pRim p q) r) r.w = K2.nm2 (K2.overZ (K2.pRim p q) r) r.w := if_pos r0
  rw [pz] at d1
  have sR : Shw3 (dp (K2.pRim p q)) (3 * 1921 + 20) 10 := shw_t3 (shw_int3 lx (by decide)) (shw_int3 ly (by decide)) (shw_int3 lw (by decide))
  have sO : Shw3 (dp (K2.pRim q p)) (3 * 1921 + 20) 10 := shw_t3 (shw_int3 ox (by decide)) (shw_int3 oy (by decide)) (shw_int3 ow (by decide))
  have fx : FB 400 (K2.nm2 (K2.overZ (K2.pRim p q) r) r.w) := nm2B r0 bo (rw.mono (by decide))
  have sX := fx.shw (by decide)
  have sN := (neg_fb fx).shw (by decide)
  have ov : (K2.pRim p q).x * r.x + (K2.pRim p q).y * r.y - (K2.pRim p q).w * r.w = K2.overZ (K2.pRim p q) r := rfl
  generalize K2.overZ (K2.pRim p q) r = G at *
  generalize K2.pRim p q = R at *
  generalize K2.pRim q p = O at *
  generalize K2.nm2 G r.w = X at *
  generalize K2.leftZ p q r = Z at *
  have t8 : sAsg (.nm 6) (mF f_side_through (aCons (mVar 0) (aCons (mVar 1) aNil))) [cD (dp p), cD (dp q), cD (dp r), cI Z, cI W, cD (.list [.int W, .int W, .int (-W)]), none, none, none] s = some (.nx [cD (dp p), cD (dp q), cD (dp r), cI Z, cI W, cD (.list [.int W, .int W, .int (-W)]), cD (dp R), none, none], s) := by
    simp [fnM, startE, sSeq, sAsg, bnd, bnds, mThen, mLift, mVar, m1, m2, mC, mF, aCons, aNil, mCall, mTup, isDs, isD, mIf, mB, bOf, mNot, mOr, mAnd, mAndV, mOrV, qC, sNx, sRet, sEx, dIx, atI, ixN, dCmp, dAdd, dSub, dNeg, dNot, dIs, isT, bInt, bAbs, bLen, mL, mLst, mIt, itOf, sizeLine_eq, b1]
  have t9 : sAsg (.nm 7) (mFK f_side_through [0, 1] (aCons (mVar 1) (aCons (mVar 0) aNil))) [cD (dp p), cD (dp q), cD (dp r), cI Z, cI W, cD (.list [.int W, .int W, .int (-W)]), cD (dp R), none, none] s = some (.nx [cD (dp p), cD (dp q), cD (dp r), cI Z, cI W, cD (.list [.int W, .int W, .int (-W)]), cD (dp R), cD (dp O), none], s) := by
    simp [fnM, startE, sSeq, sAsg, bnd, bnds, mThen, mLift, mVar, m1, m2, mC, mF, aCons, aNil, mCall, mTup, isDs, isD, mIf, mB, bOf, mNot, mOr, mAnd, mAndV, mOrV, qC, sNx, sRet, sEx, dIx, atI, ixN, dCmp, dAdd, dSub, dNeg, dNot, dIs, isT, bInt, bAbs, bLen, mL, mLst, mIt, itOf, sizeLine_eq, mFK, ro2, b2]
  rw [sSeq_nx t8, sSeq_nx t9]
  rw [sSeq_nx (rep_nx (d := .list [dp R, dp O]) (by simp [fnM, startE, sSeq, sAsg, bnd, bnds, mThen, mLift, mVar, m1, m2, mC, mF, aCons, aNil, mCall, mTup, isDs, isD, mIf, mB, bOf, mNot, mOr, mAnd, mAndV, mOrV, qC, sNx, sRet, sEx, dIx, atI, ixN, dCmp, dAdd, dSub, dNeg, dNot, dIs, isT, bInt, bAbs, bLen, mL, mLst, mIt, itOf, sizeLine_eq]) (by simp [fnM, startE, sSeq, sAsg, bnd, bnds, mThen, mLift, mVar, m1, m2, mC, mF, aCons, aNil, mCall, mTup, isDs, isD, mIf, mB, bOf, mNot, mOr, mAnd, mAndV, mOrV, qC, sNx, sRet, sEx, dIx, atI, ixN, dCmp, dAdd, dSub, dNeg, dNot, dIs, isT, bInt, bAbs, bLen, mL, mLst, mIt, itOf, sizeLine_eq, b3, b4]) (shw_l2 sR sO) (by decide) (by decide))]
  have t11 : sAsg (.nm 8) (m2 dSub (m2 dAdd (m2 dMul (m2 dIx (mVar 6) (mC (.int 0))) (m2 dIx (mVar 2) (mC (.int 0)))) (m2 dMul (m2 dIx (mVar 6) (mC (.int 1))) (m2 dIx (mVar 2) (mC (.int 1))))) (m2 dMul (m2 dIx (mVar 6) (mC (.int 2))) (m2 dIx (mVar 2) (mC (.int 2))))) [cD (dp p), cD (dp q), cD (dp r), cI Z, cI W, cD (.list [.int W, .int W, .int (-W)]), cD (dp R), cD (dp O), none] s = some (.nx [cD (dp p), cD (dp q), cD (dp r), cI Z, cI W, cD (.list [.int W, .int W, .int (-W)]), cD (dp R), cD (dp O), cI G], s) := by
    simp [fnM, startE, sSeq, sAsg, bnd, bnds, mThen, mLift, mVar, m1, m2, mC, mF, aCons, aNil, mCall, mTup, isDs, isD, mIf, mB, bOf, mNot, mOr, mAnd, mAndV, mOrV, qC, sNx, sRet, sEx, dIx, atI, ixN, dCmp, dAdd, dSub, dNeg, dNot, dIs, isT, bInt, bAbs, bLen, mL, mLst, mIt, itOf, sizeLine_eq, k1, k2, k3, ov]
  have t12 : sAsg (.nm 5) (mF f_excess (aCons (mVar 6) (aCons (mVar 2) aNil))) [cD (dp p), cD (dp q), cD (dp r), cI Z, cI W, cD (.list [.int W, .int W, .int (-W)]), cD (dp R), cD (dp O), cI G] s = some (.nx [cD (dp p), cD (dp q), cD (dp r), cI Z, cI W, cD (df X), cD (dp R), cD (dp O), cI G], s) := by
    simp [fnM, startE, sSeq, sAsg, bnd, bnds, mThen, mLift, mVar, m1, m2, mC, mF, aCons, aNil, mCall, mTup, isDs, isD, mIf, mB, bOf, mNot, mOr, mAnd, mAndV, mOrV, qC, sNx, sRet, sEx, dIx, atI, ixN, dCmp, dAdd, dSub, dNeg, dNot, dIs, isT, bInt, bAbs, bLen, mL, mLst, mIt, itOf, sizeLine_eq, c1]
  rw [sSeq_nx t11, sSeq_nx t12]
  have t13 : mIf (mOr (mB (m2 (dNe) (mCall bRepr (aCons (mVar 5) aNil)) (mCall bRepr (aCons (mF f__law_part (aCons (mVar 8) (aCons (m2 dIx (mVar 2) (mC (.int 2))) aNil))) aNil)))) (mB (m2 (dNe) (m2 dSub (mCall bInt (aCons (m2 (dCmp fun i j => decide (j < i)) (m2 dIx (mVar 5) (mC (.int 0))) (mC (.int 0))) aNil)) (mCall bInt (aCons (m2 (dCmp fun i j => decide (i < j)) (m2 dIx (mVar 5) (mC (.int 0))) (mC (.int 0))) aNil))) (m2 dSub (mC (.int 0)) (mVar 4))))) (sRet (mC (.bool false))) (sNx) [cD (dp p), cD (dp q), cD (dp r), cI Z, cI W, cD (df X), cD (dp R), cD (dp O), cI G] s = some (.nx [cD (dp p), cD (dp q), cD (dp r), cI Z, cI W, cD (df X), cD (dp R), cD (dp O), cI G], s) := by
    have k1 := rep_no (A := mVar 5) (B := mF f__law_part (aCons (mVar 8) (aCons (m2 dIx (mVar 2) (mC (.int 2))) aNil))) (ρ := [cD (dp p), cD (dp q), cD (dp r), cI Z, cI W, cD (df X), cD (dp R), cD (dp O), cI G]) (s := s) (d := df X) (by simp [mVar]) (by simp [fnM, startE, sSeq, sAsg, bnd, bnds, mThen, mLift, mVar, m1, m2, mC, mF, aCons, aNil, mCall, mTup, isDs, isD, mIf, mB, bOf, mNot, mOr, mAnd, mAndV, mOrV, qC, sNx, sRet, sEx, dIx, atI, ixN, dCmp, dAdd, dSub, dNeg, dNot, dIs, isT, bInt, bAbs, bLen, mL, mLst, mIt, itOf, sizeLine_eq, d1]) sX (by decide) (by decide)
    have sx := sgn_decide X.n
    rw [sg] at sx
    have k2 : mB (m2 (dNe) (m2 dSub (mCall bInt (aCons (m2 (dCmp fun i j => decide (j < i)) (m2 dIx (mVar 5) (mC (.int 0))) (mC (.int 0))) aNil)) (mCall bInt (aCons (m2 (dCmp fun i j => decide (i < j)) (m2 dIx (mVar 5) (mC (.int 0))) (mC (.int 0))) aNil))) (m2 dSub (mC (.int 0)) (mVar 4))) [cD (dp p), cD (dp q), cD (dp r), cI Z, cI W, cD (df X), cD (dp R), cD (dp O), cI G] s = some (false, s) := by
      have i0 : dIx (df X) (.int 0) = some (.int X.n) := rfl
      simp only [mB, m2, mThen, mLift, mVar, mC, aCons, aNil, mCall, i0, dCmp, bInt, dSub, List.getElem?_cons_succ, List.getElem?_cons_zero]
      rw [sx, neI, Int.zero_sub]
      simp [bOf]
    generalize mB (m2 (dNe) (mCall bRepr (aCons (mVar 5) aNil)) _) = L1 at k1 ⊢
    generalize mB (m2 (dNe) _ (m2 dSub (mC (.int 0)) (mVar 4))) = L2 at k2 ⊢
    simp [mIf, mOr, mThen, mLift, k1, k2, sNx]
  rw [sSeq_nx t13]
  rw [sSeq_nx (rep_nx (d := df ⟨0 - X.n, X.d⟩) (by simp [fnM, startE, sSeq, sAsg, bnd, bnds, mThen, mLift, mVar, m1, m2, mC, mF, aCons, aNil, mCall, mTup, isDs, isD, mIf, mB, bOf, mNot, mOr, mAnd, mAndV, mOrV, qC, sNx, sRet, sEx, dIx, atI, ixN, dCmp, dAdd, dSub, dNeg, dNot, dIs, isT, bInt, bAbs, bLen, mL, mLst, mIt, itOf, sizeLine_eq, mFK, ro2, c2]) (by simp [fnM, startE, sSeq, sAsg, bnd, bnds, mThen, mLift, mVar, m1, m2, mC, mF, aCons, aNil, mCall, mTup, isDs, isD, mIf, mB, bOf, mNot, mOr, mAnd, mAndV, mOrV, qC, sNx, sRet, sEx, dIx, atI, ixN, dCmp, dAdd, dSub, dNeg, dNot, dIs, isT, bInt, bAbs, bLen, mL, mLst, mIt, itOf, sizeLine_eq]) sN (by decide) (by decide))]
  have nn := eq_same3 "[(0, 1), (0, 1)]"
  simp [fnM, startE, sSeq, sAsg, bnd, bnds, mThen, mLift, mVar, m1, m2, mC, mF, aCons, aNil, mCall, mTup, isDs, isD, mIf, mB, bOf, mNot, mOr, mAnd, mAndV, mOrV, qC, sNx, sRet, sEx, dIx, atI, ixN, dCmp, dAdd, dSub, dNeg, dNot, dIs, isT, bInt, bAbs, bLen, mL, mLst, mIt, itOf, sizeLine_eq, c3, c4, r1', nn]
end WF
/-! directions -/
namespace WF
open PySem PySem.Spec PyProof.Rows L2 PL
variable {s : S} {p q r : K2.P3} {f g : K2.P2} {a b c : Nat}
theorem dir_shw (hp : PB a p) (h : a < 1900) : Shw3 (dirD p) (3 * 1921 + 20) 10 := by
  unfold dirD
  split
  · exact shw_none.mono (by decide) (by decide)
  · exact shw_t2 (shw_int3 ⟨Bi.div_le hp.2.1.h⟩ h) (shw_int3 ⟨Bi.div_le hp.2.2.1.h⟩ h)
theorem dir_grow (p0 : 0 < p.w) (f0 : 0 < f.d) (n0 : 0 < f.n) : dirD (K2.pTimes p f) = dirD p := by
  obtain ⟨h1, h2⟩ := K2.grow_dir p0 f0 n0
  unfold dirD
  by_cases z : K2.g2 p.x p.y = 0
  · rw [if_pos z, if_pos (h2.mpr z)]
  · rw [if_neg z, if_neg (fun k => z (h2.mp k)), h1]
theorem df_ne {f g : K2.P2} : dNe (df f) (df g) = some (.bool (!(f.n == g.n && f.d == g.d))) := by
  unfold dNe
  rw [if_pos ⟨rfl, rfl⟩]
  simp [PyData.eqv, PyData.eqvAll]
def XE (X : D) (p f due oth : D) (g rv : Option Cell) : PL.Env := [cD X, cD p, cD f, cD due, cD oth, g, rv]
theorem dir_inner {X P F due oth : D} (hf : DB 7 f) (hg : DB 7 g) : lb__law_directions_right_0 (XE X P F due oth (cD (df f)) (cD (df g))) s = some (.nx (XE X P F due oth (cD (df f)) (cD (df g))), s) := by
  obtain ⟨d1, f1, f2⟩ := hf
  obtain ⟨d2, g1, g2⟩ := hg
  have e1 := e_is_earlier (s := s) d1 d2 f1 f2 g1 g2 (by decide)
  have e2 := e_before (s := s) f1 f2 g1 g2 (by decide)
  have e3 := df_ne (f := f) (g := g)
  have e4 : (f.n == g.n && f.d == g.d) = true → K2.earl f g = false := fun h => by
    rw [Bool.and_eq_true] at h
    have h1 := eq_of_beq h.1
    have h2 := eq_of_beq h.2
    obtain ⟨n, d⟩ := f
    obtain ⟨n2, k2⟩ := g
    have h1' : n = n2 := h1
    have h2' : d = k2 := h2
    subst h1' h2'
    exact K2.earl_self _
  unfold lb__law_directions_right_0
  refine rep_nx (d := .bool (K2.earl f g)) (by simp [fnM, startE, sSeq, sAsg, bnd, bnds, mThen, mLift, mVar, m1, m2, mC, mF, aCons, aNil, mCall, mTup, isDs, isD, mIf, mB, bOf, mNot, mOr, mAnd, mAndV, mOrV, qC, sNx, sRet, sEx, dIx, atI, ixN, dCmp, dAdd, dSub, dNeg, dNot, dIs, isT, bInt, bAbs, bLen, mL, mLst, mIt, itOf, sizeLine_eq, XE, e1]) ?_ (shw_bool _) (by decide) (by decide)
  generalize K2.earl f g = w at *
  cases hz : (f.n == g.n && f.d == g.d) with
  | true =>
    rw [hz] at e3
    have e5 := e4 hz
    subst e5
    simp [fnM, startE, sSeq, sAsg, bnd, bnds, mThen, mLift, mVar, m1, m2, mC, mF, aCons, aNil, mCall, mTup, isDs, isD, mIf, mB, bOf, mNot, mOr, mAnd, mAndV, mOrV, qC, sNx, sRet, sEx, dIx, atI, ixN, dCmp, dAdd, dSub, dNeg, dNot, dIs, isT, bInt, bAbs, bLen, mL, mLst, mIt, itOf, sizeLine_eq, XE, e3]
  | false =>
    rw [hz] at e3
    simp [fnM, startE, sSeq, sAsg, bnd, bnds, mThen, mLift, mVar, m1, m2, mC, mF, aCons, aNil, mCall, mTup, isDs, isD, mIf, mB, bOf, mNot, mOr, mAnd, mAndV, mOrV, qC, sNx, sRet, sEx, dIx, atI, ixN, dCmp, dAdd, dSub, dNeg, dNot, dIs, isT, bInt, bAbs, bLen, mL, mLst, mIt, itOf, sizeLine_eq, XE, e3, e2]
theorem dir_row {X P F due oth : D} (hf : DB 7 f) : ∀ (fs : List K2.P2) (rv : Option Cell), (∀ g ∈ fs, DB 7 g) → ∃ rv', forL (.nm 6) lb__law_directions_right_0 (fs.map df) (XE X P F due oth (cD (df f)) rv) s = some (.nx (XE X P F due oth (cD (df f)) rv'), s)
  | [], rv, _ => ⟨rv, rfl⟩
  | g :: fs, rv, h => by
    obtain ⟨rv', e⟩ := dir_row (X := X) (P := P) (F := F) (due := due) (oth := oth) hf fs (cD (df g)) fun x hx => h x (List.mem_cons_of_mem _ hx)
    exact ⟨rv', (forL_nx (ρ1 := XE X P F due oth (cD (df f)) (cD (df g))) rfl (dir_inner hf (h g List.mem_cons_self))).trans e⟩
theorem dir_rows {P F due oth : D} {gs : List K2.P2} (hg : ∀ g ∈ gs, DB 7 g) : ∀ (fs : List K2.P2) (g rv : Option Cell), (∀ f ∈ fs, DB 7 f) → ∃ g' rv', forL (.nm 5) lb__law_directions_right_1 (fs.map df) (XE (.list (gs.map df)) P F due oth g rv) s = some (.nx (XE (.list (gs.map df)) P F due oth g' rv'), s)
  | [], g, rv, _ => ⟨g, rv, rfl⟩
  | f :: fs, g, rv, h => by
    obtain ⟨rv1, e1⟩ := dir_row (s := s) (X := .list (gs.map df)) (P := P) (F := F) (due := due) (oth := oth) (h f List.mem_cons_self) gs rv hg
    obtain ⟨g', rv', e⟩ := dir_rows (P := P) (F := F) (due := due) (oth := oth) hg fs (cD (df f)) rv1 fun x hx => h x (List.mem_cons_of_mem _ hx)
    have e2 : lb__law_directions_right_1 (XE (.list (gs.map df)) P F due oth (cD (df f)) rv) s = some (.nx (XE (.list (gs.map df)) P F due oth (cD (df f)) rv1), s) := (sFor_at (by simp [mIt, XE, mThen, mVar, mLift, itOf])).trans e1
    exact ⟨g', rv', (forL_nx (ρ1 := XE (.list (gs.map df)) P F due oth (cD (df f)) rv) rfl e2).trans e⟩
theorem e_directions_right {f0 : K2.P2} {fs : List K2.P2} (hfs : ∀ f ∈ f0 :: fs, DB 7 f) (hp : PB 7 p) (hf : FB 7 f) : f__law_directions_right [.list ((f0 :: fs).map df), dp p, df f] s = some (.bool true, s) := by
  have p0 := hp.1.1
  have fd0 := hf.1.1
  have cut : PL.cutD [PyData.int p.x, PyData.int p.y, PyData.int p.w] none (some 2) = [PyData.int p.x, PyData.int p.y] := rfl
  refine fnM_rt rfl ?_
  unfold g__law_directions_right
  generalize hX : PyData.list ((f0 :: fs).map df) = X
  have t3 : sAsg (.nm 3) (mIf (mB (m2 (dNe) (mSl (mVar 1) oNo (oSome (mC (.int 2)))) (mTup (aCons (mC (.int 0)) (aCons (mC (.int 0)) aNil))))) (mF f__law_least (aCons (mSl (mVar 1) oNo (oSome (mC (.int 2)))) aNil)) (mC .none)) (startE 7 [X, dp p, df f]) s = some (.nx [cD X, cD (dp p), cD (df f), cD (dirD p), none, none, none], s) := by
    unfold dirD
    by_cases z : K2.g2 p.x p.y = 0
    · rw [if_pos z]
      obtain ⟨zx, zy⟩ := K2.g2_zero.mp z
      have dn : dNe (.tuple [.int p.x, .int p.y]) (.tuple [.int 0, .int 0]) = some (.bool false) := by
        unfold dNe
        rw [if_pos ⟨rfl, rfl⟩]
        simp [PyData.eqv, PyData.eqvAll, zx, zy]
      simp [fnM, startE, sSeq, sAsg, bnd, bnds, mThen, mLift, mVar, m1, m2, mC, mF, aCons, aNil, mCall, mTup, isDs, isD, mIf, mB, bOf, mNot, mOr, mAnd, mAndV, mOrV, qC, sNx, sRet, sEx, dIx, atI, ixN, dCmp, dAdd, dSub, dNeg, dNot, dIs, isT, bInt, bAbs, bLen, mL, mLst, mIt, itOf, sizeLine_eq, mSl, oNo, oSome, dSl, cut, dn]
    · rw [if_neg z]
      have hz : p.x ≠ 0 ∨ p.y ≠ 0 := by
        by_cases h1 : p.x = 0
        · exact .inr fun h2 => z (K2.g2_zero.mpr ⟨h1, h2⟩)
        · exact .inl h1
      have dn := ne00 hz
      have e := e_least2 (x := p.x) (y := p.y) (s := s) (by have := K2.g2_nonneg p.x p.y; omega) hp.2.1 hp.2.2.1 (by decide)
      generalize K2.nm2 p.x p.y = Y at *
      simp [fnM, startE, sSeq, sAsg, bnd, bnds, mThen, mLift, mVar, m1, m2, mC, mF, aCons, aNil, mCall, mTup, isDs, isD, mIf, mB, bOf, mNot, mOr, mAnd, mAndV, mOrV, qC, sNx, sRet, sEx, dIx, atI, ixN, dCmp, dAdd, dSub, dNeg, dNot, dIs, isT, bInt, bAbs, bLen, mL, mLst, mIt, itOf, sizeLine_eq, mSl, oNo, oSome, dSl, cut, dn, e]
  rw [sSeq_nx t3]
  have b73 : FB 7 ⟨7, 3⟩ := ⟨⟨by decide, by decide⟩, biAbs (by decide), biAbs (by decide)⟩
  have hG := hp.times b73
  have hT := hp.times hf
  have a1 := e_direction_of (s := s) hp (by decide)
  have a2 := e_grow (f := ⟨7, 3⟩) (s := s) p0 hp.2.1 hp.2.2.1 hp.2.2.2 (by decide) b73.2.1 b73.2.2 (by decide)
  have a3 := e_direction_of (s := s) hG (by decide)
  rw [dir_grow p0 (by decide) (by decide)] at a3
  have a4 := e_grow (s := s) p0 hp.2.1 hp.2.2.1 hp.2.2.2 fd0 hf.2.1 hf.2.2 (by decide)
  have a5 := e_direction_of (s := s) hT (by decide)
  have s1 := dir_shw hp (by decide)
  have s2 := dir_shw hT (by decide)
  have ro1 : ∀ x : D, reord [0] [x] = [x] := fun _ => rfl
  have j2 : df (⟨7, 3⟩ : K2.P2) = .tuple [.int 7, .int 3] := rfl
  rw [j2] at a2
  rw [sSeq_nx (rep_nx (d := .list [dirD p, dirD p]) (by
    generalize K2.pTimes p ⟨7, 3⟩ = Y at *
    generalize dirD p = Z at *
    have is := s1.is
    simp [fnM, startE, sSeq, sAsg, bnd, bnds, mThen, mLift, mVar, m1, m2, mC, mF, aCons, aNil, mCall, mTup, isDs, isD, mIf, mB, bOf, mNot, mOr, mAnd, mAndV, mOrV, qC, sNx, sRet, sEx, dIx, atI, ixN, dCmp, dAdd, dSub, dNeg, dNot, dIs, isT, bInt, bAbs, bLen, mL, mLst, mIt, itOf, sizeLine_eq, -isD, mFK, ro1, a1, a2, a3, is]
    ) (by
    have is := s1.is
    generalize dirD p = Z at *
    simp [fnM, startE, sSeq, sAsg, bnd, bnds, mThen, mLift, mVar, m1, m2, mC, mF, aCons, aNil, mCall, mTup, isDs, isD, mIf, mB, bOf, mNot, mOr, mAnd, mAndV, mOrV, qC, sNx, sRet, sEx, dIx, atI, ixN, dCmp, dAdd, dSub, dNeg, dNot, dIs, isT, bInt, bAbs, bLen, mL, mLst, mIt, itOf, sizeLine_eq, -isD, is]) (shw_l2 s1 s1) (by decide) (by decide))]
  have t5 : sAsg (.nm 4) (mIf (mOr (mB (m2 (dIsN) (mVar 3) (mC .none))) (mB (m2 (dEq) (m2 dIx (mVar 2) (mC (.int 0))) (mC (.int 0))))) (mC .none) (mIf (mB (m2 (dCmp fun i j => decide (j < i)) (m2 dIx (mVar 2) (mC (.int 0))) (mC (.int 0)))) (mVar 3) (mTup (aCons (m2 dSub (mC (.int 0)) (m2 dIx (mVar 3) (mC (.int 0)))) (aCons (m2 dSub (mC (.int 0)) (m2 dIx (mVar 3) (mC (.int 1)))) aNil))))) [cD X, cD (dp p), cD (df f), cD (dirD p), none, none, none] s = some (.nx (XE X (dp p) (df f) (dirD p) (dirD (K2.pTimes p f)) none none), s) := by
    by_cases z : K2.g2 p.x p.y = 0
    · have e1 : dirD p = .none := if_pos z
      have e2 : dirD (K2.pTimes p f) = .none := by
        by_cases y : f.n = 0
        · exact if_pos (K2.grow_zero p0 fd0 y)
        · by_cases y2 : 0 < f.n
          · rw [dir_grow p0 fd0 y2, e1]
          · obtain ⟨zx, zy⟩ := K2.g2_zero.mp z
            refine if_pos (K2.g2_zero.mpr ⟨?_, ?_⟩)
            · show p.x * f.n / _ = 0
              rw [zx, Int.zero_mul, Int.zero_ediv]
            · show p.y * f.n / _ = 0
              rw [zy, Int.zero_mul, Int.zero_ediv]
      rw [e1, e2]
      have dn : dIsN .none .none = some (.bool true) := rfl
      simp [fnM, startE, sSeq, sAsg, bnd, bnds, mThen, mLift, mVar, m1, m2, mC, mF, aCons, aNil, mCall, mTup, isDs, isD, mIf, mB, bOf, mNot, mOr, mAnd, mAndV, mOrV, qC, sNx, sRet, sEx, dIx, atI, ixN, dCmp, dAdd, dSub, dNeg, dNot, dIs, isT, bInt, bAbs, bLen, mL, mLst, mIt, itOf, sizeLine_eq, XE, dn]
    · have e1 : dirD p = df (K2.nm2 p.x p.y) := if_neg z
      have dn : ∀ Y : K2.P2, dIsN (df Y) .none = some (.bool false) := fun _ => rfl
      by_cases y : f.n = 0
      · have e2 : dirD (K2.pTimes p f) = .none := if_pos (K2.grow_zero p0 fd0 y)
        rw [e1, e2]
        generalize K2.nm2 p.x p.y = Y at *
        simp [fnM, startE, sSeq, sAsg, bnd, bnds, mThen, mLift, mVar, m1, m2, mC, mF, aCons, aNil, mCall, mTup, isDs, isD, mIf, mB, bOf, mNot, mOr, mAnd, mAndV, mOrV, qC, sNx, sRet, sEx, dIx, atI, ixN, dCmp, dAdd, dSub, dNeg, dNot, dIs, isT, bInt, bAbs, bLen, mL, mLst, mIt, itOf, sizeLine_eq, XE, dn, eqI, y]
      · by_cases y2 : 0 < f.n
        · rw [dir_grow p0 fd0 y2, e1]
          generalize K2.nm2 p.x p.y = Y at *
          simp [fnM, startE, sSeq, sAsg, bnd, bnds, mThen, mLift, mVar, m1, m2, mC, mF, aCons, aNil, mCall, mTup, isDs, isD, mIf, mB, bOf, mNot, mOr, mAnd, mAndV, mOrV, qC, sNx, sRet, sEx, dIx, atI, ixN, dCmp, dAdd, dSub, dNeg, dNot, dIs, isT, bInt, bAbs, bLen, mL, mLst, mIt, itOf, sizeLine_eq, XE, dn, eqI, y, y2]
        · obtain ⟨g1, g2⟩ := K2.grow_neg p0 fd0 (show f.n < 0 by omega) (show 1 ≤ K2.g2 p.x p.y by have := K2.g2_nonneg p.x p.y; omega)
          have e2 : dirD (K2.pTimes p f) = df (K2.nm2 (K2.pTimes p f).x (K2.pTimes p f).y) := if_neg g2
          rw [e2, e1, g1]
          generalize K2.nm2 p.x p.y = Y at *
          simp [fnM, startE, sSeq, sAsg, bnd, bnds, mThen, mLift, mVar, m1, m2, mC, mF, aCons, aNil, mCall, mTup, isDs, isD, mIf, mB, bOf, mNot, mOr, mAnd, mAndV, mOrV, qC, sNx, sRet, sEx, dIx, atI, ixN, dCmp, dAdd, dSub, dNeg, dNot, dIs, isT, bInt, bAbs, bLen, mL, mLst, mIt, itOf, sizeLine_eq, XE, dn, eqI, y, y2]
  rw [sSeq_nx t5]
  rw [sSeq_nx (rep_nx (d := dirD (K2.pTimes p f)) (by
    generalize dirD (K2.pTimes p f) = Z at *
    generalize K2.pTimes p f = Y at *
    simp [fnM, startE, sSeq, sAsg, bnd, bnds, mThen, mLift, mVar, m1, m2, mC, mF, aCons, aNil, mCall, mTup, isDs, isD, mIf, mB, bOf, mNot, mOr, mAnd, mAndV, mOrV, qC, sNx, sRet, sEx, dIx, atI, ixN, dCmp, dAdd, dSub, dNeg, dNot, dIs, isT, bInt, bAbs, bLen, mL, mLst, mIt, itOf, sizeLine_eq, XE, a4, a5]) (by simp [XE, mVar]) s2 (by decide) (by decide))]
  subst hX
  obtain ⟨g', rv', e7⟩ := dir_rows (s := s) (P := dp p) (F := df f) (due := dirD p) (oth := dirD (K2.pTimes p f)) hfs (f0 :: fs) none none hfs
  have t7 : sFor (mIt (mVar 0)) (.nm 5) lb__law_directions_right_1 (XE (.list ((f0 :: fs).map df)) (dp p) (df f) (dirD p) (dirD (K2.pTimes p f)) none none) s = _ := (sFor_at (by simp [mIt, XE, mThen, mVar, mLift, itOf])).trans e7
  rw [sSeq_nx t7]
  obtain ⟨d0, h1, h2⟩ := hfs f0 List.mem_cons_self
  have k1 := e_is_earlier (f := ⟨1, 0⟩) (s := s) (a := 7) (show K2.Di ⟨1, 0⟩ from rfl) d0 (biAbs (by decide)) (biAbs (by decide)) h1 h2 (by decide)
  rw [K2.earl_one d0] at k1
  have k2 := df_ne (f := f0) (g := ⟨1, 0⟩)
  have ro2 : ∀ x y : D, reord [1, 0] [x, y] = [y, x] := fun _ _ => rfl
  have ix : dIx (.list ((f0 :: fs).map df)) (.int 0) = some (df f0) := by simp [dIx, atI, ixN]
  have j3 : df (⟨1, 0⟩ : K2.P2) = .tuple [.int 1, .int 0] := rfl
  rw [j3] at k1 k2
  generalize PyData.list ((f0 :: fs).map df) = X at ix ⊢
  generalize dirD p = Z1 at *
  generalize dirD (K2.pTimes p f) = Z2 at *
  refine rep_rt (d := .bool (!(f0.n == 1 && f0.d == 0))) ?_ ?_ (shw_bool _) (by decide) (by decide)
  · simp only [mFK, m2, mC, mTup, aCons, aNil, mThen, mLift, mVar, XE, List.getElem?_cons_zero, ix, isDs, isD]
    simp [isD, sizeLine_eq, ro2, k1]
  · simp only [m2, mC, mTup, aCons, aNil, mThen, mLift, mVar, XE, List.getElem?_cons_zero, ix, isDs, isD]
    simp [isD, sizeLine_eq, k2]
end WF
namespace K02
open PySem PySem.Spec PyProof.Rows L2 PL
def top (i : Nat) : Stmt := PySem.Challenge.pw_windfigure_k02_whole_points_and_directio.main.body.getD i (.Pass ⟨0, 0, 0, 0⟩)
def nmOf : Nat → Option Str
  | 3 => some "is_whole"
  | 4 => some "are_whole"
  | 5 => some "ratio"
  | 6 => some "point_of"
  | 7 => some "point_sum"
  | 8 => some "point_gap"
  | 9 => some "point_times"
  | 10 => some "point_between"
  | 11 => some "course_to"
  | 12 => some "side_of"
  | 13 => some "along"
  | 14 => some "overshoot"
  | 15 => some "turn"
  | 17 => some "direction_along"
  | 18 => some "half_turn"
  | 19 => some "stands_before"
  | 28 => some "is_fraction"
  | 29 => some "is_point"
  | 30 => some "is_side"
  | 31 => some "is_direction"
  | 32 => some "need_fraction"
  | 33 => some "need_point"
  | 34 => some "need_side"
  | 35 => some "need_direction"
  | 36 => some "direction_of"
  | 37 => some "is_earlier"
  | 38 => some "point_at"
  | 39 => some "plus"
  | 40 => some "minus"
  | 41 => some "times"
  | 42 => some "between"
  | 43 => some "sense"
  | 44 => some "side_through"
  | 45 => some "excess"
  | 47 => some "_law_source"
  | 48 => some "_law_rounds"
  | 49 => some "_law_draw"
  | 50 => some "_law_pick"
  | 51 => some "_law_least"
  | 52 => some "_law_spot"
  | 53 => some "_law_part"
  | 54 => some "_law_sum"
  | 55 => some "_law_by"
  | 56 => some "_law_add"
  | 57 => some "_law_grow"
  | 58 => some "_law_midway"
  | 59 => some "_law_back"
  | 60 => some "_law_left"
  | 61 => some "_law_side"
  | 62 => some "_law_half"
  | 63 => some "_law_before"
  | 64 => some "_law_gust"
  | 65 => some "_law_share"
  | 66 => some "_law_sums_right"
  | 67 => some "_law_between_right"
  | 68 => some "_law_senses_right"
  | 69 => some "_law_directions_right"
  | 70 => some "_law_right"
  | 71 => some "law"
  | _ => none
structure Pg (K : PySem.W.Frag) (mg : Str → Option Value) (Ad : Nat → Addr) (Dd : Nat → FuncData) : Prop where
  fn : ∀ (i : Nat) (x : Str), nmOf i = some x → FnP K x (top i) (Ad i) (Dd i) ∧ mg x = some (.ref (Ad i))
structure Nm (K : PySem.W.Frag) (mg : Str → Option Value) : Prop where
  n_abs : mg "abs" = none
  n_all : mg "all" = none
  n_bool : mg "bool" = none
  n_divmod : mg "divmod" = none
  n_int : mg "int" = none
  n_isinstance : mg "isinstance" = none
  n_len : mg "len" = none
  n_max : mg "max" = none
  n_min : mg "min" = none
  n_range : mg "range" = none
  n_repr : mg "repr" = none
  n_tuple : mg "tuple" = none
  g_gcd : mg "gcd" = some (.builtin "math.gcd")
  c_NOUGHT : Cst K mg "NOUGHT" (.tuple [(.int 0), (.int 0), (.int 1)])
section
variable {Pr : Program} {w : World} {K : PySem.W.Frag} {mg : Str → Option Value} {base : Heap} {Ad : Nat → Addr} {Dd : Nat → FuncData}
theorem kw_between_0_1_2 {K : PySem.W.Frag} {f : Addr} {fd : FuncData} (F : FnP K "between" (top 42) f fd) (s : Shared) (ws : List Value) (hl : ws.length = (["point", "other", "fraction"] : List Str).length) : BindsTo s fd ⟨[], (["point", "other", "fraction"] : List Str).zip ws⟩ ((["point", "other", "fraction"] : List Str).zip (reord [0, 1, 2] ws)) := by
  obtain ⟨oc, od, dV, kV, doc, pm, an, cdv, ct, osl, rfl, lk, hcd, hD, hK⟩ := F.ex
  rcases hD with ⟨_, rfl⟩ | ⟨e, _⟩
  · match ws, hl with
    | [_, _, _], _ => exact .of_eq rfl
  · exact absurd rfl e
theorem kw_direction_of_0 {K : PySem.W.Frag} {f : Addr} {fd : FuncData} (F : FnP K "direction_of" (top 36) f fd) (s : Shared) (ws : List Value) (hl : ws.length = (["way"] : List Str).length) : BindsTo s fd ⟨[], (["way"] : List Str).zip ws⟩ ((["way"] : List Str).zip (reord [0] ws)) := by
  obtain ⟨oc, od, dV, kV, doc, pm, an, cdv, ct, osl, rfl, lk, hcd, hD, hK⟩ := F.ex
  rcases hD with ⟨_, rfl⟩ | ⟨e, _⟩
  · match ws, hl with
    | [_], _ => exact .of_eq rfl
  · exact absurd rfl e
theorem kw_excess_0_1 {K : PySem.W.Frag} {f : Addr} {fd : FuncData} (F : FnP K "excess" (top 45) f fd) (s : Shared) (ws : List Value) (hl : ws.length = (["side", "point"] : List Str).length) : BindsTo s fd ⟨[], (["side", "point"] : List Str).zip ws⟩ ((["side", "point"] : List Str).zip (reord [0, 1] ws)) := by
  obtain ⟨oc, od, dV, kV, doc, pm, an, cdv, ct, osl, rfl, lk, hcd, hD, hK⟩ := F.ex
  rcases hD with ⟨_, rfl⟩ | ⟨e, _⟩
  · match ws, hl with
    | [_, _], _ => exact .of_eq rfl
  · exact absurd rfl e
theorem kw_is_earlier_1_0 {K : PySem.W.Frag} {f : Addr} {fd : FuncData} (F : FnP K "is_earlier" (top 37) f fd) (s : Shared) (ws : List Value) (hl : ws.length = (["other", "direction"] : List Str).length) : BindsTo s fd ⟨[], (["other", "direction"] : List Str).zip ws⟩ ((["direction", "other"] : List Str).zip (reord [1, 0] ws)) := by
  obtain ⟨oc, od, dV, kV, doc, pm, an, cdv, ct, osl, rfl, lk, hcd, hD, hK⟩ := F.ex
  rcases hD with ⟨_, rfl⟩ | ⟨e, _⟩
  · match ws, hl with
    | [_, _], _ => exact .of_eq rfl
  · exact absurd rfl e
theorem kw_minus_0_1 {K : PySem.W.Frag} {f : Addr} {fd : FuncData} (F : FnP K "minus" (top 40) f fd) (s : Shared) (ws : List Value) (hl : ws.length = (["point", "other"] : List Str).length) : BindsTo s fd ⟨[], (["point", "other"] : List Str).zip ws⟩ ((["point", "other"] : List Str).zip (reord [0, 1] ws)) := by
  obtain ⟨oc, od, dV, kV, doc, pm, an, cdv, ct, osl, rfl, lk, hcd, hD, hK⟩ := F.ex
  rcases hD with ⟨_, rfl⟩ | ⟨e, _⟩
  · match ws, hl with
    | [_, _], _ => exact .of_eq rfl
  · exact absurd rfl e
theorem kw_plus_0_1 {K : PySem.W.Frag} {f : Addr} {fd : FuncData} (F : FnP K "plus" (top 39) f fd) (s : Shared) (ws : List Value) (hl : ws.length = (["point", "other"] : List Str).length) : BindsTo s fd ⟨[], (["point", "other"] : List Str).zip ws⟩ ((["point", "other"] : List Str).zip (reord [0, 1] ws)) := by
  obtain ⟨oc, od, dV, kV, doc, pm, an, cdv, ct, osl, rfl, lk, hcd, hD, hK⟩ := F.ex
  rcases hD with ⟨_, rfl⟩ | ⟨e, _⟩
  · match ws, hl with
    | [_, _], _ => exact .of_eq rfl
  · exact absurd rfl e
theorem kw_point_at_1_0 {K : PySem.W.Frag} {f : Addr} {fd : FuncData} (F : FnP K "point_at" (top 38) f fd) (s : Shared) (ws : List Value) (hl : ws.length = (["north", "east"] : List Str).length) : BindsTo s fd ⟨[], (["north", "east"] : List Str).zip ws⟩ ((["east", "north"] : List Str).zip (reord [1, 0] ws)) := by
  obtain ⟨oc, od, dV, kV, doc, pm, an, cdv, ct, osl, rfl, lk, hcd, hD, hK⟩ := F.ex
  rcases hD with ⟨_, rfl⟩ | ⟨e, _⟩
  · match ws, hl with
    | [_, _], _ => exact .of_eq rfl
  · exact absurd rfl e
theorem kw_sense_0_1_2 {K : PySem.W.Frag} {f : Addr} {fd : FuncData} (F : FnP K "sense" (top 43) f fd) (s : Shared) (ws : List Value) (hl : ws.length = (["point", "other", "third"] : List Str).length) : BindsTo s fd ⟨[], (["point", "other", "third"] : List Str).zip ws⟩ ((["point", "other", "third"] : List Str).zip (reord [0, 1, 2] ws)) := by
  obtain ⟨oc, od, dV, kV, doc, pm, an, cdv, ct, osl, rfl, lk, hcd, hD, hK⟩ := F.ex
  rcases hD with ⟨_, rfl⟩ | ⟨e, _⟩
  · match ws, hl with
    | [_, _, _], _ => exact .of_eq rfl
  · exact absurd rfl e
theorem kw_side_through_0_1 {K : PySem.W.Frag} {f : Addr} {fd : FuncData} (F : FnP K "side_through" (top 44) f fd) (s : Shared) (ws : List Value) (hl : ws.length = (["point", "other"] : List Str).length) : BindsTo s fd ⟨[], (["point", "other"] : List Str).zip ws⟩ ((["point", "other"] : List Str).zip (reord [0, 1] ws)) := by
  obtain ⟨oc, od, dV, kV, doc, pm, an, cdv, ct, osl, rfl, lk, hcd, hD, hK⟩ := F.ex
  rcases hD with ⟨_, rfl⟩ | ⟨e, _⟩
  · match ws, hl with
    | [_, _], _ => exact .of_eq rfl
  · exact absurd rfl e
theorem kw_times_0_1 {K : PySem.W.Frag} {f : Addr} {fd : FuncData} (F : FnP K "times" (top 41) f fd) (s : Shared) (ws : List Value) (hl : ws.length = (["point", "fraction"] : List Str).length) : BindsTo s fd ⟨[], (["point", "fraction"] : List Str).zip ws⟩ ((["point", "fraction"] : List Str).zip (reord [0, 1] ws)) := by
  obtain ⟨oc, od, dV, kV, doc, pm, an, cdv, ct, osl, rfl, lk, hcd, hD, hK⟩ := F.ex
  rcases hD with ⟨_, rfl⟩ | ⟨e, _⟩
  · match ws, hl with
    | [_, _], _ => exact .of_eq rfl
  · exact absurd rfl e
theorem sc_is_whole : FnScope ["value"] ["value"] (defScope (top 3)) := ⟨rfl, rfl, rfl, by decide +kernel, rfl, by decide +kernel, by decide +kernel⟩
theorem b_is_whole {K : PySem.W.Frag} {f : Addr} {fd : FuncData} (F : FnP K "is_whole" (top 3) f fd) : Binds K fd ["value"] [] := F.bindsN fun _ _ _ _ _ _ us hl => match us, hl with | [_], _ => rfl
theorem ok_is_whole (T : Pg K mg Ad Dd) (N : Nm K mg) : FnG Pr w K mg base CX0 1 (Ad 3) (Dd 3) ["value"] (spF K WF.f_is_whole) :=
  P.fn (T.fn 3 "is_whole" rfl).1 sc_is_whole rfl rfl fun cdv A outer s H E hg hr => by
    have hu := hr.units
    exact (P.last (P.ret (P.andV (P.isi (by rfl) N.n_isinstance (P.v 0) (by rfl) N.n_int (by decide +kernel) okT_int) (P.one (P.notV (P.isi (by rfl) N.n_isinstance (P.v 0) (by rfl) N.n_bool (by decide +kernel) okT_bool))))))
theorem sc_are_whole : FnScope ["value", "many", "part"] ["value", "many"] (defScope (top 4)) := ⟨rfl, rfl, rfl, by decide +kernel, rfl, by decide +kernel, by decide +kernel⟩
theorem b_are_whole {K : PySem.W.Frag} {f : Addr} {fd : FuncData} (F : FnP K "are_whole" (top 4) f fd) : Binds K fd ["value", "many"] [] := F.bindsN fun _ _ _ _ _ _ us hl => match us, hl with | [_, _], _ => rfl
theorem ok_are_whole (T : Pg K mg Ad Dd) (N : Nm K mg) : FnG Pr w K mg base CX0 2 (Ad 4) (Dd 4) ["value", "many"] (spF K WF.f_are_whole) :=
  P.fn (T.fn 4 "are_whole" rfl).1 sc_are_whole rfl rfl fun cdv A outer s H E hg hr => by
    have hu := hr.units
    exact (P.last (P.ret (P.andV (P.isi (by rfl) N.n_isinstance (P.v 0) (by rfl) N.n_tuple (by decide +kernel) okT_tuple) (P.andV (P.cmp (op_eqP hr.units) w_eq (P.callB call_lenA w_len (by rfl) N.n_len (by decide +kernel) (P.acons (P.v 0) P.anil)) (P.v 1) (nomark _)) (P.one (P.callB (cr_all rfl) w_all (by rfl) N.n_all (by decide +kernel) (P.acons (P.ofL (P.lc rfl sc_are_whole.nd (own := [("part", 2)]) (P.iterE (P.iter (P.v 0))) (blkOk_by (own := [("part", 2)]) (N := ["value", "many", "part"]) (sc := defScope (top 4)) (by decide +kernel)) (by decide) (fun _ _ _ _ _ => (P.gnm sc_are_whole.nd (i := 2) rfl (by first | exact .inl rfl | exact .inr rfl))) (fun _ _ _ _ _ => P.nif) (fun _ _ _ _ _ => (P.call (ok_is_whole T N) hg (hr.mono (by decide)) (by rfl) (T.fn 3 "is_whole" rfl).2 (T.fn 3 "is_whole" rfl).1.kp (b_is_whole (T.fn 3 "is_whole" rfl).1) (P.acons (P.v 2) P.anil))))) P.anil)))))))
theorem sc_ratio : FnScope ["top", "bottom", "common"] ["top", "bottom"] (defScope (top 5)) := ⟨rfl, rfl, rfl, by decide +kernel, rfl, by decide +kernel, by decide +kernel⟩
theorem b_ratio {K : PySem.W.Frag} {f : Addr} {fd : FuncData} (F : FnP K "ratio" (top 5) f fd) : Binds K fd ["top", "bottom"] [] := F.bindsN fun _ _ _ _ _ _ us hl => match us, hl with | [_, _], _ => rfl
theorem ok_ratio (T : Pg K mg Ad Dd) (N : Nm K mg) : FnG Pr w K mg base CX0 1 (Ad 5) (Dd 5) ["top", "bottom"] (spF K WF.f_ratio) :=
  P.fn (T.fn 5 "ratio" rfl).1 sc_ratio rfl rfl fun cdv A outer s H E hg hr => by
    have hu := hr.units
    exact (P.seq (P.set (i := 2) sc_ratio.nd rfl (by first | exact .inl rfl | exact .inr rfl) (P.callG cr_gcdA w_gcd (by rfl) N.g_gcd (P.acons (P.v 0) (P.acons (P.v 1) P.anil)))) (P.seq (P.iff (P.cmpT op_lt w2_cmp (P.v 1) P.int (nomark _)) (P.last (P.set (i := 2) sc_ratio.nd rfl (by first | exact .inl rfl | exact .inr rfl) (P.un un_neg w_neg (P.v 2)))) P.nil) (P.last (P.ret (P.tup (P.acons (P.op op_fdivW w_div (P.v 0) (P.v 2)) (P.acons (P.op op_fdivW w_div (P.v 1) (P.v 2)) P.anil)))))))
theorem sc_point_of : FnScope ["x", "y", "w", "common"] ["x", "y", "w"] (defScope (top 6)) := ⟨rfl, rfl, rfl, by decide +kernel, rfl, by decide +kernel, by decide +kernel⟩
theorem b_point_of {K : PySem.W.Frag} {f : Addr} {fd : FuncData} (F : FnP K "point_of" (top 6) f fd) : Binds K fd ["x", "y", "w"] [] := F.bindsN fun _ _ _ _ _ _ us hl => match us, hl with | [_, _, _], _ => rfl
theorem ok_point_of (T : Pg K mg Ad Dd) (N : Nm K mg) : FnG Pr w K mg base CX0 1 (Ad 6) (Dd 6) ["x", "y", "w"] (spF K WF.f_point_of) :=
  P.fn (T.fn 6 "point_of" rfl).1 sc_point_of rfl rfl fun cdv A outer s H E hg hr => by
    have hu := hr.units
    exact (P.seq (P.set (i := 3) sc_point_of.nd rfl (by first | exact .inl rfl | exact .inr rfl) (P.callG cr_gcdA w_gcd (by rfl) N.g_gcd (P.acons (P.v 0) (P.acons (P.v 1) (P.acons (P.v 2) P.anil))))) (P.seq (P.iff (P.cmpT op_lt w2_cmp (P.v 2) P.int (nomark _)) (P.last (P.set (i := 3) sc_point_of.nd rfl (by first | exact .inl rfl | exact .inr rfl) (P.un un_neg w_neg (P.v 3)))) P.nil) (P.last (P.ret (P.tup (P.acons (P.op op_fdivW w_div (P.v 0) (P.v 3)) (P.acons (P.op op_fdivW w_div (P.v 1) (P.v 3)) (P.acons (P.op op_fdivW w_div (P.v 2) (P.v 3)) P.anil))))))))
theorem sc_point_sum : FnScope ["one", "two", "x", "y", "w", "u", "v", "t"] ["one", "two"] (defScope (top 7)) := ⟨rfl, rfl, rfl, by decide +kernel, rfl, by decide +kernel, by decide +kernel⟩
theorem b_point_sum {K : PySem.W.Frag} {f : Addr} {fd : FuncData} (F : FnP K "point_sum" (top 7) f fd) : Binds K fd ["one", "two"] [] := F.bindsN fun _ _ _ _ _ _ us hl => match us, hl with | [_, _], _ => rfl
theorem ok_point_sum (T : Pg K mg Ad Dd) (N : Nm K mg) : FnG Pr w K mg base CX0 2 (Ad 7) (Dd 7) ["one", "two"] (spF K WF.f_point_sum) :=
  P.fn (T.fn 7 "point_sum" rfl).1 sc_point_sum rfl rfl fun cdv A outer s H E hg hr => by
    have hu := hr.units
    exact (P.seq (P.asg (P.tup (P.acons (P.v 0) (P.acons (P.v 1) P.anil))) (P.gtup (n := 2) rfl (P.gcons (P.gtup (n := 3) rfl (P.gcons (P.gnm sc_point_sum.nd (i := 2) rfl (by first | exact .inl rfl | exact .inr rfl)) (P.gcons (P.gnm sc_point_sum.nd (i := 3) rfl (by first | exact .inl rfl | exact .inr rfl)) (P.gcons (P.gnm sc_point_sum.nd (i := 4) rfl (by first | exact .inl rfl | exact .inr rfl)) P.gnil)))) (P.gcons (P.gtup (n := 3) rfl (P.gcons (P.gnm sc_point_sum.nd (i := 5) rfl (by first | exact .inl rfl | exact .inr rfl)) (P.gcons (P.gnm sc_point_sum.nd (i := 6) rfl (by first | exact .inl rfl | exact .inr rfl)) (P.gcons (P.gnm sc_point_sum.nd (i := 7) rfl (by first | exact .inl rfl | exact .inr rfl)) P.gnil)))) P.gnil)))) (P.last (P.ret (P.call (ok_point_of T N) hg (hr.mono (by decide)) (by rfl) (T.fn 6 "point_of" rfl).2 (T.fn 6 "point_of" rfl).1.kp (b_point_of (T.fn 6 "point_of" rfl).1) (P.acons (P.op op_addA w_add (P.op op_mulW w_mul (P.v 2) (P.v 7)) (P.op op_mulW w_mul (P.v 5) (P.v 4))) (P.acons (P.op op_addA w_add (P.op op_mulW w_mul (P.v 3) (P.v 7)) (P.op op_mulW w_mul (P.v 6) (P.v 4))) (P.acons (P.op op_mulW w_mul (P.v 4) (P.v 7)) P.anil)))))))
theorem sc_point_gap : FnScope ["one", "two", "x", "y", "w", "u", "v", "t"] ["one", "two"] (defScope (top 8)) := ⟨rfl, rfl, rfl, by decide +kernel, rfl, by decide +kernel, by decide +kernel⟩
theorem b_point_gap {K : PySem.W.Frag} {f : Addr} {fd : FuncData} (F : FnP K "point_gap" (top 8) f fd) : Binds K fd ["one", "two"] [] := F.bindsN fun _ _ _ _ _ _ us hl => match us, hl with | [_, _], _ => rfl
theorem ok_point_gap (T : Pg K mg Ad Dd) (N : Nm K mg) : FnG Pr w K mg base CX0 2 (Ad 8) (Dd 8) ["one", "two"] (spF K WF.f_point_gap) :=
  P.fn (T.fn 8 "point_gap" rfl).1 sc_point_gap rfl rfl fun cdv A outer s H E hg hr => by
    have hu := hr.units
    exact (P.seq (P.asg (P.tup (P.acons (P.v 0) (P.acons (P.v 1) P.anil))) (P.gtup (n := 2) rfl (P.gcons (P.gtup (n := 3) rfl (P.gcons (P.gnm sc_point_gap.nd (i := 2) rfl (by first | exact .inl rfl | exact .inr rfl)) (P.gcons (P.gnm sc_point_gap.nd (i := 3) rfl (by first | exact .inl rfl | exact .inr rfl)) (P.gcons (P.gnm sc_point_gap.nd (i := 4) rfl (by first | exact .inl rfl | exact .inr rfl)) P.gnil)))) (P.gcons (P.gtup (n := 3) rfl (P.gcons (P.gnm sc_point_gap.nd (i := 5) rfl (by first | exact .inl rfl | exact .inr rfl)) (P.gcons (P.gnm sc_point_gap.nd (i := 6) rfl (by first | exact .inl rfl | exact .inr rfl)) (P.gcons (P.gnm sc_point_gap.nd (i := 7) rfl (by first | exact .inl rfl | exact .inr rfl)) P.gnil)))) P.gnil)))) (P.last (P.ret (P.call (ok_point_of T N) hg (hr.mono (by decide)) (by rfl) (T.fn 6 "point_of" rfl).2 (T.fn 6 "point_of" rfl).1.kp (b_point_of (T.fn 6 "point_of" rfl).1) (P.acons (P.op op_sub w_sub (P.op op_mulW w_mul (P.v 2) (P.v 7)) (P.op op_mulW w_mul (P.v 5) (P.v 4))) (P.acons (P.op op_sub w_sub (P.op op_mulW w_mul (P.v 3) (P.v 7)) (P.op op_mulW w_mul (P.v 6) (P.v 4))) (P.acons (P.op op_mulW w_mul (P.v 4) (P.v 7)) P.anil)))))))
theorem sc_point_times : FnScope ["point", "fraction", "x", "y", "w"] ["point", "fraction"] (defScope (top 9)) := ⟨rfl, rfl, rfl, by decide +kernel, rfl, by decide +kernel, by decide +kernel⟩
theorem b_point_times {K : PySem.W.Frag} {f : Addr} {fd : FuncData} (F : FnP K "point_times" (top 9) f fd) : Binds K fd ["point", "fraction"] [] := F.bindsN fun _ _ _ _ _ _ us hl => match us, hl with | [_, _], _ => rfl
theorem ok_point_times (T : Pg K mg Ad Dd) (N : Nm K mg) : FnG Pr w K mg base CX0 2 (Ad 9) (Dd 9) ["point", "fraction"] (spF K WF.f_point_times) :=
  P.fn (T.fn 9 "point_times" rfl).1 sc_point_times rfl rfl fun cdv A outer s H E hg hr => by
    have hu := hr.units
    exact (P.seq (P.asg (P.v 0) (P.gtup (n := 3) rfl (P.gcons (P.gnm sc_point_times.nd (i := 2) rfl (by first | exact .inl rfl | exact .inr rfl)) (P.gcons (P.gnm sc_point_times.nd (i := 3) rfl (by first | exact .inl rfl | exact .inr rfl)) (P.gcons (P.gnm sc_point_times.nd (i := 4) rfl (by first | exact .inl rfl | exact .inr rfl)) P.gnil))))) (P.last (P.ret (P.call (ok_point_of T N) hg (hr.mono (by decide)) (by rfl) (T.fn 6 "point_of" rfl).2 (T.fn 6 "point_of" rfl).1.kp (b_point_of (T.fn 6 "point_of" rfl).1) (P.acons (P.op op_mulW w_mul (P.v 2) (P.ix ix_seq w_ix (P.v 1) P.int (fun _ _ => rfl))) (P.acons (P.op op_mulW w_mul (P.v 3) (P.ix ix_seq w_ix (P.v 1) P.int (fun _ _ => rfl))) (P.acons (P.op op_mulW w_mul (P.v 4) (P.ix ix_seq w_ix (P.v 1) P.int (fun _ _ => rfl))) P.anil)))))))
theorem sc_point_between : FnScope ["one", "two", "fraction"] ["one", "two", "fraction"] (defScope (top 10)) := ⟨rfl, rfl, rfl, by decide +kernel, rfl, by decide +kernel, by decide +kernel⟩
theorem b_point_between {K : PySem.W.Frag} {f : Addr} {fd : FuncData} (F : FnP K "point_between" (top 10) f fd) : Binds K fd ["one", "two", "fraction"] [] := F.bindsN fun _ _ _ _ _ _ us hl => match us, hl with | [_, _, _], _ => rfl
theorem ok_point_between (T : Pg K mg Ad Dd) (N : Nm K mg) : FnG Pr w K mg base CX0 3 (Ad 10) (Dd 10) ["one", "two", "fraction"] (spF K WF.f_point_between) :=
  P.fn (T.fn 10 "point_between" rfl).1 sc_point_between rfl rfl fun cdv A outer s H E hg hr => by
    have hu := hr.units
    exact (P.last (P.ret (P.call (ok_point_sum T N) hg (hr.mono (by decide)) (by rfl) (T.fn 7 "point_sum" rfl).2 (T.fn 7 "point_sum" rfl).1.kp (b_point_sum (T.fn 7 "point_sum" rfl).1) (P.acons (P.v 0) (P.acons (P.call (ok_point_times T N) hg (hr.mono (by decide)) (by rfl) (T.fn 9 "point_times" rfl).2 (T.fn 9 "point_times" rfl).1.kp (b_point_times (T.fn 9 "point_times" rfl).1) (P.acons (P.call (ok_point_gap T N) hg (hr.mono (by decide)) (by rfl) (T.fn 8 "point_gap" rfl).2 (T.fn 8 "point_gap" rfl).1.kp (b_point_gap (T.fn 8 "point_gap" rfl).1) (P.acons (P.v 1) (P.acons (P.v 0) P.anil))) (P.acons (P.v 2) P.anil))) P.anil)))))
theorem sc_course_to : FnScope ["one", "two", "x", "y", "w", "u", "v", "t"] ["one", "two"] (defScope (top 11)) := ⟨rfl, rfl, rfl, by decide +kernel, rfl, by decide +kernel, by decide +kernel⟩
theorem b_course_to {K : PySem.W.Frag} {f : Addr} {fd : FuncData} (F : FnP K "course_to" (top 11) f fd) : Binds K fd ["one", "two"] [] := F.bindsN fun _ _ _ _ _ _ us hl => match us, hl with | [_, _], _ => rfl
theorem ok_course_to (T : Pg K mg Ad Dd) (N : Nm K mg) : FnG Pr w K mg base CX0 1 (Ad 11) (Dd 11) ["one", "two"] (spF K WF.f_course_to) :=
  P.fn (T.fn 11 "course_to" rfl).1 sc_course_to rfl rfl fun cdv A outer s H E hg hr => by
    have hu := hr.units
    exact (P.seq (P.asg (P.tup (P.acons (P.v 0) (P.acons (P.v 1) P.anil))) (P.gtup (n := 2) rfl (P.gcons (P.gtup (n := 3) rfl (P.gcons (P.gnm sc_course_to.nd (i := 2) rfl (by first | exact .inl rfl | exact .inr rfl)) (P.gcons (P.gnm sc_course_to.nd (i := 3) rfl (by first | exact .inl rfl | exact .inr rfl)) (P.gcons (P.gnm sc_course_to.nd (i := 4) rfl (by first | exact .inl rfl | exact .inr rfl)) P.gnil)))) (P.gcons (P.gtup (n := 3) rfl (P.gcons (P.gnm sc_course_to.nd (i := 5) rfl (by first | exact .inl rfl | exact .inr rfl)) (P.gcons (P.gnm sc_course_to.nd (i := 6) rfl (by first | exact .inl rfl | exact .inr rfl)) (P.gcons (P.gnm sc_course_to.nd (i := 7) rfl (by first | exact .inl rfl | exact .inr rfl)) P.gnil)))) P.gnil)))) (P.last (P.ret (P.tup (P.acons (P.op op_sub w_sub (P.op op_mulW w_mul (P.v 5) (P.v 4)) (P.op op_mulW w_mul (P.v 2) (P.v 7))) (P.acons (P.op op_sub w_sub (P.op op_mulW w_mul (P.v 6) (P.v 4)) (P.op op_mulW w_mul (P.v 3) (P.v 7))) P.anil))))))
theorem sc_side_of : FnScope ["a", "b", "bound", "top", "bottom", "common"] ["a", "b", "bound"] (defScope (top 12)) := ⟨rfl, rfl, rfl, by decide +kernel, rfl, by decide +kernel, by decide +kernel⟩
theorem b_side_of {K : PySem.W.Frag} {f : Addr} {fd : FuncData} (F : FnP K "side_of" (top 12) f fd) : Binds K fd ["a", "b", "bound"] [] := F.bindsN fun _ _ _ _ _ _ us hl => match us, hl with | [_, _, _], _ => rfl
theorem ok_side_of (T : Pg K mg Ad Dd) (N : Nm K mg) : FnG Pr w K mg base CX0 1 (Ad 12) (Dd 12) ["a", "b", "bound"] (spF K WF.f_side_of) :=
  P.fn (T.fn 12 "side_of" rfl).1 sc_side_of rfl rfl fun cdv A outer s H E hg hr => by
    have hu := hr.units
    exact (P.seq (P.asg (P.v 2) (P.gtup (n := 2) rfl (P.gcons (P.gnm sc_side_of.nd (i := 3) rfl (by first | exact .inl rfl | exact .inr rfl)) (P.gcons (P.gnm sc_side_of.nd (i := 4) rfl (by first | exact .inl rfl | exact .inr rfl)) P.gnil)))) (P.seq (P.set (i := 5) sc_side_of.nd rfl (by first | exact .inl rfl | exact .inr rfl) (P.callG cr_gcdA w_gcd (by rfl) N.g_gcd (P.acons (P.op op_mulW w_mul (P.v 0) (P.v 4)) (P.acons (P.op op_mulW w_mul (P.v 1) (P.v 4)) (P.acons (P.v 3) P.anil))))) (P.last (P.ret (P.tup (P.acons (P.op op_fdivW w_div (P.op op_mulW w_mul (P.v 0) (P.v 4)) (P.v 5)) (P.acons (P.op op_fdivW w_div (P.op op_mulW w_mul (P.v 1) (P.v 4)) (P.v 5)) (P.acons (P.op op_fdivW w_div (P.v 3) (P.v 5)) P.anil))))))))
theorem sc_along : FnScope ["a", "b", "point"] ["a", "b", "point"] (defScope (top 13)) := ⟨rfl, rfl, rfl, by decide +kernel, rfl, by decide +kernel, by decide +kernel⟩
theorem b_along {K : PySem.W.Frag} {f : Addr} {fd : FuncData} (F : FnP K "along" (top 13) f fd) : Binds K fd ["a", "b", "point"] [] := F.bindsN fun _ _ _ _ _ _ us hl => match us, hl with | [_, _, _], _ => rfl
theorem ok_along (T : Pg K mg Ad Dd) (N : Nm K mg) : FnG Pr w K mg base CX0 2 (Ad 13) (Dd 13) ["a", "b", "point"] (spF K WF.f_along) :=
  P.fn (T.fn 13 "along" rfl).1 sc_along rfl rfl fun cdv A outer s H E hg hr => by
    have hu := hr.units
    exact (P.last (P.ret (P.call (ok_ratio T N) hg (hr.mono (by decide)) (by rfl) (T.fn 5 "ratio" rfl).2 (T.fn 5 "ratio" rfl).1.kp (b_ratio (T.fn 5 "ratio" rfl).1) (P.acons (P.op op_addA w_add (P.op op_mulW w_mul (P.v 0) (P.ix ix_seq w_ix (P.v 2) P.int (fun _ _ => rfl))) (P.op op_mulW w_mul (P.v 1) (P.ix ix_seq w_ix (P.v 2) P.int (fun _ _ => rfl)))) (P.acons (P.ix ix_seq w_ix (P.v 2) P.int (fun _ _ => rfl)) P.anil)))))
theorem sc_overshoot : FnScope ["side", "point"] ["side", "point"] (defScope (top 14)) := ⟨rfl, rfl, rfl, by decide +kernel, rfl, by decide +kernel, by decide +kernel⟩
theorem b_overshoot {K : PySem.W.Frag} {f : Addr} {fd : FuncData} (F : FnP K "overshoot" (top 14) f fd) : Binds K fd ["side", "point"] [] := F.bindsN fun _ _ _ _ _ _ us hl => match us, hl with | [_, _], _ => rfl
theorem ok_overshoot (T : Pg K mg Ad Dd) (N : Nm K mg) : FnG Pr w K mg base CX0 1 (Ad 14) (Dd 14) ["side", "point"] (spF K WF.f_overshoot) :=
  P.fn (T.fn 14 "overshoot" rfl).1 sc_overshoot rfl rfl fun cdv A outer s H E hg hr => by
    have hu := hr.units
    exact (P.last (P.ret (P.op op_sub w_sub (P.op op_addA w_add (P.op op_mulW w_mul (P.ix ix_seq w_ix (P.v 0) P.int (fun _ _ => rfl)) (P.ix ix_seq w_ix (P.v 1) P.int (fun _ _ => rfl))) (P.op op_mulW w_mul (P.ix ix_seq w_ix (P.v 0) P.int (fun _ _ => rfl)) (P.ix ix_seq w_ix (P.v 1) P.int (fun _ _ => rfl)))) (P.op op_mulW w_mul (P.ix ix_seq w_ix (P.v 0) P.int (fun _ _ => rfl)) (P.ix ix_seq w_ix (P.v 1) P.int (fun _ _ => rfl))))))
theorem sc_turn : FnScope ["one", "two", "three", "x", "y", "w", "u", "v"] ["one", "two", "three"] (defScope (top 15)) := ⟨rfl, rfl, rfl, by decide +kernel, rfl, by decide +kernel, by decide +kernel⟩
theorem b_turn {K : PySem.W.Frag} {f : Addr} {fd : FuncData} (F : FnP K "turn" (top 15) f fd) : Binds K fd ["one", "two", "three"] [] := F.bindsN fun _ _ _ _ _ _ us hl => match us, hl with | [_, _, _], _ => rfl
theorem ok_turn (T : Pg K mg Ad Dd) (N : Nm K mg) : FnG Pr w K mg base CX0 2 (Ad 15) (Dd 15) ["one", "two", "three"] (spF K WF.f_turn) :=
  P.fn (T.fn 15 "turn" rfl).1 sc_turn rfl rfl fun cdv A outer s H E hg hr => by
    have hu := hr.units
    exact (P.seq (P.asg (P.tup (P.acons (P.v 0) (P.acons (P.call (ok_course_to T N) hg (hr.mono (by decide)) (by rfl) (T.fn 11 "course_to" rfl).2 (T.fn 11 "course_to" rfl).1.kp (b_course_to (T.fn 11 "course_to" rfl).1) (P.acons (P.v 0) (P.acons (P.v 1) P.anil))) P.anil))) (P.gtup (n := 2) rfl (P.gcons (P.gtup (n := 3) rfl (P.gcons (P.gnm sc_turn.nd (i := 3) rfl (by first | exact .inl rfl | exact .inr rfl)) (P.gcons (P.gnm sc_turn.nd (i := 4) rfl (by first | exact .inl rfl | exact .inr rfl)) (P.gcons (P.gnm sc_turn.nd (i := 5) rfl (by first | exact .inl rfl | exact .inr rfl)) P.gnil)))) (P.gcons (P.gtup (n := 2) rfl (P.gcons (P.gnm sc_turn.nd (i := 6) rfl (by first | exact .inl rfl | exact .inr rfl)) (P.gcons (P.gnm sc_turn.nd (i := 7) rfl (by first | exact .inl rfl | exact .inr rfl)) P.gnil))) P.gnil)))) (P.last (P.ret (P.op op_sub w_sub (P.op op_mulW w_mul (P.v 6) (P.op op_sub w_sub (P.op op_mulW w_mul (P.ix ix_seq w_ix (P.v 2) P.int (fun _ _ => rfl)) (P.v 5)) (P.op op_mulW w_mul (P.v 4) (P.ix ix_seq w_ix (P.v 2) P.int (fun _ _ => rfl))))) (P.op op_mulW w_mul (P.v 7) (P.op op_sub w_sub (P.op op_mulW w_mul (P.ix ix_seq w_ix (P.v 2) P.int (fun _ _ => rfl)) (P.v 5)) (P.op op_mulW w_mul (P.v 3) (P.ix ix_seq w_ix (P.v 2) P.int (fun _ _ => rfl)))))))))
theorem sc_direction_along : FnScope ["x", "y", "common"] ["x", "y"] (defScope (top 17)) := ⟨rfl, rfl, rfl, by decide +kernel, rfl, by decide +kernel, by decide +kernel⟩
theorem b_direction_along {K : PySem.W.Frag} {f : Addr} {fd : FuncData} (F : FnP K "direction_along" (top 17) f fd) : Binds K fd ["x", "y"] [] := F.bindsN fun _ _ _ _ _ _ us hl => match us, hl with | [_, _], _ => rfl
theorem ok_direction_along (T : Pg K mg Ad Dd) (N : Nm K mg) : FnG Pr w K mg base CX0 1 (Ad 17) (Dd 17) ["x", "y"] (spF K WF.f_direction_along) :=
  P.fn (T.fn 17 "direction_along" rfl).1 sc_direction_along rfl rfl fun cdv A outer s H E hg hr => by
    have hu := hr.units
    exact (P.seq (P.set (i := 2) sc_direction_along.nd rfl (by first | exact .inl rfl | exact .inr rfl) (P.callG cr_gcdA w_gcd (by rfl) N.g_gcd (P.acons (P.v 0) (P.acons (P.v 1) P.anil)))) (P.last (P.ret (P.tup (P.acons (P.op op_fdivW w_div (P.v 0) (P.v 2)) (P.acons (P.op op_fdivW w_div (P.v 1) (P.v 2)) P.anil))))))
theorem sc_half_turn : FnScope ["direction"] ["direction"] (defScope (top 18)) := ⟨rfl, rfl, rfl, by decide +kernel, rfl, by decide +kernel, by decide +kernel⟩
theorem b_half_turn {K : PySem.W.Frag} {f : Addr} {fd : FuncData} (F : FnP K "half_turn" (top 18) f fd) : Binds K fd ["direction"] [] := F.bindsN fun _ _ _ _ _ _ us hl => match us, hl with | [_], _ => rfl
theorem ok_half_turn (T : Pg K mg Ad Dd) (N : Nm K mg) : FnG Pr w K mg base CX0 1 (Ad 18) (Dd 18) ["direction"] (spF K WF.f_half_turn) :=
  P.fn (T.fn 18 "half_turn" rfl).1 sc_half_turn rfl rfl fun cdv A outer s H E hg hr => by
    have hu := hr.units
    exact (P.seq (P.iff (PW.pt (P.or (P.cmpT op_gt w2_cmp (P.ix ix_seq w_ix (P.v 0) P.int (fun _ _ => rfl)) P.int (nomark _)) (P.or1 (PW.pt (P.and (P.cmpT (op_eqP hr.units) w_eq (P.ix ix_seq w_ix (P.v 0) P.int (fun _ _ => rfl)) P.int (nomark _)) (P.and1 (P.cmpT op_gt w2_cmp (P.ix ix_seq w_ix (P.v 0) P.int (fun _ _ => rfl)) P.int (nomark _)))))))) (P.last (P.ret P.int)) P.nil) (P.last (P.ret P.int)))
theorem sc_stands_before : FnScope ["one", "two", "half", "its_half"] ["one", "two"] (defScope (top 19)) := ⟨rfl, rfl, rfl, by decide +kernel, rfl, by decide +kernel, by decide +kernel⟩
theorem b_stands_before {K : PySem.W.Frag} {f : Addr} {fd : FuncData} (F : FnP K "stands_before" (top 19) f fd) : Binds K fd ["one", "two"] [] := F.bindsN fun _ _ _ _ _ _ us hl => match us, hl with | [_, _], _ => rfl
theorem ok_stands_before (T : Pg K mg Ad Dd) (N : Nm K mg) : FnG Pr w K mg base CX0 2 (Ad 19) (Dd 19) ["one", "two"] (spF K WF.f_stands_before) :=
  P.fn (T.fn 19 "stands_before" rfl).1 sc_stands_before rfl rfl fun cdv A outer s H E hg hr => by
    have hu := hr.units
    exact (P.seq (P.par (i := 2) (j := 3) rfl sc_stands_before.nd rfl rfl (by decide) rfl rfl (P.acons (P.call (ok_half_turn T N) hg (hr.mono (by decide)) (by rfl) (T.fn 18 "half_turn" rfl).2 (T.fn 18 "half_turn" rfl).1.kp (b_half_turn (T.fn 18 "half_turn" rfl).1) (P.acons (P.v 0) P.anil)) (P.acons (P.call (ok_half_turn T N) hg (hr.mono (by decide)) (by rfl) (T.fn 18 "half_turn" rfl).2 (T.fn 18 "half_turn" rfl).1.kp (b_half_turn (T.fn 18 "half_turn" rfl).1) (P.acons (P.v 1) P.anil)) P.anil)) (by rfl)) (P.seq (P.iff (P.cmpT (op_neP hr.units) w_ne (P.v 2) (P.v 3) (nomark _)) (P.last (P.ret (P.cmp op_lt w2_cmp (P.v 2) (P.v 3) (nomark _)))) P.nil) (P.last (P.ret (P.cmp op_gt w2_cmp (P.op op_sub w_sub (P.op op_mulW w_mul (P.ix ix_seq w_ix (P.v 0) P.int (fun _ _ => rfl)) (P.ix ix_seq w_ix (P.v 1) P.int (fun _ _ => rfl))) (P.op op_mulW w_mul (P.ix ix_seq w_ix (P.v 0) P.int (fun _ _ => rfl)) (P.ix ix_seq w_ix (P.v 1) P.int (fun _ _ => rfl)))) P.int (nomark _))))))
theorem sc_is_fraction : FnScope ["value"] ["value"] (defScope (top 28)) := ⟨rfl, rfl, rfl, by decide +kernel, rfl, by decide +kernel, by decide +kernel⟩
theorem b_is_fraction {K : PySem.W.Frag} {f : Addr} {fd : FuncData} (F : FnP K "is_fraction" (top 28) f fd) : Binds K fd ["value"] [] := F.bindsN fun _ _ _ _ _ _ us hl => match us, hl with | [_], _ => rfl
theorem ok_is_fraction (T : Pg K mg Ad Dd) (N : Nm K mg) : FnG Pr w K mg base CX0 3 (Ad 28) (Dd 28) ["value"] (spF K WF.f_is_fraction) :=
  P.fn (T.fn 28 "is_fraction" rfl).1 sc_is_fraction rfl rfl fun cdv A outer s H E hg hr => by
    have hu := hr.units
    exact (P.last (P.ret (P.andV (P.call (ok_are_whole T N) hg (hr.mono (by decide)) (by rfl) (T.fn 4 "are_whole" rfl).2 (T.fn 4 "are_whole" rfl).1.kp (b_are_whole (T.fn 4 "are_whole" rfl).1) (P.acons (P.v 0) (P.acons P.int P.anil))) (P.andV (P.cmp op_gt w2_cmp (P.ix ix_seq w_ix (P.v 0) P.int (fun _ _ => rfl)) P.int (nomark _)) (P.one (P.cmp (op_eqP hr.units) w_eq (P.callG cr_gcdA w_gcd (by rfl) N.g_gcd (P.acons (P.ix ix_seq w_ix (P.v 0) P.int (fun _ _ => rfl)) (P.acons (P.ix ix_seq w_ix (P.v 0) P.int (fun _ _ => rfl)) P.anil))) P.int (nomark _)))))))
theorem sc_is_point : FnScope ["value"] ["value"] (defScope (top 29)) := ⟨rfl, rfl, rfl, by decide +kernel, rfl, by decide +kernel, by decide +kernel⟩
theorem b_is_point {K : PySem.W.Frag} {f : Addr} {fd : FuncData} (F : FnP K "is_point" (top 29) f fd) : Binds K fd ["value"] [] := F.bindsN fun _ _ _ _ _ _ us hl => match us, hl with | [_], _ => rfl
theorem ok_is_point (T : Pg K mg Ad Dd) (N : Nm K mg) : FnG Pr w K mg base CX0 3 (Ad 29) (Dd 29) ["value"] (spF K WF.f_is_point) :=
  P.fn (T.fn 29 "is_point" rfl).1 sc_is_point rfl rfl fun cdv A outer s H E hg hr => by
    have hu := hr.units
    exact (P.last (P.ret (P.andV (P.call (ok_are_whole T N) hg (hr.mono (by decide)) (by rfl) (T.fn 4 "are_whole" rfl).2 (T.fn 4 "are_whole" rfl).1.kp (b_are_whole (T.fn 4 "are_whole" rfl).1) (P.acons (P.v 0) (P.acons P.int P.anil))) (P.andV (P.cmp op_gt w2_cmp (P.ix ix_seq w_ix (P.v 0) P.int (fun _ _ => rfl)) P.int (nomark _)) (P.one (P.cmp (op_eqP hr.units) w_eq (P.callG cr_gcdA w_gcd (by rfl) N.g_gcd (P.acons (P.ix ix_seq w_ix (P.v 0) P.int (fun _ _ => rfl)) (P.acons (P.ix ix_seq w_ix (P.v 0) P.int (fun _ _ => rfl)) (P.acons (P.ix ix_seq w_ix (P.v 0) P.int (fun _ _ => rfl)) P.anil)))) P.int (nomark _)))))))
theorem sc_is_side : FnScope ["value"] ["value"] (defScope (top 30)) := ⟨rfl, rfl, rfl, by decide +kernel, rfl, by decide +kernel, by decide +kernel⟩
theorem b_is_side {K : PySem.W.Frag} {f : Addr} {fd : FuncData} (F : FnP K "is_side" (top 30) f fd) : Binds K fd ["value"] [] := F.bindsN fun _ _ _ _ _ _ us hl => match us, hl with | [_], _ => rfl
theorem ok_is_side (T : Pg K mg Ad Dd) (N : Nm K mg) : FnG Pr w K mg base CX0 3 (Ad 30) (Dd 30) ["value"] (spF K WF.f_is_side) :=
  P.fn (T.fn 30 "is_side" rfl).1 sc_is_side rfl rfl fun cdv A outer s H E hg hr => by
    have hu := hr.units
    exact (P.last (P.ret (P.andV (P.call (ok_are_whole T N) hg (hr.mono (by decide)) (by rfl) (T.fn 4 "are_whole" rfl).2 (T.fn 4 "are_whole" rfl).1.kp (b_are_whole (T.fn 4 "are_whole" rfl).1) (P.acons (P.v 0) (P.acons P.int P.anil))) (P.andV (P.cmp (op_neP hr.units) w_ne (P.sl (P.v 0) P.ono (P.osome P.int)) (P.tup (P.acons P.int (P.acons P.int P.anil))) (nomark _)) (P.one (P.cmp (op_eqP hr.units) w_eq (P.callG cr_gcdA w_gcd (by rfl) N.g_gcd (P.acons (P.ix ix_seq w_ix (P.v 0) P.int (fun _ _ => rfl)) (P.acons (P.ix ix_seq w_ix (P.v 0) P.int (fun _ _ => rfl)) (P.acons (P.ix ix_seq w_ix (P.v 0) P.int (fun _ _ => rfl)) P.anil)))) P.int (nomark _)))))))
theorem sc_is_direction : FnScope ["value"] ["value"] (defScope (top 31)) := ⟨rfl, rfl, rfl, by decide +kernel, rfl, by decide +kernel, by decide +kernel⟩
theorem b_is_direction {K : PySem.W.Frag} {f : Addr} {fd : FuncData} (F : FnP K "is_direction" (top 31) f fd) : Binds K fd ["value"] [] := F.bindsN fun _ _ _ _ _ _ us hl => match us, hl with | [_], _ => rfl
theorem ok_is_direction (T : Pg K mg Ad Dd) (N : Nm K mg) : FnG Pr w K mg base CX0 3 (Ad 31) (Dd 31) ["value"] (spF K WF.f_is_direction) :=
  P.fn (T.fn 31 "is_direction" rfl).1 sc_is_direction rfl rfl fun cdv A outer s H E hg hr => by
    have hu := hr.units
    exact (P.last (P.ret (P.andV (P.call (ok_are_whole T N) hg (hr.mono (by decide)) (by rfl) (T.fn 4 "are_whole" rfl).2 (T.fn 4 "are_whole" rfl).1.kp (b_are_whole (T.fn 4 "are_whole" rfl).1) (P.acons (P.v 0) (P.acons P.int P.anil))) (P.one (P.cmp (op_eqP hr.units) w_eq (P.callG cr_gcdA w_gcd (by rfl) N.g_gcd (P.acons (P.ix ix_seq w_ix (P.v 0) P.int (fun _ _ => rfl)) (P.acons (P.ix ix_seq w_ix (P.v 0) P.int (fun _ _ => rfl)) P.anil))) P.int (nomark _))))))
theorem sc_need_fraction : FnScope ["value"] ["value"] (defScope (top 32)) := ⟨rfl, rfl, rfl, by decide +kernel, rfl, by decide +kernel, by decide +kernel⟩
theorem b_need_fraction {K : PySem.W.Frag} {f : Addr} {fd : FuncData} (F : FnP K "need_fraction" (top 32) f fd) : Binds K fd ["value"] [] := F.bindsN fun _ _ _ _ _ _ us hl => match us, hl with | [_], _ => rfl
theorem ok_need_fraction (T : Pg K mg Ad Dd) (N : Nm K mg) : FnG Pr w K mg base CX0 4 (Ad 32) (Dd 32) ["value"] (spF K WF.f_need_fraction) :=
  P.fn (T.fn 32 "need_fraction" rfl).1 sc_need_fraction rfl rfl fun cdv A outer s H E hg hr => by
    have hu := hr.units
    exact (P.last (P.iff (P.not (P.tval (P.call (ok_is_fraction T N) hg (hr.mono (by decide)) (by rfl) (T.fn 28 "is_fraction" rfl).2 (T.fn 28 "is_fraction" rfl).1.kp (b_is_fraction (T.fn 28 "is_fraction" rfl).1) (P.acons (P.v 0) P.anil)))) (P.last P.no) P.nil))
theorem sc_need_point : FnScope ["value"] ["value"] (defScope (top 33)) := ⟨rfl, rfl, rfl, by decide +kernel, rfl, by decide +kernel, by decide +kernel⟩
theorem b_need_point {K : PySem.W.Frag} {f : Addr} {fd : FuncData} (F : FnP K "need_point" (top 33) f fd) : Binds K fd ["value"] [] := F.bindsN fun _ _ _ _ _ _ us hl => match us, hl with | [_], _ => rfl
theorem ok_need_point (T : Pg K mg Ad Dd) (N : Nm K mg) : FnG Pr w K mg base CX0 4 (Ad 33) (Dd 33) ["value"] (spF K WF.f_need_point) :=
  P.fn (T.fn 33 "need_point" rfl).1 sc_need_point rfl rfl fun cdv A outer s H E hg hr => by
    have hu := hr.units
    exact (P.last (P.iff (P.not (P.tval (P.call (ok_is_point T N) hg (hr.mono (by decide)) (by rfl) (T.fn 29 "is_point" rfl).2 (T.fn 29 "is_point" rfl).1.kp (b_is_point (T.fn 29 "is_point" rfl).1) (P.acons (P.v 0) P.anil)))) (P.last P.no) P.nil))
theorem sc_need_side : FnScope ["value"] ["value"] (defScope (top 34)) := ⟨rfl, rfl, rfl, by decide +kernel, rfl, by decide +kernel, by decide +kernel⟩
theorem b_need_side {K : PySem.W.Frag} {f : Addr} {fd : FuncData} (F : FnP K "need_side" (top 34) f fd) : Binds K fd ["value"] [] := F.bindsN fun _ _ _ _ _ _ us hl => match us, hl with | [_], _ => rfl
theorem ok_need_side (T : Pg K mg Ad Dd) (N : Nm K mg) : FnG Pr w K mg base CX0 4 (Ad 34) (Dd 34) ["value"] (spF K WF.f_need_side) :=
  P.fn (T.fn 34 "need_side" rfl).1 sc_need_side rfl rfl fun cdv A outer s H E hg hr => by
    have hu := hr.units
    exact (P.last (P.iff (P.not (P.tval (P.call (ok_is_side T N) hg (hr.mono (by decide)) (by rfl) (T.fn 30 "is_side" rfl).2 (T.fn 30 "is_side" rfl).1.kp (b_is_side (T.fn 30 "is_side" rfl).1) (P.acons (P.v 0) P.anil)))) (P.last P.no) P.nil))
theorem sc_need_direction : FnScope ["value"] ["value"] (defScope (top 35)) := ⟨rfl, rfl, rfl, by decide +kernel, rfl, by decide +kernel, by decide +kernel⟩
theorem b_need_direction {K : PySem.W.Frag} {f : Addr} {fd : FuncData} (F : FnP K "need_direction" (top 35) f fd) : Binds K fd ["value"] [] := F.bindsN fun _ _ _ _ _ _ us hl => match us, hl with | [_], _ => rfl
theorem ok_need_direction (T : Pg K mg Ad Dd) (N : Nm K mg) : FnG Pr w K mg base CX0 4 (Ad 35) (Dd 35) ["value"] (spF K WF.f_need_direction) :=
  P.fn (T.fn 35 "need_direction" rfl).1 sc_need_direction rfl rfl fun cdv A outer s H E hg hr => by
    have hu := hr.units
    exact (P.last (P.iff (P.not (P.tval (P.call (ok_is_direction T N) hg (hr.mono (by decide)) (by rfl) (T.fn 31 "is_direction" rfl).2 (T.fn 31 "is_direction" rfl).1.kp (b_is_direction (T.fn 31 "is_direction" rfl).1) (P.acons (P.v 0) P.anil)))) (P.last P.no) P.nil))
theorem sc_direction_of : FnScope ["way"] ["way"] (defScope (top 36)) := ⟨rfl, rfl, rfl, by decide +kernel, rfl, by decide +kernel, by decide +kernel⟩
theorem b_direction_of {K : PySem.W.Frag} {f : Addr} {fd : FuncData} (F : FnP K "direction_of" (top 36) f fd) : Binds K fd ["way"] [] := F.bindsN fun _ _ _ _ _ _ us hl => match us, hl with | [_], _ => rfl
theorem ok_direction_of (T : Pg K mg Ad Dd) (N : Nm K mg) : FnG Pr w K mg base CX0 5 (Ad 36) (Dd 36) ["way"] (spF K WF.f_direction_of) :=
  P.fn (T.fn 36 "direction_of" rfl).1 sc_direction_of rfl rfl fun cdv A outer s H E hg hr => by
    have hu := hr.units
    exact (P.seq (P.expr (P.call (ok_need_point T N) hg (hr.mono (by decide)) (by rfl) (T.fn 33 "need_point" rfl).2 (T.fn 33 "need_point" rfl).1.kp (b_need_point (T.fn 33 "need_point" rfl).1) (P.acons (P.v 0) P.anil))) (P.seq (P.iff (P.cmpT (op_eqP hr.units) w_eq (P.v 0) (P.cst (by rfl) N.c_NOUGHT) (nomark _)) (P.last (P.ret P.non)) P.nil) (P.last (P.ret (P.call (ok_direction_along T N) hg (hr.mono (by decide)) (by rfl) (T.fn 17 "direction_along" rfl).2 (T.fn 17 "direction_along" rfl).1.kp (b_direction_along (T.fn 17 "direction_along" rfl).1) (P.acons (P.ix ix_seq w_ix (P.v 0) P.int (fun _ _ => rfl)) (P.acons (P.ix ix_seq w_ix (P.v 0) P.int (fun _ _ => rfl)) P.anil)))))))
theorem sc_is_earlier : FnScope ["direction", "other"] ["direction", "other"] (defScope (top 37)) := ⟨rfl, rfl, rfl, by decide +kernel, rfl, by decide +kernel, by decide +kernel⟩
theorem b_is_earlier {K : PySem.W.Frag} {f : Addr} {fd : FuncData} (F : FnP K "is_earlier" (top 37) f fd) : Binds K fd ["direction", "other"] [] := F.bindsN fun _ _ _ _ _ _ us hl => match us, hl with | [_, _], _ => rfl
theorem ok_is_earlier (T : Pg K mg Ad Dd) (N : Nm K mg) : FnG Pr w K mg base CX0 5 (Ad 37) (Dd 37) ["direction", "other"] (spF K WF.f_is_earlier) :=
  P.fn (T.fn 37 "is_earlier" rfl).1 sc_is_earlier rfl rfl fun cdv A outer s H E hg hr => by
    have hu := hr.units
    exact (P.seq (P.expr (P.call (ok_need_direction T N) hg (hr.mono (by decide)) (by rfl) (T.fn 35 "need_direction" rfl).2 (T.fn 35 "need_direction" rfl).1.kp (b_need_direction (T.fn 35 "need_direction" rfl).1) (P.acons (P.v 0) P.anil))) (P.seq (P.expr (P.call (ok_need_direction T N) hg (hr.mono (by decide)) (by rfl) (T.fn 35 "need_direction" rfl).2 (T.fn 35 "need_direction" rfl).1.kp (b_need_direction (T.fn 35 "need_direction" rfl).1) (P.acons (P.v 1) P.anil))) (P.last (P.ret (P.call (ok_stands_before T N) hg (hr.mono (by decide)) (by rfl) (T.fn 19 "stands_before" rfl).2 (T.fn 19 "stands_before" rfl).1.kp (b_stands_before (T.fn 19 "stands_before" rfl).1) (P.acons (P.v 0) (P.acons (P.v 1) P.anil)))))))
theorem sc_point_at : FnScope ["east", "north"] ["east", "north"] (defScope (top 38)) := ⟨rfl, rfl, rfl, by decide +kernel, rfl, by decide +kernel, by decide +kernel⟩
theorem b_point_at {K : PySem.W.Frag} {f : Addr} {fd : FuncData} (F : FnP K "point_at" (top 38) f fd) : Binds K fd ["east", "north"] [] := F.bindsN fun _ _ _ _ _ _ us hl => match us, hl with | [_, _], _ => rfl
theorem ok_point_at (T : Pg K mg Ad Dd) (N : Nm K mg) : FnG Pr w K mg base CX0 5 (Ad 38) (Dd 38) ["east", "north"] (spF K WF.f_point_at) :=
  P.fn (T.fn 38 "point_at" rfl).1 sc_point_at rfl rfl fun cdv A outer s H E hg hr => by
    have hu := hr.units
    exact (P.seq (P.expr (P.call (ok_need_fraction T N) hg (hr.mono (by decide)) (by rfl) (T.fn 32 "need_fraction" rfl).2 (T.fn 32 "need_fraction" rfl).1.kp (b_need_fraction (T.fn 32 "need_fraction" rfl).1) (P.acons (P.v 0) P.anil))) (P.seq (P.expr (P.call (ok_need_fraction T N) hg (hr.mono (by decide)) (by rfl) (T.fn 32 "need_fraction" rfl).2 (T.fn 32 "need_fraction" rfl).1.kp (b_need_fraction (T.fn 32 "need_fraction" rfl).1) (P.acons (P.v 1) P.anil))) (P.last (P.ret (P.call (ok_point_of T N) hg (hr.mono (by decide)) (by rfl) (T.fn 6 "point_of" rfl).2 (T.fn 6 "point_of" rfl).1.kp (b_point_of (T.fn 6 "point_of" rfl).1) (P.acons (P.op op_mulW w_mul (P.ix ix_seq w_ix (P.v 0) P.int (fun _ _ => rfl)) (P.ix ix_seq w_ix (P.v 1) P.int (fun _ _ => rfl))) (P.acons (P.op op_mulW w_mul (P.ix ix_seq w_ix (P.v 1) P.int (fun _ _ => rfl)) (P.ix ix_seq w_ix (P.v 0) P.int (fun _ _ => rfl))) (P.acons (P.op op_mulW w_mul (P.ix ix_seq w_ix (P.v 0) P.int (fun _ _ => rfl)) (P.ix ix_seq w_ix (P.v 1) P.int (fun _ _ => rfl))) P.anil))))))))
theorem sc_plus : FnScope ["point", "other"] ["point", "other"] (defScope (top 39)) := ⟨rfl, rfl, rfl, by decide +kernel, rfl, by decide +kernel, by decide +kernel⟩
theorem b_plus {K : PySem.W.Frag} {f : Addr} {fd : FuncData} (F : FnP K "plus" (top 39) f fd) : Binds K fd ["point", "other"] [] := F.bindsN fun _ _ _ _ _ _ us hl => match us, hl with | [_, _], _ => rfl
theorem ok_plus (T : Pg K mg Ad Dd) (N : Nm K mg) : FnG Pr w K mg base CX0 5 (Ad 39) (Dd 39) ["point", "other"] (spF K WF.f_plus) :=
  P.fn (T.fn 39 "plus" rfl).1 sc_plus rfl rfl fun cdv A outer s H E hg hr => by
    have hu := hr.units
    exact (P.seq (P.expr (P.call (ok_need_point T N) hg (hr.mono (by decide)) (by rfl) (T.fn 33 "need_point" rfl).2 (T.fn 33 "need_point" rfl).1.kp (b_need_point (T.fn 33 "need_point" rfl).1) (P.acons (P.v 0) P.anil))) (P.seq (P.expr (P.call (ok_need_point T N) hg (hr.mono (by decide)) (by rfl) (T.fn 33 "need_point" rfl).2 (T.fn 33 "need_point" rfl).1.kp (b_need_point (T.fn 33 "need_point" rfl).1) (P.acons (P.v 1) P.anil))) (P.last (P.ret (P.call (ok_point_sum T N) hg (hr.mono (by decide)) (by rfl) (T.fn 7 "point_sum" rfl).2 (T.fn 7 "point_sum" rfl).1.kp (b_point_sum (T.fn 7 "point_sum" rfl).1) (P.acons (P.v 0) (P.acons (P.v 1) P.anil)))))))
theorem sc_minus : FnScope ["point", "other"] ["point", "other"] (defScope (top 40)) := ⟨rfl, rfl, rfl, by decide +kernel, rfl, by decide +kernel, by decide +kernel⟩
theorem b_minus {K : PySem.W.Frag} {f : Addr} {fd : FuncData} (F : FnP K "minus" (top 40) f fd) : Binds K fd ["point", "other"] [] := F.bindsN fun _ _ _ _ _ _ us hl => match us, hl with | [_, _], _ => rfl
theorem ok_minus (T : Pg K mg Ad Dd) (N : Nm K mg) : FnG Pr w K mg base CX0 5 (Ad 40) (Dd 40) ["point", "other"] (spF K WF.f_minus) :=
  P.fn (T.fn 40 "minus" rfl).1 sc_minus rfl rfl fun cdv A outer s H E hg hr => by
    have hu := hr.units
    exact (P.seq (P.expr (P.call (ok_need_point T N) hg (hr.mono (by decide)) (by rfl) (T.fn 33 "need_point" rfl).2 (T.fn 33 "need_point" rfl).1.kp (b_need_point (T.fn 33 "need_point" rfl).1) (P.acons (P.v 0) P.anil))) (P.seq (P.expr (P.call (ok_need_point T N) hg (hr.mono (by decide)) (by rfl) (T.fn 33 "need_point" rfl).2 (T.fn 33 "need_point" rfl).1.kp (b_need_point (T.fn 33 "need_point" rfl).1) (P.acons (P.v 1) P.anil))) (P.last (P.ret (P.call (ok_point_gap T N) hg (hr.mono (by decide)) (by rfl) (T.fn 8 "point_gap" rfl).2 (T.fn 8 "point_gap" rfl).1.kp (b_point_gap (T.fn 8 "point_gap" rfl).1) (P.acons (P.v 0) (P.acons (P.v 1) P.anil)))))))
theorem sc_times : FnScope ["point", "fraction"] ["point", "fraction"] (defScope (top 41)) := ⟨rfl, rfl, rfl, by decide +kernel, rfl, by decide +kernel, by decide +kernel⟩
theorem b_times {K : PySem.W.Frag} {f : Addr} {fd : FuncData} (F : FnP K "times" (top 41) f fd) : Binds K fd ["point", "fraction"] [] := F.bindsN fun _ _ _ _ _ _ us hl => match us, hl with | [_, _], _ => rfl
theorem ok_times (T : Pg K mg Ad Dd) (N : Nm K mg) : FnG Pr w K mg base CX0 5 (Ad 41) (Dd 41) ["point", "fraction"] (spF K WF.f_times) :=
  P.fn (T.fn 41 "times" rfl).1 sc_times rfl rfl fun cdv A outer s H E hg hr => by
    have hu := hr.units
    exact (P.seq (P.expr (P.call (ok_need_point T N) hg (hr.mono (by decide)) (by rfl) (T.fn 33 "need_point" rfl).2 (T.fn 33 "need_point" rfl).1.kp (b_need_point (T.fn 33 "need_point" rfl).1) (P.acons (P.v 0) P.anil))) (P.seq (P.expr (P.call (ok_need_fraction T N) hg (hr.mono (by decide)) (by rfl) (T.fn 32 "need_fraction" rfl).2 (T.fn 32 "need_fraction" rfl).1.kp (b_need_fraction (T.fn 32 "need_fraction" rfl).1) (P.acons (P.v 1) P.anil))) (P.last (P.ret (P.call (ok_point_times T N) hg (hr.mono (by decide)) (by rfl) (T.fn 9 "point_times" rfl).2 (T.fn 9 "point_times" rfl).1.kp (b_point_times (T.fn 9 "point_times" rfl).1) (P.acons (P.v 0) (P.acons (P.v 1) P.anil)))))))
theorem sc_between : FnScope ["point", "other", "fraction"] ["point", "other", "fraction"] (defScope (top 42)) := ⟨rfl, rfl, rfl, by decide +kernel, rfl, by decide +kernel, by decide +kernel⟩
theorem b_between {K : PySem.W.Frag} {f : Addr} {fd : FuncData} (F : FnP K "between" (top 42) f fd) : Binds K fd ["point", "other", "fraction"] [] := F.bindsN fun _ _ _ _ _ _ us hl => match us, hl with | [_, _, _], _ => rfl
theorem ok_between (T : Pg K mg Ad Dd) (N : Nm K mg) : FnG Pr w K mg base CX0 5 (Ad 42) (Dd 42) ["point", "other", "fraction"] (spF K WF.f_between) :=
  P.fn (T.fn 42 "between" rfl).1 sc_between rfl rfl fun cdv A outer s H E hg hr => by
    have hu := hr.units
    exact (P.seq (P.expr (P.call (ok_need_point T N) hg (hr.mono (by decide)) (by rfl) (T.fn 33 "need_point" rfl).2 (T.fn 33 "need_point" rfl).1.kp (b_need_point (T.fn 33 "need_point" rfl).1) (P.acons (P.v 0) P.anil))) (P.seq (P.expr (P.call (ok_need_point T N) hg (hr.mono (by decide)) (by rfl) (T.fn 33 "need_point" rfl).2 (T.fn 33 "need_point" rfl).1.kp (b_need_point (T.fn 33 "need_point" rfl).1) (P.acons (P.v 1) P.anil))) (P.seq (P.expr (P.call (ok_need_fraction T N) hg (hr.mono (by decide)) (by rfl) (T.fn 32 "need_fraction" rfl).2 (T.fn 32 "need_fraction" rfl).1.kp (b_need_fraction (T.fn 32 "need_fraction" rfl).1) (P.acons (P.v 2) P.anil))) (P.last (P.ret (P.call (ok_point_between T N) hg (hr.mono (by decide)) (by rfl) (T.fn 10 "point_between" rfl).2 (T.fn 10 "point_between" rfl).1.kp (b_point_between (T.fn 10 "point_between" rfl).1) (P.acons (P.v 0) (P.acons (P.v 1) (P.acons (P.v 2) P.anil)))))))))
theorem sc_sense : FnScope ["point", "other", "third", "left"] ["point", "other", "third"] (defScope (top 43)) := ⟨rfl, rfl, rfl, by decide +kernel, rfl, by decide +kernel, by decide +kernel⟩
theorem b_sense {K : PySem.W.Frag} {f : Addr} {fd : FuncData} (F : FnP K "sense" (top 43) f fd) : Binds K fd ["point", "other", "third"] [] := F.bindsN fun _ _ _ _ _ _ us hl => match us, hl with | [_, _, _], _ => rfl
theorem ok_sense (T : Pg K mg Ad Dd) (N : Nm K mg) : FnG Pr w K mg base CX0 5 (Ad 43) (Dd 43) ["point", "other", "third"] (spF K WF.f_sense) :=
  P.fn (T.fn 43 "sense" rfl).1 sc_sense rfl rfl fun cdv A outer s H E hg hr => by
    have hu := hr.units
    exact (P.seq (P.expr (P.call (ok_need_point T N) hg (hr.mono (by decide)) (by rfl) (T.fn 33 "need_point" rfl).2 (T.fn 33 "need_point" rfl).1.kp (b_need_point (T.fn 33 "need_point" rfl).1) (P.acons (P.v 0) P.anil))) (P.seq (P.expr (P.call (ok_need_point T N) hg (hr.mono (by decide)) (by rfl) (T.fn 33 "need_point" rfl).2 (T.fn 33 "need_point" rfl).1.kp (b_need_point (T.fn 33 "need_point" rfl).1) (P.acons (P.v 1) P.anil))) (P.seq (P.expr (P.call (ok_need_point T N) hg (hr.mono (by decide)) (by rfl) (T.fn 33 "need_point" rfl).2 (T.fn 33 "need_point" rfl).1.kp (b_need_point (T.fn 33 "need_point" rfl).1) (P.acons (P.v 2) P.anil))) (P.seq (P.set (i := 3) sc_sense.nd rfl (by first | exact .inl rfl | exact .inr rfl) (P.call (ok_turn T N) hg (hr.mono (by decide)) (by rfl) (T.fn 15 "turn" rfl).2 (T.fn 15 "turn" rfl).1.kp (b_turn (T.fn 15 "turn" rfl).1) (P.acons (P.v 0) (P.acons (P.v 1) (P.acons (P.v 2) P.anil))))) (P.seq (P.iff (P.cmpT op_gt w2_cmp (P.v 3) P.int (nomark _)) (P.last (P.ret P.int)) P.nil) (P.seq (P.iff (P.cmpT op_lt w2_cmp (P.v 3) P.int (nomark _)) (P.last (P.ret (P.un un_neg w_neg P.int))) P.nil) (P.last (P.ret P.int))))))))
theorem sc_side_through : FnScope ["point", "other", "u", "v"] ["point", "other"] (defScope (top 44)) := ⟨rfl, rfl, rfl, by decide +kernel, rfl, by decide +kernel, by decide +kernel⟩
theorem b_side_through {K : PySem.W.Frag} {f : Addr} {fd : FuncData} (F : FnP K "side_through" (top 44) f fd) : Binds K fd ["point", "other"] [] := F.bindsN fun _ _ _ _ _ _ us hl => match us, hl with | [_, _], _ => rfl
theorem ok_side_through (T : Pg K mg Ad Dd) (N : Nm K mg) : FnG Pr w K mg base CX0 5 (Ad 44) (Dd 44) ["point", "other"] (spF K WF.f_side_through) :=
  P.fn (T.fn 44 "side_through" rfl).1 sc_side_through rfl rfl fun cdv A outer s H E hg hr => by
    have hu := hr.units
    exact (P.seq (P.expr (P.call (ok_need_point T N) hg (hr.mono (by decide)) (by rfl) (T.fn 33 "need_point" rfl).2 (T.fn 33 "need_point" rfl).1.kp (b_need_point (T.fn 33 "need_point" rfl).1) (P.acons (P.v 0) P.anil))) (P.seq (P.expr (P.call (ok_need_point T N) hg (hr.mono (by decide)) (by rfl) (T.fn 33 "need_point" rfl).2 (T.fn 33 "need_point" rfl).1.kp (b_need_point (T.fn 33 "need_point" rfl).1) (P.acons (P.v 1) P.anil))) (P.seq (P.iff (P.cmpT (op_eqP hr.units) w_eq (P.v 0) (P.v 1) (nomark _)) (P.last P.no) P.nil) (P.seq (P.asg (P.call (ok_course_to T N) hg (hr.mono (by decide)) (by rfl) (T.fn 11 "course_to" rfl).2 (T.fn 11 "course_to" rfl).1.kp (b_course_to (T.fn 11 "course_to" rfl).1) (P.acons (P.v 0) (P.acons (P.v 1) P.anil))) (P.gtup (n := 2) rfl (P.gcons (P.gnm sc_side_through.nd (i := 2) rfl (by first | exact .inl rfl | exact .inr rfl)) (P.gcons (P.gnm sc_side_through.nd (i := 3) rfl (by first | exact .inl rfl | exact .inr rfl)) P.gnil)))) (P.last (P.ret (P.call (ok_side_of T N) hg (hr.mono (by decide)) (by rfl) (T.fn 12 "side_of" rfl).2 (T.fn 12 "side_of" rfl).1.kp (b_side_of (T.fn 12 "side_of" rfl).1) (P.acons (P.v 3) (P.acons (P.un un_neg w_neg (P.v 2)) (P.acons (P.call (ok_along T N) hg (hr.mono (by decide)) (by rfl) (T.fn 13 "along" rfl).2 (T.fn 13 "along" rfl).1.kp (b_along (T.fn 13 "along" rfl).1) (P.acons (P.v 3) (P.acons (P.un un_neg w_neg (P.v 2)) (P.acons (P.v 0) P.anil)))) P.anil))))))))))
theorem sc_excess : FnScope ["side", "point"] ["side", "point"] (defScope (top 45)) := ⟨rfl, rfl, rfl, by decide +kernel, rfl, by decide +kernel, by decide +kernel⟩
theorem b_excess {K : PySem.W.Frag} {f : Addr} {fd : FuncData} (F : FnP K "excess" (top 45) f fd) : Binds K fd ["side", "point"] [] := F.bindsN fun _ _ _ _ _ _ us hl => match us, hl with | [_, _], _ => rfl
theorem ok_excess (T : Pg K mg Ad Dd) (N : Nm K mg) : FnG Pr w K mg base CX0 5 (Ad 45) (Dd 45) ["side", "point"] (spF K WF.f_excess) :=
  P.fn (T.fn 45 "excess" rfl).1 sc_excess rfl rfl fun cdv A outer s H E hg hr => by
    have hu := hr.units
    exact (P.seq (P.expr (P.call (ok_need_side T N) hg (hr.mono (by decide)) (by rfl) (T.fn 34 "need_side" rfl).2 (T.fn 34 "need_side" rfl).1.kp (b_need_side (T.fn 34 "need_side" rfl).1) (P.acons (P.v 0) P.anil))) (P.seq (P.expr (P.call (ok_need_point T N) hg (hr.mono (by decide)) (by rfl) (T.fn 33 "need_point" rfl).2 (T.fn 33 "need_point" rfl).1.kp (b_need_point (T.fn 33 "need_point" rfl).1) (P.acons (P.v 1) P.anil))) (P.last (P.ret (P.call (ok_ratio T N) hg (hr.mono (by decide)) (by rfl) (T.fn 5 "ratio" rfl).2 (T.fn 5 "ratio" rfl).1.kp (b_ratio (T.fn 5 "ratio" rfl).1) (P.acons (P.call (ok_overshoot T N) hg (hr.mono (by decide)) (by rfl) (T.fn 14 "overshoot" rfl).2 (T.fn 14 "overshoot" rfl).1.kp (b_overshoot (T.fn 14 "overshoot" rfl).1) (P.acons (P.v 0) (P.acons (P.v 1) P.anil))) (P.acons (P.ix ix_seq w_ix (P.v 1) P.int (fun _ _ => rfl)) P.anil)))))))
theorem sc__law_source : FnScope ["_law_script", "_law_turn", "_law_mixed", "_law_cell", "_law_own"] ["_law_script", "_law_turn"] (defScope (top 47)) := ⟨rfl, rfl, rfl, by decide +kernel, rfl, by decide +kernel, by decide +kernel⟩
theorem b__law_source {K : PySem.W.Frag} {f : Addr} {fd : FuncData} (F : FnP K "_law_source" (top 47) f fd) : Binds K fd ["_law_script", "_law_turn"] [] := F.bindsN fun _ _ _ _ _ _ us hl => match us, hl with | [_, _], _ => rfl
theorem ok__law_source (T : Pg K mg Ad Dd) (N : Nm K mg) : FnG Pr w K mg base CX0 1 (Ad 47) (Dd 47) ["_law_script", "_law_turn"] (spL K WF.f__law_source) :=
  P.fnl (T.fn 47 "_law_source" rfl).1 sc__law_source rfl rfl fun cdv A outer s H E hg hr => by
    have hu := hr.units
    exact (P.seq (P.set (i := 2) sc__law_source.nd rfl (by first | exact .inl rfl | exact .inr rfl) (P.op op_addA w_add P.int (P.op op_mulW w_mul P.int (P.v 1)))) (P.seq (P.for PassesOwn.never rfl (P.iter (P.sl (P.v 0) P.ono (P.osome P.int))) (P.gnm sc__law_source.nd (i := 3) rfl (by first | exact .inl rfl | exact .inr rfl)) (P.last (P.set (i := 2) sc__law_source.nd rfl (by first | exact .inl rfl | exact .inr rfl) (P.op op_mod w_mod (P.callTy call_int1 w_int (by rfl) N.n_int (by decide +kernel) (P.acons (P.op op_addA w_add (P.op op_addA w_add (P.op op_mulW w_mul (P.v 2) P.int) (P.op op_mod w_mod (P.callTy call_int1 w_int (by rfl) N.n_int (by decide +kernel) (P.acons (P.v 3) P.anil)) P.int)) P.int) P.anil)) P.int)))) (P.seq (P.set (i := 4) sc__law_source.nd rfl (by first | exact .inl rfl | exact .inr rfl) (P.ifE (P.cmpT op_lt w2_cmp (P.v 1) (P.callB call_lenA w_len (by rfl) N.n_len (by decide +kernel) (P.acons (P.v 0) P.anil)) (nomark _)) (P.callB call_abs w_abs (by rfl) N.n_abs (by decide +kernel) (P.acons (P.callTy call_int1 w_int (by rfl) N.n_int (by decide +kernel) (P.acons (P.ix ix_seq w_ix (P.v 0) (P.v 1) (fun _ _ => rfl)) P.anil)) P.anil)) P.int)) (P.last (P.retL (P.list (P.acons (P.ifE (P.cmpT op_ge w2_cmp (P.v 4) (P.op op_pow w_pow P.int P.int) (nomark _)) (P.v 4) P.int) (P.acons (P.op op_mod w_mod (P.callTy call_int1 w_int (by rfl) N.n_int (by decide +kernel) (P.acons (P.op op_addA w_add (P.v 2) (P.op op_mulW w_mul (P.op op_mod w_mod (P.callTy call_int1 w_int (by rfl) N.n_int (by decide +kernel) (P.acons (P.v 4) P.anil)) P.int) P.int)) P.anil)) P.int) (P.acons P.int P.anil)))))))))
theorem sc__law_rounds : FnScope ["_law_script"] ["_law_script"] (defScope (top 48)) := ⟨rfl, rfl, rfl, by decide +kernel, rfl, by decide +kernel, by decide +kernel⟩
theorem b__law_rounds {K : PySem.W.Frag} {f : Addr} {fd : FuncData} (F : FnP K "_law_rounds" (top 48) f fd) : Binds K fd ["_law_script"] [] := F.bindsN fun _ _ _ _ _ _ us hl => match us, hl with | [_], _ => rfl
theorem ok__law_rounds (T : Pg K mg Ad Dd) (N : Nm K mg) : FnG Pr w K mg base CX0 1 (Ad 48) (Dd 48) ["_law_script"] (spF K WF.f__law_rounds) :=
  P.fn (T.fn 48 "_law_rounds" rfl).1 sc__law_rounds rfl rfl fun cdv A outer s H E hg hr => by
    have hu := hr.units
    exact (P.last (P.ret (P.callB (call_max2 rfl) w_max (by rfl) N.n_max (by decide +kernel) (P.acons P.int (P.acons (P.callB (call_min2 rfl) w_min (by rfl) N.n_min (by decide +kernel) (P.acons (P.callB call_lenA w_len (by rfl) N.n_len (by decide +kernel) (P.acons (P.v 0) P.anil)) (P.acons P.int P.anil))) P.anil)))))
theorem sc__law_draw : FnScope ["_law_source_here", "_law_many", "_law_digit", "_law_step"] ["_law_source_here", "_law_many"] (defScope (top 49)) := ⟨rfl, rfl, rfl, by decide +kernel, rfl, by decide +kernel, by decide +kernel⟩
theorem b__law_draw {K : PySem.W.Frag} {f : Addr} {fd : FuncData} (F : FnP K "_law_draw" (top 49) f fd) : Binds K fd ["_law_source_here", "_law_many"] [] := F.bindsN fun _ _ _ _ _ _ us hl => match us, hl with | [_, _], _ => rfl
theorem ok__law_draw (T : Pg K mg Ad Dd) (N : Nm K mg) : FnG Pr w K mg base CX0 1 (Ad 49) (Dd 49) ["_law_source_here", "_law_many"] (spF K WF.f__law_draw_v2) :=
  P.fn (T.fn 49 "_law_draw" rfl).1 sc__law_draw rfl rfl fun cdv A outer s H E hg hr => by
    have hu := hr.units
    exact (P.seq (P.iff (P.cmpT op_gt w2_cmp (P.skv 0) P.int (nomark _)) (P.seq (P.asg (P.callB call_divmod w_divmod (by rfl) N.n_divmod (by decide +kernel) (P.acons (P.skv 0) (P.acons (P.v 1) P.anil))) (P.gtup (n := 2) rfl (P.gcons (P.gsubv 0) (P.gcons (P.gnm sc__law_draw.nd (i := 2) rfl (by first | exact .inl rfl | exact .inr rfl)) P.gnil)))) (P.last (P.ret (P.v 2)))) P.nil) (P.seq (P.asg (P.op op_addA w_add (P.skv 0) P.int) (P.gsubv 0)) (P.seq (P.set (i := 3) sc__law_draw.nd rfl (by first | exact .inl rfl | exact .inr rfl) (P.op op_mod w_mod (P.callTy call_int1 w_int (by rfl) N.n_int (by decide +kernel) (P.acons (P.op op_addA w_add (P.skv 0) (P.op op_mulW w_mul P.int (P.skv 0))) P.anil)) P.int)) (P.seq (P.asg (P.op op_mod w_mod (P.callTy call_int1 w_int (by rfl) N.n_int (by decide +kernel) (P.acons (P.op op_addA w_add (P.op op_mulW w_mul (P.v 3) (P.op op_addA w_add (P.op op_mod w_mod (P.callTy call_int1 w_int (by rfl) N.n_int (by decide +kernel) (P.acons (P.v 3) P.anil)) P.int) P.int)) P.int) P.anil)) P.int) (P.gsubv 0)) (P.last (P.ret (P.op op_mod w_mod (P.callTy call_int1 w_int (by rfl) N.n_int (by decide +kernel) (P.acons (P.op op_fdivW w_div (P.skv 0) P.int) P.anil)) (P.v 1))))))))
theorem sc__law_pick : FnScope ["_law_source_here", "_law_some"] ["_law_source_here", "_law_some"] (defScope (top 50)) := ⟨rfl, rfl, rfl, by decide +kernel, rfl, by decide +kernel, by decide +kernel⟩
theorem b__law_pick {K : PySem.W.Frag} {f : Addr} {fd : FuncData} (F : FnP K "_law_pick" (top 50) f fd) : Binds K fd ["_law_source_here", "_law_some"] [] := F.bindsN fun _ _ _ _ _ _ us hl => match us, hl with | [_, _], _ => rfl
theorem ok__law_pick (T : Pg K mg Ad Dd) (N : Nm K mg) : FnG Pr w K mg base CX0 2 (Ad 50) (Dd 50) ["_law_source_here", "_law_some"] (spF K WF.f__law_pick) :=
  P.fn (T.fn 50 "_law_pick" rfl).1 sc__law_pick rfl rfl fun cdv A outer s H E hg hr => by
    have hu := hr.units
    exact (P.last (P.ret (P.ix ix_seq w_ix (P.v 1) (P.call (ok__law_draw T N) hg (hr.mono (by decide)) (by rfl) (T.fn 49 "_law_draw" rfl).2 (T.fn 49 "_law_draw" rfl).1.kp (b__law_draw (T.fn 49 "_law_draw" rfl).1) (P.acons (P.v 0) (P.acons (P.callB call_lenA w_len (by rfl) N.n_len (by decide +kernel) (P.acons (P.v 1) P.anil)) P.anil))) (fun _ _ => rfl))))
theorem sc__law_least : FnScope ["_law_numbers", "_law_part_here", "_law_number", "_law_one", "_law_two"] ["_law_numbers"] (defScope (top 51)) := ⟨rfl, rfl, rfl, by decide +kernel, rfl, by decide +kernel, by decide +kernel⟩
theorem b__law_least {K : PySem.W.Frag} {f : Addr} {fd : FuncData} (F : FnP K "_law_least" (top 51) f fd) : Binds K fd ["_law_numbers"] [] := F.bindsN fun _ _ _ _ _ _ us hl => match us, hl with | [_], _ => rfl
theorem ok__law_least (T : Pg K mg Ad Dd) (N : Nm K mg) : FnG Pr w K mg base CX0 1 (Ad 51) (Dd 51) ["_law_numbers"] (spF K WF.f__law_least) :=
  P.fn (T.fn 51 "_law_least" rfl).1 sc__law_least rfl rfl fun cdv A outer s H E hg hr => by
    have hu := hr.units
    exact (P.seq (P.set (i := 1) sc__law_least.nd rfl (by first | exact .inl rfl | exact .inr rfl) P.int) (P.seq (P.for PassesOwn.never rfl (P.iter (P.v 0)) (P.gnm sc__law_least.nd (i := 2) rfl (by first | exact .inl rfl | exact .inr rfl)) (P.seq (P.par (i := 3) (j := 4) rfl sc__law_least.nd rfl rfl (by decide) rfl rfl (P.acons (P.v 1) (P.acons (P.callB call_abs w_abs (by rfl) N.n_abs (by decide +kernel) (P.acons (P.v 2) P.anil)) P.anil)) (by rfl)) (P.seq (P.while (WF.t__law_least_0) PassesOwn.never (P.cmpT op_gt w2_cmp (P.v 4) P.int (nomark _)) (P.last (P.par (i := 3) (j := 4) rfl sc__law_least.nd rfl rfl (by decide) rfl rfl (P.acons (P.v 4) (P.acons (P.op op_mod w_mod (P.callTy call_int1 w_int (by rfl) N.n_int (by decide +kernel) (P.acons (P.v 3) P.anil)) (P.v 4)) P.anil)) (by rfl)))) (P.last (P.set (i := 1) sc__law_least.nd rfl (by first | exact .inl rfl | exact .inr rfl) (P.v 3)))))) (P.last (P.ret (P.callTy call_tuple_of w_tuple (by rfl) N.n_tuple (by decide +kernel) (P.acons (P.ofL (P.lc rfl sc__law_least.nd (own := [("_law_number", 2)]) (P.iterE (P.iter (P.v 0))) (blkOk_by (own := [("_law_number", 2)]) (N := ["_law_numbers", "_law_part_here", "_law_number", "_law_one", "_law_two"]) (sc := defScope (top 51)) (by decide +kernel)) (by decide) (fun _ _ _ _ _ => (P.gnm sc__law_least.nd (i := 2) rfl (by first | exact .inl rfl | exact .inr rfl))) (fun _ _ _ _ _ => P.nif) (fun _ _ _ _ _ => (P.op op_fdivW w_div (P.v 2) (P.callB (call_max2 rfl) w_max (by rfl) N.n_max (by decide +kernel) (P.acons P.int (P.acons (P.v 1) P.anil))))))) P.anil))))))
theorem sc__law_spot : FnScope ["_law_source_here", "_law_most", "_law_low"] ["_law_source_here"] (defScope (top 52)) := ⟨rfl, rfl, rfl, by decide +kernel, rfl, by decide +kernel, by decide +kernel⟩
theorem b__law_spot {K : PySem.W.Frag} {f : Addr} {fd : FuncData} (F : FnP K "_law_spot" (top 52) f fd) : Binds K fd ["_law_source_here"] [] := F.bindsN fun _ _ _ _ _ _ us hl => match us, hl with | [_], _ => rfl
theorem ok__law_spot (T : Pg K mg Ad Dd) (N : Nm K mg) : FnG Pr w K mg base CX0 3 (Ad 52) (Dd 52) ["_law_source_here"] (spF K WF.f__law_spot_v2) :=
  P.fn (T.fn 52 "_law_spot" rfl).1 sc__law_spot rfl rfl fun cdv A outer s H E hg hr => by
    have hu := hr.units
    exact (P.seq (P.par (i := 1) (j := 2) rfl sc__law_spot.nd rfl rfl (by decide) rfl rfl (P.acons (P.call (ok__law_pick T N) hg (hr.mono (by decide)) (by rfl) (T.fn 50 "_law_pick" rfl).2 (T.fn 50 "_law_pick" rfl).1.kp (b__law_pick (T.fn 50 "_law_pick" rfl).1) (P.acons (P.v 0) (P.acons (P.tup (P.acons P.int (P.acons P.int (P.acons P.int (P.acons P.int (P.acons P.int (P.acons P.int P.anil))))))) P.anil))) (P.acons (P.call (ok__law_pick T N) hg (hr.mono (by decide)) (by rfl) (T.fn 50 "_law_pick" rfl).2 (T.fn 50 "_law_pick" rfl).1.kp (b__law_pick (T.fn 50 "_law_pick" rfl).1) (P.acons (P.v 0) (P.acons (P.tup (P.acons P.int (P.acons P.int (P.acons P.int (P.acons P.int (P.acons P.int (P.acons P.int P.anil))))))) P.anil))) P.anil)) (by rfl)) (P.last (P.ret (P.call (ok__law_least T N) hg (hr.mono (by decide)) (by rfl) (T.fn 51 "_law_least" rfl).2 (T.fn 51 "_law_least" rfl).1.kp (b__law_least (T.fn 51 "_law_least" rfl).1) (P.acons (P.tup (P.acons (P.op op_sub w_sub (P.call (ok__law_draw T N) hg (hr.mono (by decide)) (by rfl) (T.fn 49 "_law_draw" rfl).2 (T.fn 49 "_law_draw" rfl).1.kp (b__law_draw (T.fn 49 "_law_draw" rfl).1) (P.acons (P.v 0) (P.acons (P.op op_addA w_add (P.op op_mulW w_mul P.int (P.v 1)) P.int) P.anil))) (P.v 1)) (P.acons (P.op op_sub w_sub (P.call (ok__law_draw T N) hg (hr.mono (by decide)) (by rfl) (T.fn 49 "_law_draw" rfl).2 (T.fn 49 "_law_draw" rfl).1.kp (b__law_draw (T.fn 49 "_law_draw" rfl).1) (P.acons (P.v 0) (P.acons (P.op op_addA w_add (P.op op_mulW w_mul P.int (P.v 1)) P.int) P.anil))) (P.v 1)) (P.acons (P.v 2) P.anil)))) P.anil)))))
theorem sc__law_part : FnScope ["_law_top", "_law_low", "_law_found"] ["_law_top", "_law_low"] (defScope (top 53)) := ⟨rfl, rfl, rfl, by decide +kernel, rfl, by decide +kernel, by decide +kernel⟩
theorem b__law_part {K : PySem.W.Frag} {f : Addr} {fd : FuncData} (F : FnP K "_law_part" (top 53) f fd) : Binds K fd ["_law_top", "_law_low"] [] := F.bindsN fun _ _ _ _ _ _ us hl => match us, hl with | [_, _], _ => rfl
theorem ok__law_part (T : Pg K mg Ad Dd) (N : Nm K mg) : FnG Pr w K mg base CX0 2 (Ad 53) (Dd 53) ["_law_top", "_law_low"] (spF K WF.f__law_part) :=
  P.fn (T.fn 53 "_law_part" rfl).1 sc__law_part rfl rfl fun cdv A outer s H E hg hr => by
    have hu := hr.units
    exact (P.seq (P.set (i := 2) sc__law_part.nd rfl (by first | exact .inl rfl | exact .inr rfl) (P.call (ok__law_least T N) hg (hr.mono (by decide)) (by rfl) (T.fn 51 "_law_least" rfl).2 (T.fn 51 "_law_least" rfl).1.kp (b__law_least (T.fn 51 "_law_least" rfl).1) (P.acons (P.tup (P.acons (P.v 0) (P.acons (P.v 1) P.anil))) P.anil))) (P.last (P.ret (P.ifE (P.cmpT op_gt w2_cmp (P.ix ix_seq w_ix (P.v 2) P.int (fun _ _ => rfl)) P.int (nomark _)) (P.v 2) (P.tup (P.acons (P.op op_sub w_sub P.int (P.ix ix_seq w_ix (P.v 2) P.int (fun _ _ => rfl))) (P.acons (P.op op_sub w_sub P.int (P.ix ix_seq w_ix (P.v 2) P.int (fun _ _ => rfl))) P.anil)))))))
theorem sc__law_sum : FnScope ["_law_one", "_law_two"] ["_law_one", "_law_two"] (defScope (top 54)) := ⟨rfl, rfl, rfl, by decide +kernel, rfl, by decide +kernel, by decide +kernel⟩
theorem b__law_sum {K : PySem.W.Frag} {f : Addr} {fd : FuncData} (F : FnP K "_law_sum" (top 54) f fd) : Binds K fd ["_law_one", "_law_two"] [] := F.bindsN fun _ _ _ _ _ _ us hl => match us, hl with | [_, _], _ => rfl
theorem ok__law_sum (T : Pg K mg Ad Dd) (N : Nm K mg) : FnG Pr w K mg base CX0 3 (Ad 54) (Dd 54) ["_law_one", "_law_two"] (spF K WF.f__law_sum) :=
  P.fn (T.fn 54 "_law_sum" rfl).1 sc__law_sum rfl rfl fun cdv A outer s H E hg hr => by
    have hu := hr.units
    exact (P.last (P.ret (P.call (ok__law_part T N) hg (hr.mono (by decide)) (by rfl) (T.fn 53 "_law_part" rfl).2 (T.fn 53 "_law_part" rfl).1.kp (b__law_part (T.fn 53 "_law_part" rfl).1) (P.acons (P.op op_addA w_add (P.op op_mulW w_mul (P.ix ix_seq w_ix (P.v 0) P.int (fun _ _ => rfl)) (P.ix ix_seq w_ix (P.v 1) P.int (fun _ _ => rfl))) (P.op op_mulW w_mul (P.ix ix_seq w_ix (P.v 1) P.int (fun _ _ => rfl)) (P.ix ix_seq w_ix (P.v 0) P.int (fun _ _ => rfl)))) (P.acons (P.op op_mulW w_mul (P.ix ix_seq w_ix (P.v 0) P.int (fun _ _ => rfl)) (P.ix ix_seq w_ix (P.v 1) P.int (fun _ _ => rfl))) P.anil)))))
theorem sc__law_by : FnScope ["_law_one", "_law_two"] ["_law_one", "_law_two"] (defScope (top 55)) := ⟨rfl, rfl, rfl, by decide +kernel, rfl, by decide +kernel, by decide +kernel⟩
theorem b__law_by {K : PySem.W.Frag} {f : Addr} {fd : FuncData} (F : FnP K "_law_by" (top 55) f fd) : Binds K fd ["_law_one", "_law_two"] [] := F.bindsN fun _ _ _ _ _ _ us hl => match us, hl with | [_, _], _ => rfl
theorem ok__law_by (T : Pg K mg Ad Dd) (N : Nm K mg) : FnG Pr w K mg base CX0 3 (Ad 55) (Dd 55) ["_law_one", "_law_two"] (spF K WF.f__law_by) :=
  P.fn (T.fn 55 "_law_by" rfl).1 sc__law_by rfl rfl fun cdv A outer s H E hg hr => by
    have hu := hr.units
    exact (P.last (P.ret (P.call (ok__law_part T N) hg (hr.mono (by decide)) (by rfl) (T.fn 53 "_law_part" rfl).2 (T.fn 53 "_law_part" rfl).1.kp (b__law_part (T.fn 53 "_law_part" rfl).1) (P.acons (P.op op_mulW w_mul (P.ix ix_seq w_ix (P.v 0) P.int (fun _ _ => rfl)) (P.ix ix_seq w_ix (P.v 1) P.int (fun _ _ => rfl))) (P.acons (P.op op_mulW w_mul (P.ix ix_seq w_ix (P.v 0) P.int (fun _ _ => rfl)) (P.ix ix_seq w_ix (P.v 1) P.int (fun _ _ => rfl))) P.anil)))))
theorem sc__law_add : FnScope ["_law_one", "_law_two", "_law_low"] ["_law_one", "_law_two"] (defScope (top 56)) := ⟨rfl, rfl, rfl, by decide +kernel, rfl, by decide +kernel, by decide +kernel⟩
theorem b__law_add {K : PySem.W.Frag} {f : Addr} {fd : FuncData} (F : FnP K "_law_add" (top 56) f fd) : Binds K fd ["_law_one", "_law_two"] [] := F.bindsN fun _ _ _ _ _ _ us hl => match us, hl with | [_, _], _ => rfl
theorem ok__law_add (T : Pg K mg Ad Dd) (N : Nm K mg) : FnG Pr w K mg base CX0 2 (Ad 56) (Dd 56) ["_law_one", "_law_two"] (spF K WF.f__law_add_v2) :=
  P.fn (T.fn 56 "_law_add" rfl).1 sc__law_add rfl rfl fun cdv A outer s H E hg hr => by
    have hu := hr.units
    exact (P.seq (P.set (i := 2) sc__law_add.nd rfl (by first | exact .inl rfl | exact .inr rfl) (P.op op_mulW w_mul (P.ix ix_seq w_ix (P.v 0) P.int (fun _ _ => rfl)) (P.ix ix_seq w_ix (P.v 1) P.int (fun _ _ => rfl)))) (P.last (P.ret (P.call (ok__law_least T N) hg (hr.mono (by decide)) (by rfl) (T.fn 51 "_law_least" rfl).2 (T.fn 51 "_law_least" rfl).1.kp (b__law_least (T.fn 51 "_law_least" rfl).1) (P.acons (P.tup (P.acons (P.op op_addA w_add (P.op op_mulW w_mul (P.ix ix_seq w_ix (P.v 0) P.int (fun _ _ => rfl)) (P.ix ix_seq w_ix (P.v 1) P.int (fun _ _ => rfl))) (P.op op_mulW w_mul (P.ix ix_seq w_ix (P.v 1) P.int (fun _ _ => rfl)) (P.ix ix_seq w_ix (P.v 0) P.int (fun _ _ => rfl)))) (P.acons (P.op op_addA w_add (P.op op_mulW w_mul (P.ix ix_seq w_ix (P.v 0) P.int (fun _ _ => rfl)) (P.ix ix_seq w_ix (P.v 1) P.int (fun _ _ => rfl))) (P.op op_mulW w_mul (P.ix ix_seq w_ix (P.v 1) P.int (fun _ _ => rfl)) (P.ix ix_seq w_ix (P.v 0) P.int (fun _ _ => rfl)))) (P.acons (P.v 2) P.anil)))) P.anil)))))
theorem sc__law_grow : FnScope ["_law_spot_here", "_law_share_here"] ["_law_spot_here", "_law_share_here"] (defScope (top 57)) := ⟨rfl, rfl, rfl, by decide +kernel, rfl, by decide +kernel, by decide +kernel⟩
theorem b__law_grow {K : PySem.W.Frag} {f : Addr} {fd : FuncData} (F : FnP K "_law_grow" (top 57) f fd) : Binds K fd ["_law_spot_here", "_law_share_here"] [] := F.bindsN fun _ _ _ _ _ _ us hl => match us, hl with | [_, _], _ => rfl
theorem ok__law_grow (T : Pg K mg Ad Dd) (N : Nm K mg) : FnG Pr w K mg base CX0 2 (Ad 57) (Dd 57) ["_law_spot_here", "_law_share_here"] (spF K WF.f__law_grow) :=
  P.fn (T.fn 57 "_law_grow" rfl).1 sc__law_grow rfl rfl fun cdv A outer s H E hg hr => by
    have hu := hr.units
    exact (P.last (P.ret (P.call (ok__law_least T N) hg (hr.mono (by decide)) (by rfl) (T.fn 51 "_law_least" rfl).2 (T.fn 51 "_law_least" rfl).1.kp (b__law_least (T.fn 51 "_law_least" rfl).1) (P.acons (P.tup (P.acons (P.op op_mulW w_mul (P.ix ix_seq w_ix (P.v 0) P.int (fun _ _ => rfl)) (P.ix ix_seq w_ix (P.v 1) P.int (fun _ _ => rfl))) (P.acons (P.op op_mulW w_mul (P.ix ix_seq w_ix (P.v 0) P.int (fun _ _ => rfl)) (P.ix ix_seq w_ix (P.v 1) P.int (fun _ _ => rfl))) (P.acons (P.op op_mulW w_mul (P.ix ix_seq w_ix (P.v 0) P.int (fun _ _ => rfl)) (P.ix ix_seq w_ix (P.v 1) P.int (fun _ _ => rfl))) P.anil)))) P.anil))))
theorem sc__law_midway : FnScope ["_law_one", "_law_two", "_law_share_here"] ["_law_one", "_law_two", "_law_share_here"] (defScope (top 58)) := ⟨rfl, rfl, rfl, by decide +kernel, rfl, by decide +kernel, by decide +kernel⟩
theorem b__law_midway {K : PySem.W.Frag} {f : Addr} {fd : FuncData} (F : FnP K "_law_midway" (top 58) f fd) : Binds K fd ["_law_one", "_law_two", "_law_share_here"] [] := F.bindsN fun _ _ _ _ _ _ us hl => match us, hl with | [_, _, _], _ => rfl
theorem ok__law_midway (T : Pg K mg Ad Dd) (N : Nm K mg) : FnG Pr w K mg base CX0 3 (Ad 58) (Dd 58) ["_law_one", "_law_two", "_law_share_here"] (spF K WF.f__law_midway) :=
  P.fn (T.fn 58 "_law_midway" rfl).1 sc__law_midway rfl rfl fun cdv A outer s H E hg hr => by
    have hu := hr.units
    exact (P.last (P.ret (P.call (ok__law_add T N) hg (hr.mono (by decide)) (by rfl) (T.fn 56 "_law_add" rfl).2 (T.fn 56 "_law_add" rfl).1.kp (b__law_add (T.fn 56 "_law_add" rfl).1) (P.acons (P.call (ok__law_grow T N) hg (hr.mono (by decide)) (by rfl) (T.fn 57 "_law_grow" rfl).2 (T.fn 57 "_law_grow" rfl).1.kp (b__law_grow (T.fn 57 "_law_grow" rfl).1) (P.acons (P.v 0) (P.acons (P.tup (P.acons (P.op op_sub w_sub (P.ix ix_seq w_ix (P.v 2) P.int (fun _ _ => rfl)) (P.ix ix_seq w_ix (P.v 2) P.int (fun _ _ => rfl))) (P.acons (P.ix ix_seq w_ix (P.v 2) P.int (fun _ _ => rfl)) P.anil))) P.anil))) (P.acons (P.call (ok__law_grow T N) hg (hr.mono (by decide)) (by rfl) (T.fn 57 "_law_grow" rfl).2 (T.fn 57 "_law_grow" rfl).1.kp (b__law_grow (T.fn 57 "_law_grow" rfl).1) (P.acons (P.v 1) (P.acons (P.v 2) P.anil))) P.anil)))))
theorem sc__law_back : FnScope ["_law_spot_here"] ["_law_spot_here"] (defScope (top 59)) := ⟨rfl, rfl, rfl, by decide +kernel, rfl, by decide +kernel, by decide +kernel⟩
theorem b__law_back {K : PySem.W.Frag} {f : Addr} {fd : FuncData} (F : FnP K "_law_back" (top 59) f fd) : Binds K fd ["_law_spot_here"] [] := F.bindsN fun _ _ _ _ _ _ us hl => match us, hl with | [_], _ => rfl
theorem ok__law_back (T : Pg K mg Ad Dd) (N : Nm K mg) : FnG Pr w K mg base CX0 1 (Ad 59) (Dd 59) ["_law_spot_here"] (spF K WF.f__law_back) :=
  P.fn (T.fn 59 "_law_back" rfl).1 sc__law_back rfl rfl fun cdv A outer s H E hg hr => by
    have hu := hr.units
    exact (P.last (P.ret (P.tup (P.acons (P.op op_sub w_sub P.int (P.ix ix_seq w_ix (P.v 0) P.int (fun _ _ => rfl))) (P.acons (P.op op_sub w_sub P.int (P.ix ix_seq w_ix (P.v 0) P.int (fun _ _ => rfl))) (P.acons (P.ix ix_seq w_ix (P.v 0) P.int (fun _ _ => rfl)) P.anil))))))
theorem sc__law_left : FnScope ["_law_one", "_law_two", "_law_three", "_law_first"] ["_law_one", "_law_two", "_law_three"] (defScope (top 60)) := ⟨rfl, rfl, rfl, by decide +kernel, rfl, by decide +kernel, by decide +kernel⟩
theorem b__law_left {K : PySem.W.Frag} {f : Addr} {fd : FuncData} (F : FnP K "_law_left" (top 60) f fd) : Binds K fd ["_law_one", "_law_two", "_law_three"] [] := F.bindsN fun _ _ _ _ _ _ us hl => match us, hl with | [_, _, _], _ => rfl
theorem ok__law_left (T : Pg K mg Ad Dd) (N : Nm K mg) : FnG Pr w K mg base CX0 1 (Ad 60) (Dd 60) ["_law_one", "_law_two", "_law_three"] (spF K WF.f__law_left) :=
  P.fn (T.fn 60 "_law_left" rfl).1 sc__law_left rfl rfl fun cdv A outer s H E hg hr => by
    have hu := hr.units
    exact (P.seq (P.set (i := 3) sc__law_left.nd rfl (by first | exact .inl rfl | exact .inr rfl) (P.op op_sub w_sub (P.op op_mulW w_mul (P.ix ix_seq w_ix (P.v 0) P.int (fun _ _ => rfl)) (P.op op_sub w_sub (P.op op_mulW w_mul (P.ix ix_seq w_ix (P.v 1) P.int (fun _ _ => rfl)) (P.ix ix_seq w_ix (P.v 2) P.int (fun _ _ => rfl))) (P.op op_mulW w_mul (P.ix ix_seq w_ix (P.v 1) P.int (fun _ _ => rfl)) (P.ix ix_seq w_ix (P.v 2) P.int (fun _ _ => rfl))))) (P.op op_mulW w_mul (P.ix ix_seq w_ix (P.v 0) P.int (fun _ _ => rfl)) (P.op op_sub w_sub (P.op op_mulW w_mul (P.ix ix_seq w_ix (P.v 1) P.int (fun _ _ => rfl)) (P.ix ix_seq w_ix (P.v 2) P.int (fun _ _ => rfl))) (P.op op_mulW w_mul (P.ix ix_seq w_ix (P.v 1) P.int (fun _ _ => rfl)) (P.ix ix_seq w_ix (P.v 2) P.int (fun _ _ => rfl))))))) (P.last (P.ret (P.op op_addA w_add (P.v 3) (P.op op_mulW w_mul (P.ix ix_seq w_ix (P.v 0) P.int (fun _ _ => rfl)) (P.op op_sub w_sub (P.op op_mulW w_mul (P.ix ix_seq w_ix (P.v 1) P.int (fun _ _ => rfl)) (P.ix ix_seq w_ix (P.v 2) P.int (fun _ _ => rfl))) (P.op op_mulW w_mul (P.ix ix_seq w_ix (P.v 1) P.int (fun _ _ => rfl)) (P.ix ix_seq w_ix (P.v 2) P.int (fun _ _ => rfl)))))))))
theorem sc__law_side : FnScope ["_law_one", "_law_two", "_law_a", "_law_b"] ["_law_one", "_law_two"] (defScope (top 61)) := ⟨rfl, rfl, rfl, by decide +kernel, rfl, by decide +kernel, by decide +kernel⟩
theorem b__law_side {K : PySem.W.Frag} {f : Addr} {fd : FuncData} (F : FnP K "_law_side" (top 61) f fd) : Binds K fd ["_law_one", "_law_two"] [] := F.bindsN fun _ _ _ _ _ _ us hl => match us, hl with | [_, _], _ => rfl
theorem ok__law_side (T : Pg K mg Ad Dd) (N : Nm K mg) : FnG Pr w K mg base CX0 2 (Ad 61) (Dd 61) ["_law_one", "_law_two"] (spF K WF.f__law_side_v2) :=
  P.fn (T.fn 61 "_law_side" rfl).1 sc__law_side rfl rfl fun cdv A outer s H E hg hr => by
    have hu := hr.units
    exact (P.seq (P.par (i := 2) (j := 3) rfl sc__law_side.nd rfl rfl (by decide) rfl rfl (P.acons (P.op op_sub w_sub (P.op op_mulW w_mul (P.ix ix_seq w_ix (P.v 0) P.int (fun _ _ => rfl)) (P.ix ix_seq w_ix (P.v 1) P.int (fun _ _ => rfl))) (P.op op_mulW w_mul (P.ix ix_seq w_ix (P.v 0) P.int (fun _ _ => rfl)) (P.ix ix_seq w_ix (P.v 1) P.int (fun _ _ => rfl)))) (P.acons (P.op op_sub w_sub (P.op op_mulW w_mul (P.ix ix_seq w_ix (P.v 0) P.int (fun _ _ => rfl)) (P.ix ix_seq w_ix (P.v 1) P.int (fun _ _ => rfl))) (P.op op_mulW w_mul (P.ix ix_seq w_ix (P.v 0) P.int (fun _ _ => rfl)) (P.ix ix_seq w_ix (P.v 1) P.int (fun _ _ => rfl)))) P.anil)) (by rfl)) (P.last (P.ret (P.call (ok__law_least T N) hg (hr.mono (by decide)) (by rfl) (T.fn 51 "_law_least" rfl).2 (T.fn 51 "_law_least" rfl).1.kp (b__law_least (T.fn 51 "_law_least" rfl).1) (P.acons (P.tup (P.acons (P.v 2) (P.acons (P.v 3) (P.acons (P.op op_sub w_sub (P.op op_mulW w_mul (P.ix ix_seq w_ix (P.v 0) P.int (fun _ _ => rfl)) (P.ix ix_seq w_ix (P.v 1) P.int (fun _ _ => rfl))) (P.op op_mulW w_mul (P.ix ix_seq w_ix (P.v 0) P.int (fun _ _ => rfl)) (P.ix ix_seq w_ix (P.v 1) P.int (fun _ _ => rfl)))) P.anil)))) P.anil)))))
theorem sc__law_half : FnScope ["_law_gust_here"] ["_law_gust_here"] (defScope (top 62)) := ⟨rfl, rfl, rfl, by decide +kernel, rfl, by decide +kernel, by decide +kernel⟩
theorem b__law_half {K : PySem.W.Frag} {f : Addr} {fd : FuncData} (F : FnP K "_law_half" (top 62) f fd) : Binds K fd ["_law_gust_here"] [] := F.bindsN fun _ _ _ _ _ _ us hl => match us, hl with | [_], _ => rfl
theorem ok__law_half (T : Pg K mg Ad Dd) (N : Nm K mg) : FnG Pr w K mg base CX0 1 (Ad 62) (Dd 62) ["_law_gust_here"] (spF K WF.f__law_half) :=
  P.fn (T.fn 62 "_law_half" rfl).1 sc__law_half rfl rfl fun cdv A outer s H E hg hr => by
    have hu := hr.units
    exact (P.last (P.ret (P.ifE (PW.pt (P.or (P.cmpT op_gt w2_cmp (P.ix ix_seq w_ix (P.v 0) P.int (fun _ _ => rfl)) P.int (nomark _)) (P.or1 (PW.pt (P.and (P.cmpT (op_eqP hr.units) w_eq (P.ix ix_seq w_ix (P.v 0) P.int (fun _ _ => rfl)) P.int (nomark _)) (P.and1 (P.cmpT op_gt w2_cmp (P.ix ix_seq w_ix (P.v 0) P.int (fun _ _ => rfl)) P.int (nomark _)))))))) P.int P.int)))
theorem sc__law_before : FnScope ["_law_one", "_law_two"] ["_law_one", "_law_two"] (defScope (top 63)) := ⟨rfl, rfl, rfl, by decide +kernel, rfl, by decide +kernel, by decide +kernel⟩
theorem b__law_before {K : PySem.W.Frag} {f : Addr} {fd : FuncData} (F : FnP K "_law_before" (top 63) f fd) : Binds K fd ["_law_one", "_law_two"] [] := F.bindsN fun _ _ _ _ _ _ us hl => match us, hl with | [_, _], _ => rfl
theorem ok__law_before (T : Pg K mg Ad Dd) (N : Nm K mg) : FnG Pr w K mg base CX0 2 (Ad 63) (Dd 63) ["_law_one", "_law_two"] (spF K WF.f__law_before) :=
  P.fn (T.fn 63 "_law_before" rfl).1 sc__law_before rfl rfl fun cdv A outer s H E hg hr => by
    have hu := hr.units
    exact (P.seq (P.iff (P.cmpT (op_neP hr.units) w_ne (P.call (ok__law_half T N) hg (hr.mono (by decide)) (by rfl) (T.fn 62 "_law_half" rfl).2 (T.fn 62 "_law_half" rfl).1.kp (b__law_half (T.fn 62 "_law_half" rfl).1) (P.acons (P.v 0) P.anil)) (P.call (ok__law_half T N) hg (hr.mono (by decide)) (by rfl) (T.fn 62 "_law_half" rfl).2 (T.fn 62 "_law_half" rfl).1.kp (b__law_half (T.fn 62 "_law_half" rfl).1) (P.acons (P.v 1) P.anil)) (nomark _)) (P.last (P.ret (P.cmp op_lt w2_cmp (P.call (ok__law_half T N) hg (hr.mono (by decide)) (by rfl) (T.fn 62 "_law_half" rfl).2 (T.fn 62 "_law_half" rfl).1.kp (b__law_half (T.fn 62 "_law_half" rfl).1) (P.acons (P.v 0) P.anil)) (P.call (ok__law_half T N) hg (hr.mono (by decide)) (by rfl) (T.fn 62 "_law_half" rfl).2 (T.fn 62 "_law_half" rfl).1.kp (b__law_half (T.fn 62 "_law_half" rfl).1) (P.acons (P.v 1) P.anil)) (nomark _)))) P.nil) (P.last (P.ret (P.cmp op_gt w2_cmp (P.op op_sub w_sub (P.op op_mulW w_mul (P.ix ix_seq w_ix (P.v 0) P.int (fun _ _ => rfl)) (P.ix ix_seq w_ix (P.v 1) P.int (fun _ _ => rfl))) (P.op op_mulW w_mul (P.ix ix_seq w_ix (P.v 0) P.int (fun _ _ => rfl)) (P.ix ix_seq w_ix (P.v 1) P.int (fun _ _ => rfl)))) P.int (nomark _)))))
theorem sc__law_gust : FnScope ["_law_source_here", "_law_most", "_law_found"] ["_law_source_here"] (defScope (top 64)) := ⟨rfl, rfl, rfl, by decide +kernel, rfl, by decide +kernel, by decide +kernel⟩
theorem b__law_gust {K : PySem.W.Frag} {f : Addr} {fd : FuncData} (F : FnP K "_law_gust" (top 64) f fd) : Binds K fd ["_law_source_here"] [] := F.bindsN fun _ _ _ _ _ _ us hl => match us, hl with | [_], _ => rfl
theorem ok__law_gust (T : Pg K mg Ad Dd) (N : Nm K mg) : FnG Pr w K mg base CX0 3 (Ad 64) (Dd 64) ["_law_source_here"] (spF K WF.f__law_gust) :=
  P.fn (T.fn 64 "_law_gust" rfl).1 sc__law_gust rfl rfl fun cdv A outer s H E hg hr => by
    have hu := hr.units
    exact (P.seq (P.set (i := 1) sc__law_gust.nd rfl (by first | exact .inl rfl | exact .inr rfl) (P.call (ok__law_pick T N) hg (hr.mono (by decide)) (by rfl) (T.fn 50 "_law_pick" rfl).2 (T.fn 50 "_law_pick" rfl).1.kp (b__law_pick (T.fn 50 "_law_pick" rfl).1) (P.acons (P.v 0) (P.acons (P.tup (P.acons P.int (P.acons P.int (P.acons P.int (P.acons P.int (P.acons P.int (P.acons P.int P.anil))))))) P.anil)))) (P.seq (P.set (i := 2) sc__law_gust.nd rfl (by first | exact .inl rfl | exact .inr rfl) (P.tup (P.acons (P.op op_sub w_sub (P.call (ok__law_draw T N) hg (hr.mono (by decide)) (by rfl) (T.fn 49 "_law_draw" rfl).2 (T.fn 49 "_law_draw" rfl).1.kp (b__law_draw (T.fn 49 "_law_draw" rfl).1) (P.acons (P.v 0) (P.acons (P.op op_addA w_add (P.op op_mulW w_mul P.int (P.v 1)) P.int) P.anil))) (P.v 1)) (P.acons (P.op op_sub w_sub (P.call (ok__law_draw T N) hg (hr.mono (by decide)) (by rfl) (T.fn 49 "_law_draw" rfl).2 (T.fn 49 "_law_draw" rfl).1.kp (b__law_draw (T.fn 49 "_law_draw" rfl).1) (P.acons (P.v 0) (P.acons (P.op op_addA w_add (P.op op_mulW w_mul P.int (P.v 1)) P.int) P.anil))) (P.v 1)) P.anil)))) (P.last (P.ret (P.ifE (P.cmpT (op_neP hr.units) w_ne (P.v 2) (P.tup (P.acons P.int (P.acons P.int P.anil))) (nomark _)) (P.call (ok__law_least T N) hg (hr.mono (by decide)) (by rfl) (T.fn 51 "_law_least" rfl).2 (T.fn 51 "_law_least" rfl).1.kp (b__law_least (T.fn 51 "_law_least" rfl).1) (P.acons (P.v 2) P.anil)) (P.tup (P.acons P.int (P.acons P.int P.anil))))))))
theorem sc__law_share : FnScope ["_law_source_here"] ["_law_source_here"] (defScope (top 65)) := ⟨rfl, rfl, rfl, by decide +kernel, rfl, by decide +kernel, by decide +kernel⟩
theorem b__law_share {K : PySem.W.Frag} {f : Addr} {fd : FuncData} (F : FnP K "_law_share" (top 65) f fd) : Binds K fd ["_law_source_here"] [] := F.bindsN fun _ _ _ _ _ _ us hl => match us, hl with | [_], _ => rfl
theorem ok__law_share (T : Pg K mg Ad Dd) (N : Nm K mg) : FnG Pr w K mg base CX0 3 (Ad 65) (Dd 65) ["_law_source_here"] (spF K WF.f__law_share) :=
  P.fn (T.fn 65 "_law_share" rfl).1 sc__law_share rfl rfl fun cdv A outer s H E hg hr => by
    have hu := hr.units
    exact (P.last (P.ret (P.call (ok__law_part T N) hg (hr.mono (by decide)) (by rfl) (T.fn 53 "_law_part" rfl).2 (T.fn 53 "_law_part" rfl).1.kp (b__law_part (T.fn 53 "_law_part" rfl).1) (P.acons (P.op op_sub w_sub (P.call (ok__law_draw T N) hg (hr.mono (by decide)) (by rfl) (T.fn 49 "_law_draw" rfl).2 (T.fn 49 "_law_draw" rfl).1.kp (b__law_draw (T.fn 49 "_law_draw" rfl).1) (P.acons (P.v 0) (P.acons P.int P.anil))) P.int) (P.acons (P.op op_addA w_add P.int (P.call (ok__law_draw T N) hg (hr.mono (by decide)) (by rfl) (T.fn 49 "_law_draw" rfl).2 (T.fn 49 "_law_draw" rfl).1.kp (b__law_draw (T.fn 49 "_law_draw" rfl).1) (P.acons (P.v 0) (P.acons P.int P.anil)))) P.anil)))))
theorem sc__law_sums_right : FnScope ["_law_one", "_law_two", "_law_share_here", "_law_told", "_law_first", "_law_second"] ["_law_one", "_law_two", "_law_share_here"] (defScope (top 66)) := ⟨rfl, rfl, rfl, by decide +kernel, rfl, by decide +kernel, by decide +kernel⟩
theorem b__law_sums_right {K : PySem.W.Frag} {f : Addr} {fd : FuncData} (F : FnP K "_law_sums_right" (top 66) f fd) : Binds K fd ["_law_one", "_law_two", "_law_share_here"] [] := F.bindsN fun _ _ _ _ _ _ us hl => match us, hl with | [_, _, _], _ => rfl
theorem ok__law_sums_right (T : Pg K mg Ad Dd) (N : Nm K mg) : FnG Pr w K mg base CX0 6 (Ad 66) (Dd 66) ["_law_one", "_law_two", "_law_share_here"] (spF K WF.f__law_sums_right) :=
  P.fn (T.fn 66 "_law_sums_right" rfl).1 sc__law_sums_right rfl rfl fun cdv A outer s H E hg hr => by
    have hu := hr.units
    exact (P.seq (P.set (i := 3) sc__law_sums_right.nd rfl (by first | exact .inl rfl | exact .inr rfl) (P.call (ok_plus T N) hg (hr.mono (by decide)) (by rfl) (T.fn 39 "plus" rfl).2 (T.fn 39 "plus" rfl).1.kp (b_plus (T.fn 39 "plus" rfl).1) (P.acons (P.v 0) (P.acons (P.v 1) P.anil)))) (P.seq (P.iff (P.cmpT (op_neP hr.units) w_ne (P.callB (call_reprD hg hr.units) w_repr (by rfl) N.n_repr (by decide +kernel) (P.acons (P.ofL (P.list (P.acons (P.v 3) (P.acons (P.callK (ks := ["point", "other"]) [0, 1] (ok_plus T N) hg (hr.mono (by decide)) (by rfl) (T.fn 39 "plus" rfl).2 (T.fn 39 "plus" rfl).1.kp (kw_plus_0_1 (T.fn 39 "plus" rfl).1) (P.kcons (P.v 1) (P.kcons (P.v 0) P.knil)) (fun _ _ _ _ h => acs2 h)) (P.acons (P.call (ok_minus T N) hg (hr.mono (by decide)) (by rfl) (T.fn 40 "minus" rfl).2 (T.fn 40 "minus" rfl).1.kp (b_minus (T.fn 40 "minus" rfl).1) (P.acons (P.v 3) (P.acons (P.v 1) P.anil))) P.anil))))) P.anil)) (P.callB (call_reprD hg hr.units) w_repr (by rfl) N.n_repr (by decide +kernel) (P.acons (P.ofL (P.list (P.acons (P.call (ok__law_add T N) hg (hr.mono (by decide)) (by rfl) (T.fn 56 "_law_add" rfl).2 (T.fn 56 "_law_add" rfl).1.kp (b__law_add (T.fn 56 "_law_add" rfl).1) (P.acons (P.v 0) (P.acons (P.v 1) P.anil))) (P.acons (P.v 3) (P.acons (P.v 0) P.anil))))) P.anil)) (nomark _)) (P.last (P.ret P.bl)) P.nil) (P.seq (P.iff (P.cmpT (op_neP hr.units) w_ne (P.callB (call_reprD hg hr.units) w_repr (by rfl) N.n_repr (by decide +kernel) (P.acons (P.ofL (P.list (P.acons (P.callK (ks := ["point", "other"]) [0, 1] (ok_minus T N) hg (hr.mono (by decide)) (by rfl) (T.fn 40 "minus" rfl).2 (T.fn 40 "minus" rfl).1.kp (kw_minus_0_1 (T.fn 40 "minus" rfl).1) (P.kcons (P.v 0) (P.kcons (P.v 1) P.knil)) (fun _ _ _ _ h => acs2 h)) (P.acons (P.call (ok_minus T N) hg (hr.mono (by decide)) (by rfl) (T.fn 40 "minus" rfl).2 (T.fn 40 "minus" rfl).1.kp (b_minus (T.fn 40 "minus" rfl).1) (P.acons (P.v 0) (P.acons (P.v 0) P.anil))) P.anil)))) P.anil)) (P.callB (call_reprD hg hr.units) w_repr (by rfl) N.n_repr (by decide +kernel) (P.acons (P.ofL (P.list (P.acons (P.call (ok__law_add T N) hg (hr.mono (by decide)) (by rfl) (T.fn 56 "_law_add" rfl).2 (T.fn 56 "_law_add" rfl).1.kp (b__law_add (T.fn 56 "_law_add" rfl).1) (P.acons (P.v 0) (P.acons (P.call (ok__law_back T N) hg (hr.mono (by decide)) (by rfl) (T.fn 59 "_law_back" rfl).2 (T.fn 59 "_law_back" rfl).1.kp (b__law_back (T.fn 59 "_law_back" rfl).1) (P.acons (P.v 1) P.anil)) P.anil))) (P.acons (P.tup (P.acons P.int (P.acons P.int (P.acons P.int P.anil)))) P.anil)))) P.anil)) (nomark _)) (P.last (P.ret P.bl)) P.nil) (P.seq (P.set (i := 3) sc__law_sums_right.nd rfl (by first | exact .inl rfl | exact .inr rfl) (P.call (ok_times T N) hg (hr.mono (by decide)) (by rfl) (T.fn 41 "times" rfl).2 (T.fn 41 "times" rfl).1.kp (b_times (T.fn 41 "times" rfl).1) (P.acons (P.v 0) (P.acons (P.v 2) P.anil)))) (P.seq (P.iff (P.cmpT (op_neP hr.units) w_ne (P.callB (call_reprD hg hr.units) w_repr (by rfl) N.n_repr (by decide +kernel) (P.acons (P.ofL (P.list (P.acons (P.v 3) (P.acons (P.callK (ks := ["point", "fraction"]) [0, 1] (ok_times T N) hg (hr.mono (by decide)) (by rfl) (T.fn 41 "times" rfl).2 (T.fn 41 "times" rfl).1.kp (kw_times_0_1 (T.fn 41 "times" rfl).1) (P.kcons (P.v 0) (P.kcons (P.tup (P.acons P.int (P.acons P.int P.anil))) P.knil)) (fun _ _ _ _ h => acs2 h)) P.anil)))) P.anil)) (P.callB (call_reprD hg hr.units) w_repr (by rfl) N.n_repr (by decide +kernel) (P.acons (P.ofL (P.list (P.acons (P.call (ok__law_grow T N) hg (hr.mono (by decide)) (by rfl) (T.fn 57 "_law_grow" rfl).2 (T.fn 57 "_law_grow" rfl).1.kp (b__law_grow (T.fn 57 "_law_grow" rfl).1) (P.acons (P.v 0) (P.acons (P.v 2) P.anil))) (P.acons (P.v 0) P.anil)))) P.anil)) (nomark _)) (P.last (P.ret P.bl)) P.nil) (P.seq (P.iff (PW.pt (P.and (P.cmpT (op_neP hr.units) w_ne (P.ix ix_seq w_ix (P.v 2) P.int (fun _ _ => rfl)) P.int (nomark _)) (P.and1 (P.cmpT (op_neP hr.units) w_ne (P.callB (call_reprD hg hr.units) w_repr (by rfl) N.n_repr (by decide +kernel) (P.acons (P.call (ok_times T N) hg (hr.mono (by decide)) (by rfl) (T.fn 41 "times" rfl).2 (T.fn 41 "times" rfl).1.kp (b_times (T.fn 41 "times" rfl).1) (P.acons (P.v 3) (P.acons (P.call (ok__law_part T N) hg (hr.mono (by decide)) (by rfl) (T.fn 53 "_law_part" rfl).2 (T.fn 53 "_law_part" rfl).1.kp (b__law_part (T.fn 53 "_law_part" rfl).1) (P.acons (P.ix ix_seq w_ix (P.v 2) P.int (fun _ _ => rfl)) (P.acons (P.ix ix_seq w_ix (P.v 2) P.int (fun _ _ => rfl)) P.anil))) P.anil))) P.anil)) (P.callB (call_reprD hg hr.units) w_repr (by rfl) N.n_repr (by decide +kernel) (P.acons (P.v 0) P.anil)) (nomark _))))) (P.last (P.ret P.bl)) P.nil) (P.seq (P.par (i := 4) (j := 5) rfl sc__law_sums_right.nd rfl rfl (by decide) rfl rfl (P.acons (P.call (ok__law_part T N) hg (hr.mono (by decide)) (by rfl) (T.fn 53 "_law_part" rfl).2 (T.fn 53 "_law_part" rfl).1.kp (b__law_part (T.fn 53 "_law_part" rfl).1) (P.acons (P.ix ix_seq w_ix (P.v 0) P.int (fun _ _ => rfl)) (P.acons (P.ix ix_seq w_ix (P.v 0) P.int (fun _ _ => rfl)) P.anil))) (P.acons (P.call (ok__law_part T N) hg (hr.mono (by decide)) (by rfl) (T.fn 53 "_law_part" rfl).2 (T.fn 53 "_law_part" rfl).1.kp (b__law_part (T.fn 53 "_law_part" rfl).1) (P.acons (P.ix ix_seq w_ix (P.v 0) P.int (fun _ _ => rfl)) (P.acons (P.ix ix_seq w_ix (P.v 0) P.int (fun _ _ => rfl)) P.anil))) P.anil)) (by rfl)) (P.last (P.ret (P.cmp (op_eqP hr.units) w_eq (P.callB (call_reprD hg hr.units) w_repr (by rfl) N.n_repr (by decide +kernel) (P.acons (P.ofL (P.list (P.acons (P.call (ok_point_at T N) hg (hr.mono (by decide)) (by rfl) (T.fn 38 "point_at" rfl).2 (T.fn 38 "point_at" rfl).1.kp (b_point_at (T.fn 38 "point_at" rfl).1) (P.acons (P.v 4) (P.acons (P.v 5) P.anil))) (P.acons (P.callK (ks := ["north", "east"]) [1, 0] (ok_point_at T N) hg (hr.mono (by decide)) (by rfl) (T.fn 38 "point_at" rfl).2 (T.fn 38 "point_at" rfl).1.kp (kw_point_at_1_0 (T.fn 38 "point_at" rfl).1) (P.kcons (P.v 4) (P.kcons (P.v 5) P.knil)) (fun _ _ _ _ h => acs2 h)) P.anil)))) P.anil)) (P.callB (call_reprD hg hr.units) w_repr (by rfl) N.n_repr (by decide +kernel) (P.acons (P.ofL (P.list (P.acons (P.v 0) (P.acons (P.tup (P.acons (P.ix ix_seq w_ix (P.v 0) P.int (fun _ _ => rfl)) (P.acons (P.ix ix_seq w_ix (P.v 0) P.int (fun _ _ => rfl)) (P.acons (P.ix ix_seq w_ix (P.v 0) P.int (fun _ _ => rfl)) P.anil)))) P.anil)))) P.anil)) (nomark _)))))))))))
theorem sc__law_between_right : FnScope ["_law_one", "_law_two", "_law_share_here", "_law_more", "_law_told"] ["_law_one", "_law_two", "_law_share_here", "_law_more"] (defScope (top 67)) := ⟨rfl, rfl, rfl, by decide +kernel, rfl, by decide +kernel, by decide +kernel⟩
theorem b__law_between_right {K : PySem.W.Frag} {f : Addr} {fd : FuncData} (F : FnP K "_law_between_right" (top 67) f fd) : Binds K fd ["_law_one", "_law_two", "_law_share_here", "_law_more"] [] := F.bindsN fun _ _ _ _ _ _ us hl => match us, hl with | [_, _, _, _], _ => rfl
theorem ok__law_between_right (T : Pg K mg Ad Dd) (N : Nm K mg) : FnG Pr w K mg base CX0 6 (Ad 67) (Dd 67) ["_law_one", "_law_two", "_law_share_here", "_law_more"] (spF K WF.f__law_between_right) :=
  P.fn (T.fn 67 "_law_between_right" rfl).1 sc__law_between_right rfl rfl fun cdv A outer s H E hg hr => by
    have hu := hr.units
    exact (P.seq (P.set (i := 4) sc__law_between_right.nd rfl (by first | exact .inl rfl | exact .inr rfl) (P.call (ok_between T N) hg (hr.mono (by decide)) (by rfl) (T.fn 42 "between" rfl).2 (T.fn 42 "between" rfl).1.kp (b_between (T.fn 42 "between" rfl).1) (P.acons (P.v 0) (P.acons (P.v 1) (P.acons (P.v 2) P.anil))))) (P.seq (P.iff (P.cmpT (op_neP hr.units) w_ne (P.callB (call_reprD hg hr.units) w_repr (by rfl) N.n_repr (by decide +kernel) (P.acons (P.v 4) P.anil)) (P.callB (call_reprD hg hr.units) w_repr (by rfl) N.n_repr (by decide +kernel) (P.acons (P.call (ok__law_midway T N) hg (hr.mono (by decide)) (by rfl) (T.fn 58 "_law_midway" rfl).2 (T.fn 58 "_law_midway" rfl).1.kp (b__law_midway (T.fn 58 "_law_midway" rfl).1) (P.acons (P.v 0) (P.acons (P.v 1) (P.acons (P.v 2) P.anil)))) P.anil)) (nomark _)) (P.last (P.ret P.bl)) P.nil) (P.seq (P.iff (P.cmpT (op_neP hr.units) w_ne (P.callB (call_reprD hg hr.units) w_repr (by rfl) N.n_repr (by decide +kernel) (P.acons (P.callK (ks := ["point", "other", "fraction"]) [0, 1, 2] (ok_between T N) hg (hr.mono (by decide)) (by rfl) (T.fn 42 "between" rfl).2 (T.fn 42 "between" rfl).1.kp (kw_between_0_1_2 (T.fn 42 "between" rfl).1) (P.kcons (P.v 1) (P.kcons (P.v 0) (P.kcons (P.call (ok__law_sum T N) hg (hr.mono (by decide)) (by rfl) (T.fn 54 "_law_sum" rfl).2 (T.fn 54 "_law_sum" rfl).1.kp (b__law_sum (T.fn 54 "_law_sum" rfl).1) (P.acons (P.tup (P.acons P.int (P.acons P.int P.anil))) (P.acons (P.tup (P.acons (P.op op_sub w_sub P.int (P.ix ix_seq w_ix (P.v 2) P.int (fun _ _ => rfl))) (P.acons (P.ix ix_seq w_ix (P.v 2) P.int (fun _ _ => rfl)) P.anil))) P.anil))) P.knil))) (fun _ _ _ _ h => acs3 h)) P.anil)) (P.callB (call_reprD hg hr.units) w_repr (by rfl) N.n_repr (by decide +kernel) (P.acons (P.v 4) P.anil)) (nomark _)) (P.last (P.ret P.bl)) P.nil) (P.seq (P.iff (P.cmpT (op_neP hr.units) w_ne (P.callB (call_reprD hg hr.units) w_repr (by rfl) N.n_repr (by decide +kernel) (P.acons (P.ofL (P.list (P.acons (P.call (ok_between T N) hg (hr.mono (by decide)) (by rfl) (T.fn 42 "between" rfl).2 (T.fn 42 "between" rfl).1.kp (b_between (T.fn 42 "between" rfl).1) (P.acons (P.v 0) (P.acons (P.v 1) (P.acons (P.tup (P.acons P.int (P.acons P.int P.anil))) P.anil)))) (P.acons (P.call (ok_between T N) hg (hr.mono (by decide)) (by rfl) (T.fn 42 "between" rfl).2 (T.fn 42 "between" rfl).1.kp (b_between (T.fn 42 "between" rfl).1) (P.acons (P.v 0) (P.acons (P.v 1) (P.acons (P.tup (P.acons P.int (P.acons P.int P.anil))) P.anil)))) P.anil)))) P.anil)) (P.callB (call_reprD hg hr.units) w_repr (by rfl) N.n_repr (by decide +kernel) (P.acons (P.ofL (P.list (P.acons (P.v 0) (P.acons (P.v 1) P.anil)))) P.anil)) (nomark _)) (P.last (P.ret P.bl)) P.nil) (P.last (P.ret (P.cmp (op_eqP hr.units) w_eq (P.callB (call_reprD hg hr.units) w_repr (by rfl) N.n_repr (by decide +kernel) (P.acons (P.call (ok_between T N) hg (hr.mono (by decide)) (by rfl) (T.fn 42 "between" rfl).2 (T.fn 42 "between" rfl).1.kp (b_between (T.fn 42 "between" rfl).1) (P.acons (P.v 0) (P.acons (P.v 4) (P.acons (P.v 3) P.anil)))) P.anil)) (P.callB (call_reprD hg hr.units) w_repr (by rfl) N.n_repr (by decide +kernel) (P.acons (P.call (ok_between T N) hg (hr.mono (by decide)) (by rfl) (T.fn 42 "between" rfl).2 (T.fn 42 "between" rfl).1.kp (b_between (T.fn 42 "between" rfl).1) (P.acons (P.v 0) (P.acons (P.v 1) (P.acons (P.call (ok__law_by T N) hg (hr.mono (by decide)) (by rfl) (T.fn 55 "_law_by" rfl).2 (T.fn 55 "_law_by" rfl).1.kp (b__law_by (T.fn 55 "_law_by" rfl).1) (P.acons (P.v 2) (P.acons (P.v 3) P.anil))) P.anil)))) P.anil)) (nomark _))))))))
theorem sc__law_senses_right : FnScope ["_law_one", "_law_two", "_law_three", "_law_whole", "_law_due", "_law_told", "_law_rim", "_law_opposite", "_law_gap"] ["_law_one", "_law_two", "_law_three"] (defScope (top 68)) := ⟨rfl, rfl, rfl, by decide +kernel, rfl, by decide +kernel, by decide +kernel⟩
theorem b__law_senses_right {K : PySem.W.Frag} {f : Addr} {fd : FuncData} (F : FnP K "_law_senses_right" (top 68) f fd) : Binds K fd ["_law_one", "_law_two", "_law_three"] [] := F.bindsN fun _ _ _ _ _ _ us hl => match us, hl with | [_, _, _], _ => rfl
theorem ok__law_senses_right (T : Pg K mg Ad Dd) (N : Nm K mg) : FnG Pr w K mg base CX0 6 (Ad 68) (Dd 68) ["_law_one", "_law_two", "_law_three"] (spF K WF.f__law_senses_right) :=
  P.fn (T.fn 68 "_law_senses_right" rfl).1 sc__law_senses_right rfl rfl fun cdv A outer s H E hg hr => by
    have hu := hr.units
    exact (P.seq (P.set (i := 3) sc__law_senses_right.nd rfl (by first | exact .inl rfl | exact .inr rfl) (P.call (ok__law_left T N) hg (hr.mono (by decide)) (by rfl) (T.fn 60 "_law_left" rfl).2 (T.fn 60 "_law_left" rfl).1.kp (b__law_left (T.fn 60 "_law_left" rfl).1) (P.acons (P.v 0) (P.acons (P.v 1) (P.acons (P.v 2) P.anil))))) (P.seq (P.set (i := 4) sc__law_senses_right.nd rfl (by first | exact .inl rfl | exact .inr rfl) (P.op op_sub w_sub (P.callTy call_int1 w_int (by rfl) N.n_int (by decide +kernel) (P.acons (P.cmp op_gt w2_cmp (P.v 3) P.int (nomark _)) P.anil)) (P.callTy call_int1 w_int (by rfl) N.n_int (by decide +kernel) (P.acons (P.cmp op_lt w2_cmp (P.v 3) P.int (nomark _)) P.anil)))) (P.seq (P.set (i := 5) sc__law_senses_right.nd rfl (by first | exact .inl rfl | exact .inr rfl) (P.ofL (P.list (P.acons (P.call (ok_sense T N) hg (hr.mono (by decide)) (by rfl) (T.fn 43 "sense" rfl).2 (T.fn 43 "sense" rfl).1.kp (b_sense (T.fn 43 "sense" rfl).1) (P.acons (P.v 0) (P.acons (P.v 1) (P.acons (P.v 2) P.anil)))) (P.acons (P.call (ok_sense T N) hg (hr.mono (by decide)) (by rfl) (T.fn 43 "sense" rfl).2 (T.fn 43 "sense" rfl).1.kp (b_sense (T.fn 43 "sense" rfl).1) (P.acons (P.v 1) (P.acons (P.v 2) (P.acons (P.v 0) P.anil)))) (P.acons (P.callK (ks := ["point", "other", "third"]) [0, 1, 2] (ok_sense T N) hg (hr.mono (by decide)) (by rfl) (T.fn 43 "sense" rfl).2 (T.fn 43 "sense" rfl).1.kp (kw_sense_0_1_2 (T.fn 43 "sense" rfl).1) (P.kcons (P.v 1) (P.kcons (P.v 0) (P.kcons (P.v 2) P.knil))) (fun _ _ _ _ h => acs3 h)) P.anil)))))) (P.seq (P.iff (PW.pt (P.or (P.cmpT (op_neP hr.units) w_ne (P.callB (call_reprD hg hr.units) w_repr (by rfl) N.n_repr (by decide +kernel) (P.acons (P.v 5) P.anil)) (P.callB (call_reprD hg hr.units) w_repr (by rfl) N.n_repr (by decide +kernel) (P.acons (P.ofL (P.list (P.acons (P.v 4) (P.acons (P.v 4) (P.acons (P.op op_sub w_sub P.int (P.v 4)) P.anil))))) P.anil)) (nomark _)) (P.or1 (P.cmpT (op_neP hr.units) w_ne (P.callB (call_reprD hg hr.units) w_repr (by rfl) N.n_repr (by decide +kernel) (P.acons (P.ofL (P.list (P.acons (P.call (ok_sense T N) hg (hr.mono (by decide)) (by rfl) (T.fn 43 "sense" rfl).2 (T.fn 43 "sense" rfl).1.kp (b_sense (T.fn 43 "sense" rfl).1) (P.acons (P.v 0) (P.acons (P.v 0) (P.acons (P.v 2) P.anil)))) (P.acons (P.call (ok_sense T N) hg (hr.mono (by decide)) (by rfl) (T.fn 43 "sense" rfl).2 (T.fn 43 "sense" rfl).1.kp (b_sense (T.fn 43 "sense" rfl).1) (P.acons (P.v 0) (P.acons (P.v 1) (P.acons (P.v 1) P.anil)))) P.anil)))) P.anil)) P.str (nomark _))))) (P.last (P.ret P.bl)) P.nil) (P.seq (P.iff (P.cmpT (op_eqP hr.units) w_eq (P.v 0) (P.v 1) (nomark _)) (P.last (P.ret P.bl)) P.nil) (P.seq (P.set (i := 6) sc__law_senses_right.nd rfl (by first | exact .inl rfl | exact .inr rfl) (P.call (ok_side_through T N) hg (hr.mono (by decide)) (by rfl) (T.fn 44 "side_through" rfl).2 (T.fn 44 "side_through" rfl).1.kp (b_side_through (T.fn 44 "side_through" rfl).1) (P.acons (P.v 0) (P.acons (P.v 1) P.anil)))) (P.seq (P.set (i := 7) sc__law_senses_right.nd rfl (by first | exact .inl rfl | exact .inr rfl) (P.callK (ks := ["point", "other"]) [0, 1] (ok_side_through T N) hg (hr.mono (by decide)) (by rfl) (T.fn 44 "side_through" rfl).2 (T.fn 44 "side_through" rfl).1.kp (kw_side_through_0_1 (T.fn 44 "side_through" rfl).1) (P.kcons (P.v 1) (P.kcons (P.v 0) P.knil)) (fun _ _ _ _ h => acs2 h))) (P.seq (P.iff (P.cmpT (op_neP hr.units) w_ne (P.callB (call_reprD hg hr.units) w_repr (by rfl) N.n_repr (by decide +kernel) (P.acons (P.ofL (P.list (P.acons (P.v 6) (P.acons (P.v 7) P.anil)))) P.anil)) (P.callB (call_reprD hg hr.units) w_repr (by rfl) N.n_repr (by decide +kernel) (P.acons (P.ofL (P.list (P.acons (P.call (ok__law_side T N) hg (hr.mono (by decide)) (by rfl) (T.fn 61 "_law_side" rfl).2 (T.fn 61 "_law_side" rfl).1.kp (b__law_side (T.fn 61 "_law_side" rfl).1) (P.acons (P.v 0) (P.acons (P.v 1) P.anil))) (P.acons (P.call (ok__law_side T N) hg (hr.mono (by decide)) (by rfl) (T.fn 61 "_law_side" rfl).2 (T.fn 61 "_law_side" rfl).1.kp (b__law_side (T.fn 61 "_law_side" rfl).1) (P.acons (P.v 1) (P.acons (P.v 0) P.anil))) P.anil)))) P.anil)) (nomark _)) (P.last (P.ret P.bl)) P.nil) (P.seq (P.set (i := 8) sc__law_senses_right.nd rfl (by first | exact .inl rfl | exact .inr rfl) (P.op op_sub w_sub (P.op op_addA w_add (P.op op_mulW w_mul (P.ix ix_seq w_ix (P.v 6) P.int (fun _ _ => rfl)) (P.ix ix_seq w_ix (P.v 2) P.int (fun _ _ => rfl))) (P.op op_mulW w_mul (P.ix ix_seq w_ix (P.v 6) P.int (fun _ _ => rfl)) (P.ix ix_seq w_ix (P.v 2) P.int (fun _ _ => rfl)))) (P.op op_mulW w_mul (P.ix ix_seq w_ix (P.v 6) P.int (fun _ _ => rfl)) (P.ix ix_seq w_ix (P.v 2) P.int (fun _ _ => rfl))))) (P.seq (P.set (i := 5) sc__law_senses_right.nd rfl (by first | exact .inl rfl | exact .inr rfl) (P.call (ok_excess T N) hg (hr.mono (by decide)) (by rfl) (T.fn 45 "excess" rfl).2 (T.fn 45 "excess" rfl).1.kp (b_excess (T.fn 45 "excess" rfl).1) (P.acons (P.v 6) (P.acons (P.v 2) P.anil)))) (P.seq (P.iff (PW.pt (P.or (P.cmpT (op_neP hr.units) w_ne (P.callB (call_reprD hg hr.units) w_repr (by rfl) N.n_repr (by decide +kernel) (P.acons (P.v 5) P.anil)) (P.callB (call_reprD hg hr.units) w_repr (by rfl) N.n_repr (by decide +kernel) (P.acons (P.call (ok__law_part T N) hg (hr.mono (by decide)) (by rfl) (T.fn 53 "_law_part" rfl).2 (T.fn 53 "_law_part" rfl).1.kp (b__law_part (T.fn 53 "_law_part" rfl).1) (P.acons (P.v 8) (P.acons (P.ix ix_seq w_ix (P.v 2) P.int (fun _ _ => rfl)) P.anil))) P.anil)) (nomark _)) (P.or1 (P.cmpT (op_neP hr.units) w_ne (P.op op_sub w_sub (P.callTy call_int1 w_int (by rfl) N.n_int (by decide +kernel) (P.acons (P.cmp op_gt w2_cmp (P.ix ix_seq w_ix (P.v 5) P.int (fun _ _ => rfl)) P.int (nomark _)) P.anil)) (P.callTy call_int1 w_int (by rfl) N.n_int (by decide +kernel) (P.acons (P.cmp op_lt w2_cmp (P.ix ix_seq w_ix (P.v 5) P.int (fun _ _ => rfl)) P.int (nomark _)) P.anil))) (P.op op_sub w_sub P.int (P.v 4)) (nomark _))))) (P.last (P.ret P.bl)) P.nil) (P.seq (P.iff (P.cmpT (op_neP hr.units) w_ne (P.callB (call_reprD hg hr.units) w_repr (by rfl) N.n_repr (by decide +kernel) (P.acons (P.callK (ks := ["side", "point"]) [0, 1] (ok_excess T N) hg (hr.mono (by decide)) (by rfl) (T.fn 45 "excess" rfl).2 (T.fn 45 "excess" rfl).1.kp (kw_excess_0_1 (T.fn 45 "excess" rfl).1) (P.kcons (P.v 7) (P.kcons (P.v 2) P.knil)) (fun _ _ _ _ h => acs2 h)) P.anil)) (P.callB (call_reprD hg hr.units) w_repr (by rfl) N.n_repr (by decide +kernel) (P.acons (P.tup (P.acons (P.op op_sub w_sub P.int (P.ix ix_seq w_ix (P.v 5) P.int (fun _ _ => rfl))) (P.acons (P.ix ix_seq w_ix (P.v 5) P.int (fun _ _ => rfl)) P.anil))) P.anil)) (nomark _)) (P.last (P.ret P.bl)) P.nil) (P.last (P.ret (P.cmp (op_eqP hr.units) w_eq (P.callB (call_reprD hg hr.units) w_repr (by rfl) N.n_repr (by decide +kernel) (P.acons (P.ofL (P.list (P.acons (P.call (ok_excess T N) hg (hr.mono (by decide)) (by rfl) (T.fn 45 "excess" rfl).2 (T.fn 45 "excess" rfl).1.kp (b_excess (T.fn 45 "excess" rfl).1) (P.acons (P.v 6) (P.acons (P.v 0) P.anil))) (P.acons (P.call (ok_excess T N) hg (hr.mono (by decide)) (by rfl) (T.fn 45 "excess" rfl).2 (T.fn 45 "excess" rfl).1.kp (b_excess (T.fn 45 "excess" rfl).1) (P.acons (P.v 7) (P.acons (P.v 1) P.anil))) P.anil)))) P.anil)) P.str (nomark _))))))))))))))))
theorem sc__law_directions_right : FnScope ["_law_gusts", "_law_one", "_law_share_here", "_law_due", "_law_other_due", "_law_gust_here", "_law_rival"] ["_law_gusts", "_law_one", "_law_share_here"] (defScope (top 69)) := ⟨rfl, rfl, rfl, by decide +kernel, rfl, by decide +kernel, by decide +kernel⟩
theorem b__law_directions_right {K : PySem.W.Frag} {f : Addr} {fd : FuncData} (F : FnP K "_law_directions_right" (top 69) f fd) : Binds K fd ["_law_gusts", "_law_one", "_law_share_here"] [] := F.bindsN fun _ _ _ _ _ _ us hl => match us, hl with | [_, _, _], _ => rfl
theorem ok__law_directions_right (T : Pg K mg Ad Dd) (N : Nm K mg) : FnG Pr w K mg base CX0 6 (Ad 69) (Dd 69) ["_law_gusts", "_law_one", "_law_share_here"] (spF K WF.f__law_directions_right) :=
  P.fn (T.fn 69 "_law_directions_right" rfl).1 sc__law_directions_right rfl rfl fun cdv A outer s H E hg hr => by
    have hu := hr.units
    exact (P.seq (P.set (i := 3) sc__law_directions_right.nd rfl (by first | exact .inl rfl | exact .inr rfl) (P.ifE (P.cmpT (op_neP hr.units) w_ne (P.sl (P.v 1) P.ono (P.osome P.int)) (P.tup (P.acons P.int (P.acons P.int P.anil))) (nomark _)) (P.call (ok__law_least T N) hg (hr.mono (by decide)) (by rfl) (T.fn 51 "_law_least" rfl).2 (T.fn 51 "_law_least" rfl).1.kp (b__law_least (T.fn 51 "_law_least" rfl).1) (P.acons (P.sl (P.v 1) P.ono (P.osome P.int)) P.anil)) P.non)) (P.seq (P.iff (P.cmpT (op_neP hr.units) w_ne (P.callB (call_reprD hg hr.units) w_repr (by rfl) N.n_repr (by decide +kernel) (P.acons (P.ofL (P.list (P.acons (P.call (ok_direction_of T N) hg (hr.mono (by decide)) (by rfl) (T.fn 36 "direction_of" rfl).2 (T.fn 36 "direction_of" rfl).1.kp (b_direction_of (T.fn 36 "direction_of" rfl).1) (P.acons (P.v 1) P.anil)) (P.acons (P.callK (ks := ["way"]) [0] (ok_direction_of T N) hg (hr.mono (by decide)) (by rfl) (T.fn 36 "direction_of" rfl).2 (T.fn 36 "direction_of" rfl).1.kp (kw_direction_of_0 (T.fn 36 "direction_of" rfl).1) (P.kcons (P.call (ok__law_grow T N) hg (hr.mono (by decide)) (by rfl) (T.fn 57 "_law_grow" rfl).2 (T.fn 57 "_law_grow" rfl).1.kp (b__law_grow (T.fn 57 "_law_grow" rfl).1) (P.acons (P.v 1) (P.acons (P.tup (P.acons P.int (P.acons P.int P.anil))) P.anil))) P.knil) (fun _ _ _ _ h => acs1 h)) P.anil)))) P.anil)) (P.callB (call_reprD hg hr.units) w_repr (by rfl) N.n_repr (by decide +kernel) (P.acons (P.ofL (P.list (P.acons (P.v 3) (P.acons (P.v 3) P.anil)))) P.anil)) (nomark _)) (P.last (P.ret P.bl)) P.nil) (P.seq (P.set (i := 4) sc__law_directions_right.nd rfl (by first | exact .inl rfl | exact .inr rfl) (P.ifE (PW.pt (P.or (P.cmpT op_isN w_isN (P.v 3) P.non (nomark _)) (P.or1 (P.cmpT (op_eqP hr.units) w_eq (P.ix ix_seq w_ix (P.v 2) P.int (fun _ _ => rfl)) P.int (nomark _))))) P.non (P.ifE (P.cmpT op_gt w2_cmp (P.ix ix_seq w_ix (P.v 2) P.int (fun _ _ => rfl)) P.int (nomark _)) (P.v 3) (P.tup (P.acons (P.op op_sub w_sub P.int (P.ix ix_seq w_ix (P.v 3) P.int (fun _ _ => rfl))) (P.acons (P.op op_sub w_sub P.int (P.ix ix_seq w_ix (P.v 3) P.int (fun _ _ => rfl))) P.anil)))))) (P.seq (P.iff (P.cmpT (op_neP hr.units) w_ne (P.callB (call_reprD hg hr.units) w_repr (by rfl) N.n_repr (by decide +kernel) (P.acons (P.call (ok_direction_of T N) hg (hr.mono (by decide)) (by rfl) (T.fn 36 "direction_of" rfl).2 (T.fn 36 "direction_of" rfl).1.kp (b_direction_of (T.fn 36 "direction_of" rfl).1) (P.acons (P.call (ok__law_grow T N) hg (hr.mono (by decide)) (by rfl) (T.fn 57 "_law_grow" rfl).2 (T.fn 57 "_law_grow" rfl).1.kp (b__law_grow (T.fn 57 "_law_grow" rfl).1) (P.acons (P.v 1) (P.acons (P.v 2) P.anil))) P.anil)) P.anil)) (P.callB (call_reprD hg hr.units) w_repr (by rfl) N.n_repr (by decide +kernel) (P.acons (P.v 4) P.anil)) (nomark _)) (P.last (P.ret P.bl)) P.nil) (P.seq (P.for PassesOwn.never rfl (P.iter (P.v 0)) (P.gnm sc__law_directions_right.nd (i := 5) rfl (by first | exact .inl rfl | exact .inr rfl)) (P.last (P.for PassesOwn.never rfl (P.iter (P.v 0)) (P.gnm sc__law_directions_right.nd (i := 6) rfl (by first | exact .inl rfl | exact .inr rfl)) (P.last (P.iff (P.cmpT (op_neP hr.units) w_ne (P.callB (call_reprD hg hr.units) w_repr (by rfl) N.n_repr (by decide +kernel) (P.acons (P.call (ok_is_earlier T N) hg (hr.mono (by decide)) (by rfl) (T.fn 37 "is_earlier" rfl).2 (T.fn 37 "is_earlier" rfl).1.kp (b_is_earlier (T.fn 37 "is_earlier" rfl).1) (P.acons (P.v 5) (P.acons (P.v 6) P.anil))) P.anil)) (P.callB (call_reprD hg hr.units) w_repr (by rfl) N.n_repr (by decide +kernel) (P.acons (P.andV (P.cmp (op_neP hr.units) w_ne (P.v 5) (P.v 6) (nomark _)) (P.one (P.call (ok__law_before T N) hg (hr.mono (by decide)) (by rfl) (T.fn 63 "_law_before" rfl).2 (T.fn 63 "_law_before" rfl).1.kp (b__law_before (T.fn 63 "_law_before" rfl).1) (P.acons (P.v 5) (P.acons (P.v 6) P.anil))))) P.anil)) (nomark _)) (P.last (P.ret P.bl)) P.nil))))) (P.last (P.ret (P.cmp (op_eqP hr.units) w_eq (P.callB (call_reprD hg hr.units) w_repr (by rfl) N.n_repr (by decide +kernel) (P.acons (P.callK (ks := ["other", "direction"]) [1, 0] (ok_is_earlier T N) hg (hr.mono (by decide)) (by rfl) (T.fn 37 "is_earlier" rfl).2 (T.fn 37 "is_earlier" rfl).1.kp (kw_is_earlier_1_0 (T.fn 37 "is_earlier" rfl).1) (P.kcons (P.ix ix_seq w_ix (P.v 0) P.int (fun _ _ => rfl)) (P.kcons (P.tup (P.acons P.int (P.acons P.int P.anil))) P.knil)) (fun _ _ _ _ h => acs2 h)) P.anil)) (P.callB (call_reprD hg hr.units) w_repr (by rfl) N.n_repr (by decide +kernel) (P.acons (P.cmp (op_neP hr.units) w_ne (P.ix ix_seq w_ix (P.v 0) P.int (fun _ _ => rfl)) (P.tup (P.acons P.int (P.acons P.int P.anil))) (nomark _)) P.anil)) (nomark _)))))))))
theorem sc__law_right : FnScope ["_law_source_here", "_law_one", "_law_two", "_law_share_here", "_law_more", "_law_three", "_law_gusts", "_law_each"] ["_law_source_here"] (defScope (top 70)) := ⟨rfl, rfl, rfl, by decide +kernel, rfl, by decide +kernel, by decide +kernel⟩
theorem b__law_right {K : PySem.W.Frag} {f : Addr} {fd : FuncData} (F : FnP K "_law_right" (top 70) f fd) : Binds K fd ["_law_source_here"] [] := F.bindsN fun _ _ _ _ _ _ us hl => match us, hl with | [_], _ => rfl
def le__law_right_0 : M D := mF WF.f__law_gust (aCons (mVar 0) aNil)
def g__law_right : M Out := sSeq (sAsg (.tp [.nm 1, .nm 2, .nm 3, .nm 4]) (mTup (aCons (mF WF.f__law_spot_v2 (aCons (mVar 0) aNil)) (aCons (mF WF.f__law_spot_v2 (aCons (mVar 0) aNil)) (aCons (mF WF.f__law_share (aCons (mVar 0) aNil)) (aCons (mF WF.f__law_share (aCons (mVar 0) aNil)) aNil)))))) (sSeq (sAsg (.nm 5) (mF WF.f__law_pick (aCons (mVar 0) (aCons (mTup (aCons (mF WF.f__law_spot_v2 (aCons (mVar 0) aNil)) (aCons (mF WF.f__law_midway (aCons (mVar 1) (aCons (mVar 2) (aCons (mVar 4) aNil)))) (aCons (mVar 1) aNil)))) aNil)))) (sSeq (mIf (mOr (mNot (mB (mF WF.f__law_sums_right (aCons (mVar 1) (aCons (mVar 2) (aCons (mVar 3) aNil)))))) (mNot (mB (mF WF.f__law_between_right (aCons (mVar 1) (aCons (mVar 2) (aCons (mVar 3) (aCons (mVar 4) aNil)))))))) (sRet (mC (.bool false))) (sNx)) (sSeq (sOwn 6 (mLc (mA rg1 (aCons (mC (.int 4)) aNil)) [7] (.nm 7) (qC true) le__law_right_0)) (sSeq (sAsg (.nm 6) (mL (mCat (mItO 6) (mLst (aCons (mTup (aCons (m2 dSub (mC (.int 0)) (m2 dIx (mIxO 6 (mC (.int 0))) (mC (.int 0)))) (aCons (m2 dSub (mC (.int 0)) (m2 dIx (mIxO 6 (mC (.int 0))) (mC (.int 1)))) aNil))) (aCons (mF WF.f__law_pick (aCons (mVar 0) (aCons (mTup (aCons (mTup (aCons (mC (.int 1)) (aCons (mC (.int 0)) aNil))) (aCons (mTup (aCons (mC (.int 0)) (aCons (mC (.int 1)) aNil))) (aCons (mTup (aCons (m1 dNeg (mC (.int 1))) (aCons (mC (.int 0)) aNil))) (aCons (mTup (aCons (mC (.int 0)) (aCons (m1 dNeg (mC (.int 1))) aNil))) aNil))))) aNil))) aNil)))))) (sRet (mAndV (mF WF.f__law_senses_right (aCons (mVar 1) (aCons (mVar 2) (aCons (mVar 5) aNil)))) (mF WF.f__law_directions_right (aCons (mVar 6) (aCons (mVar 1) (aCons (mVar 3) aNil))))))))))
def f__law_right : Fn := fnM 1 8 g__law_right
theorem ok__law_right (T : Pg K mg Ad Dd) (N : Nm K mg) : FnG Pr w K mg base CX0 7 (Ad 70) (Dd 70) ["_law_source_here"] (spF K f__law_right) :=
  P.fn (T.fn 70 "_law_right" rfl).1 sc__law_right rfl rfl fun cdv A outer s H E hg hr => by
    have hu := hr.units
    exact (P.seq (P.asg (P.tup (P.acons (P.call (ok__law_spot T N) hg (hr.mono (by decide)) (by rfl) (T.fn 52 "_law_spot" rfl).2 (T.fn 52 "_law_spot" rfl).1.kp (b__law_spot (T.fn 52 "_law_spot" rfl).1) (P.acons (P.v 0) P.anil)) (P.acons (P.call (ok__law_spot T N) hg (hr.mono (by decide)) (by rfl) (T.fn 52 "_law_spot" rfl).2 (T.fn 52 "_law_spot" rfl).1.kp (b__law_spot (T.fn 52 "_law_spot" rfl).1) (P.acons (P.v 0) P.anil)) (P.acons (P.call (ok__law_share T N) hg (hr.mono (by decide)) (by rfl) (T.fn 65 "_law_share" rfl).2 (T.fn 65 "_law_share" rfl).1.kp (b__law_share (T.fn 65 "_law_share" rfl).1) (P.acons (P.v 0) P.anil)) (P.acons (P.call (ok__law_share T N) hg (hr.mono (by decide)) (by rfl) (T.fn 65 "_law_share" rfl).2 (T.fn 65 "_law_share" rfl).1.kp (b__law_share (T.fn 65 "_law_share" rfl).1) (P.acons (P.v 0) P.anil)) P.anil))))) (P.gtup (n := 4) rfl (P.gcons (P.gnm sc__law_right.nd (i := 1) rfl (by first | exact .inl rfl | exact .inr rfl)) (P.gcons (P.gnm sc__law_right.nd (i := 2) rfl (by first | exact .inl rfl | exact .inr rfl)) (P.gcons (P.gnm sc__law_right.nd (i := 3) rfl (by first | exact .inl rfl | exact .inr rfl)) (P.gcons (P.gnm sc__law_right.nd (i := 4) rfl (by first | exact .inl rfl | exact .inr rfl)) P.gnil)))))) (P.seq (P.set (i := 5) sc__law_right.nd rfl (by first | exact .inl rfl | exact .inr rfl) (P.call (ok__law_pick T N) hg (hr.mono (by decide)) (by rfl) (T.fn 50 "_law_pick" rfl).2 (T.fn 50 "_law_pick" rfl).1.kp (b__law_pick (T.fn 50 "_law_pick" rfl).1) (P.acons (P.v 0) (P.acons (P.tup (P.acons (P.call (ok__law_spot T N) hg (hr.mono (by decide)) (by rfl) (T.fn 52 "_law_spot" rfl).2 (T.fn 52 "_law_spot" rfl).1.kp (b__law_spot (T.fn 52 "_law_spot" rfl).1) (P.acons (P.v 0) P.anil)) (P.acons (P.call (ok__law_midway T N) hg (hr.mono (by decide)) (by rfl) (T.fn 58 "_law_midway" rfl).2 (T.fn 58 "_law_midway" rfl).1.kp (b__law_midway (T.fn 58 "_law_midway" rfl).1) (P.acons (P.v 1) (P.acons (P.v 2) (P.acons (P.v 4) P.anil)))) (P.acons (P.v 1) P.anil)))) P.anil)))) (P.seq (P.iff (PW.pt (P.or (P.not (P.tval (P.call (ok__law_sums_right T N) hg (hr.mono (by decide)) (by rfl) (T.fn 66 "_law_sums_right" rfl).2 (T.fn 66 "_law_sums_right" rfl).1.kp (b__law_sums_right (T.fn 66 "_law_sums_right" rfl).1) (P.acons (P.v 1) (P.acons (P.v 2) (P.acons (P.v 3) P.anil)))))) (P.or1 (P.not (P.tval (P.call (ok__law_between_right T N) hg (hr.mono (by decide)) (by rfl) (T.fn 67 "_law_between_right" rfl).2 (T.fn 67 "_law_between_right" rfl).1.kp (b__law_between_right (T.fn 67 "_law_between_right" rfl).1) (P.acons (P.v 1) (P.acons (P.v 2) (P.acons (P.v 3) (P.acons (P.v 4) P.anil)))))))))) (P.last (P.ret P.bl)) P.nil) (P.seq (P.ownLc (i := 6) rfl sc__law_right.nd rfl rfl (sw_true rfl rfl rfl (by decide +kernel)) (own := [("_law_each", 7)]) (P.iterE (P.rng1 (by rfl) N.n_range (P.acons P.int P.anil))) (blkOk_by (own := [("_law_each", 7)]) (N := ["_law_source_here", "_law_one", "_law_two", "_law_share_here", "_law_more", "_law_three", "_law_gusts", "_law_each"]) (sc := defScope (top 70)) (by decide +kernel)) (by decide) (fun _ _ _ _ _ => (P.gnm sc__law_right.nd (i := 7) rfl (by first | exact .inl rfl | exact .inr rfl))) (fun _ _ _ _ _ => P.nif) (fun _ _ _ _ _ => (P.call (ok__law_gust T N) hg (hr.mono (by decide)) (by rfl) (T.fn 64 "_law_gust" rfl).2 (T.fn 64 "_law_gust" rfl).1.kp (b__law_gust (T.fn 64 "_law_gust" rfl).1) (P.acons (P.v 0) P.anil)))) (P.seq (P.set (i := 6) sc__law_right.nd rfl (by first | exact .inl rfl | exact .inr rfl) (P.ofL (P.cat (P.rO 6) (P.rL (P.list (P.acons (P.tup (P.acons (P.op op_sub w_sub P.int (P.ix ix_seq w_ix (P.ixOv 6 P.int) P.int (fun _ _ => rfl))) (P.acons (P.op op_sub w_sub P.int (P.ix ix_seq w_ix (P.ixOv 6 P.int) P.int (fun _ _ => rfl))) P.anil))) (P.acons (P.call (ok__law_pick T N) hg (hr.mono (by decide)) (by rfl) (T.fn 50 "_law_pick" rfl).2 (T.fn 50 "_law_pick" rfl).1.kp (b__law_pick (T.fn 50 "_law_pick" rfl).1) (P.acons (P.v 0) (P.acons (P.tup (P.acons (P.tup (P.acons P.int (P.acons P.int P.anil))) (P.acons (P.tup (P.acons P.int (P.acons P.int P.anil))) (P.acons (P.tup (P.acons (P.un un_neg w_neg P.int) (P.acons P.int P.anil))) (P.acons (P.tup (P.acons P.int (P.acons (P.un un_neg w_neg P.int) P.anil))) P.anil))))) P.anil))) P.anil))))))) (P.last (P.ret (P.andV (P.call (ok__law_senses_right T N) hg (hr.mono (by decide)) (by rfl) (T.fn 68 "_law_senses_right" rfl).2 (T.fn 68 "_law_senses_right" rfl).1.kp (b__law_senses_right (T.fn 68 "_law_senses_right" rfl).1) (P.acons (P.v 1) (P.acons (P.v 2) (P.acons (P.v 5) P.anil)))) (P.one (P.call (ok__law_directions_right T N) hg (hr.mono (by decide)) (by rfl) (T.fn 69 "_law_directions_right" rfl).2 (T.fn 69 "_law_directions_right" rfl).1.kp (b__law_directions_right (T.fn 69 "_law_directions_right" rfl).1) (P.acons (P.v 6) (P.acons (P.v 1) (P.acons (P.v 3) P.anil)))))))))))))
theorem sc_law : FnScope ["_law_script", "_law_turn"] ["_law_script"] (defScope (top 71)) := ⟨rfl, rfl, rfl, by decide +kernel, rfl, by decide +kernel, by decide +kernel⟩
theorem b_law {K : PySem.W.Frag} {f : Addr} {fd : FuncData} (F : FnP K "law" (top 71) f fd) : Binds K fd ["_law_script"] [] := F.bindsN fun _ _ _ _ _ _ us hl => match us, hl with | [_], _ => rfl
def lb_law_0 : M Out := mIf (mNot (mB (mSack f__law_right (mFL WF.f__law_source (aCons (mVar 0) (aCons (mVar 1) aNil)))))) (sRet (mC (.bool false))) (sNx)
def g_law : M Out := sSeq (sFor (mA rg1 (aCons (mF WF.f__law_rounds (aCons (mVar 0) aNil)) aNil)) (.nm 1) lb_law_0) (sRet (mC (.bool true)))
def f_law : Fn := fnM 1 2 g_law
theorem ok_law (T : Pg K mg Ad Dd) (N : Nm K mg) : FnG Pr w K mg base CX0 8 (Ad 71) (Dd 71) ["_law_script"] (spF K f_law) :=
  P.fn (T.fn 71 "law" rfl).1 sc_law rfl rfl fun cdv A outer s H E hg hr => by
    have hu := hr.units
    exact (P.seq (P.for PassesOwn.never rfl (P.rng1 (by rfl) N.n_range (P.acons (P.call (ok__law_rounds T N) hg (hr.mono (by decide)) (by rfl) (T.fn 48 "_law_rounds" rfl).2 (T.fn 48 "_law_rounds" rfl).1.kp (b__law_rounds (T.fn 48 "_law_rounds" rfl).1) (P.acons (P.v 0) P.anil)) P.anil)) (P.gnm sc_law.nd (i := 1) rfl (by first | exact .inl rfl | exact .inr rfl)) (P.last (P.iff (P.not (P.tval (P.callS (ok__law_right T N) hg (hr.mono (by decide)) (by rfl) (T.fn 70 "_law_right" rfl).2 (T.fn 70 "_law_right" rfl).1.kp (b__law_right (T.fn 70 "_law_right" rfl).1) (P.callL (ok__law_source T N) hg (hr.mono (by decide)) (by rfl) (T.fn 47 "_law_source" rfl).2 (T.fn 47 "_law_source" rfl).1.kp (b__law_source (T.fn 47 "_law_source" rfl).1) (P.acons (P.v 0) (P.acons (P.v 1) P.anil)))))) (P.last (P.ret P.bl)) P.nil))) (P.last (P.ret P.bl)))
end
end K02
/-! the law on points and directions -/
namespace K02
open PySem PySem.Spec PyProof.Rows L2 PL WF
theorem sOwn_at {i : Nat} {a : M (List D)} {ρ : PL.Env} {s s' : S} {ds : List D} (h : a ρ s = some (ds, s')) : sOwn i a ρ s = some (.nx (ρ.set i (some (.ow ds))), s') := by
  unfold sOwn
  rw [h]
theorem sAsg_nm {i : Nat} {a : M D} {ρ : PL.Env} {s s' : S} {d : D} (h : a ρ s = some (d, s')) : sAsg (.nm i) a ρ s = some (.nx (ρ.set i (cD d)), s') := by
  unfold sAsg
  rw [h]
  rfl
theorem rg1_n {n : Nat} (h : n < 1000) : rg1 [.int (n : Int)] = some (rgD 0 n) := by
  have o : okRg (n : Int) = true := by
    unfold okRg
    rw [Bool.and_eq_true]
    exact ⟨decide_eq_true (by omega), decide_eq_true (by omega)⟩
  show (if okRg (n : Int) = true then some (rgD 0 (n : Int).toNat) else none) = _
  rw [if_pos o]
  rfl
theorem mA_c {f : List D → Option (List D)} {c : D} {xs : List D} {ρ : PL.Env} {s : S} (h : f [c] = some xs) : mA f (aCons (mC c) aNil) ρ s = some (xs, s) := by
  simp [mA, mThen, mLift, aCons, aNil, mC, h]
theorem gusts_go {P Q F G R : Option Cell} : ∀ (xs : List D) (n : Nat) (s : S), Sv n s → n + 3 * xs.length ≤ 900000 → ∃ (fs : List K2.P2) (s' : S), fs.length = xs.length ∧ (∀ f ∈ fs, DB 7 f) ∧ lcGo (.nm 7) (qC true) le__law_right_0 [cD SACK, P, Q, F, G, R, none, none] xs s = some (fs.map df, s') ∧ Sv (n + 3 * xs.length) s'
  | [], n, s, h, _ => ⟨[], s, rfl, (fun _ h => by cases h), rfl, h⟩
  | x :: xs, n, s, h, hn => by
    rw [List.length_cons] at hn
    obtain ⟨f, s1, e1, hf, h1⟩ := e_gust h (by omega)
    obtain ⟨fs, s2, l2, hfs, e2, h2⟩ := gusts_go (P := P) (Q := Q) (F := F) (G := G) (R := R) xs (n + 3) s1 h1 (by omega)
    refine ⟨f :: fs, s2, by simp [l2], fun g hg => ?_, ?_, by rw [List.length_cons, show n + 3 * (xs.length + 1) = n + 3 + 3 * xs.length by omega]; exact h2⟩
    · rcases List.mem_cons.mp hg with rfl | hg
      · exact hf
      · exact hfs g hg
    · have e3 : le__law_right_0 [cD SACK, P, Q, F, G, R, none, cD x] s = some (df f, s1) := by
        simp [le__law_right_0, fnM, startE, sSeq, sAsg, bnd, bnds, mThen, mLift, mVar, m1, m2, mC, mF, aCons, aNil, mCall, mTup, isDs, isD, mIf, mB, bOf, mNot, mOr, mAnd, mAndV, mOrV, qC, sNx, sRet, sEx, dIx, atI, ixN, dCmp, dAdd, dSub, dNeg, dNot, dIs, isT, bInt, bAbs, bLen, mL, mLst, mIt, itOf, sizeLine_eq, e1]
      generalize le__law_right_0 = L at e2 e3 ⊢
      simp [lcGo, bnd, qC, e3, isD, e2]
def axes : List K2.P2 := [⟨1, 0⟩, ⟨0, 1⟩, ⟨-1, 0⟩, ⟨0, -1⟩]
theorem ax_db : ∀ f ∈ axes, DB 7 f := by
  intro f hf
  unfold axes at hf
  simp only [List.mem_cons, List.not_mem_nil, or_false] at hf
  rcases hf with rfl | rfl | rfl | rfl
  · exact ⟨rfl, biAbs (by decide), biAbs (by decide)⟩
  · exact ⟨rfl, biAbs (by decide), biAbs (by decide)⟩
  · exact ⟨rfl, biAbs (by decide), biAbs (by decide)⟩
  · exact ⟨rfl, biAbs (by decide), biAbs (by decide)⟩
theorem neg_db {f : K2.P2} {n : Nat} (h : DB n f) : DB n ⟨0 - f.n, 0 - f.d⟩ := by
  obtain ⟨h0, h1, h2⟩ := h
  refine ⟨?_, ?_, ?_⟩
  · show K2.g2 (0 - f.n) (0 - f.d) = 1
    rw [Int.zero_sub, Int.zero_sub]
    have h0' : K2.g2 f.n f.d = 1 := h0
    unfold K2.g2 at h0' ⊢
    rw [Int.natAbs_neg, Int.natAbs_neg]
    exact h0'
  · show Bi (0 - f.n) n
    rw [Int.zero_sub]
    exact biNeg
  · show Bi (0 - f.d) n
    rw [Int.zero_sub]
    exact biNeg
theorem e_right {s : S} (hs : Sv 0 s) : ∃ s', f__law_right [SACK] s = some (.bool true, s') := by
  obtain ⟨p, s1, e1, hp, h1⟩ := e_spot_v2 hs (by decide)
  obtain ⟨q, s2, e2, hq, h2⟩ := e_spot_v2 h1 (by decide)
  obtain ⟨f, s3, e3, hf, h3⟩ := e_share h2 (by decide)
  obtain ⟨g, s4, e4, hg, h4⟩ := e_share h3 (by decide)
  obtain ⟨r1, s5, e5, hr1, h5⟩ := e_spot_v2 h4 (by decide)
  have e6 := e_midway (s := s5) hp hq hg (by decide)
  have hM : PB 101 (K2.pMid p q g) := by
    rw [← K2.mid_btw hp.1.1 hq.1.1 hg.1.1]
    exact (hp.sum ((hq.gap hp).times hg)).mono (by decide)
  obtain ⟨d, md, s6, e7, h6⟩ := e_pick (ds := [dp r1, dp (K2.pMid p q g), dp p]) h5 (by decide) (by simp) (by simp)
  obtain ⟨r, rfl, hr⟩ : ∃ r, d = dp r ∧ PB 101 r := by
    simp only [List.mem_cons, List.not_mem_nil, or_false] at md
    rcases md with rfl | rfl | rfl
    · exact ⟨_, rfl, hr1.mono (by decide)⟩
    · exact ⟨_, rfl, hM⟩
    · exact ⟨_, rfl, hp.mono (by decide)⟩
  generalize K2.pMid p q g = M at *
  have t1 : sAsg (.tp [.nm 1, .nm 2, .nm 3, .nm 4]) (mTup (aCons (mF WF.f__law_spot_v2 (aCons (mVar 0) aNil)) (aCons (mF WF.f__law_spot_v2 (aCons (mVar 0) aNil)) (aCons (mF WF.f__law_share (aCons (mVar 0) aNil)) (aCons (mF WF.f__law_share (aCons (mVar 0) aNil)) aNil))))) (startE 8 [SACK]) s = some (.nx [cD SACK, cD (dp p), cD (dp q), cD (df f), cD (df g), none, none, none], s4) := by
    simp [fnM, startE, sSeq, sAsg, bnd, bnds, mThen, mLift, mVar, m1, m2, mC, mF, aCons, aNil, mCall, mTup, isDs, isD, mIf, mB, bOf, mNot, mOr, mAnd, mAndV, mOrV, qC, sNx, sRet, sEx, dIx, atI, ixN, dCmp, dAdd, dSub, dNeg, dNot, dIs, isT, bInt, bAbs, bLen, mL, mLst, mIt, itOf, sizeLine_eq, e1, e2, e3, e4]
  have t2 : sAsg (.nm 5) (mF WF.f__law_pick (aCons (mVar 0) (aCons (mTup (aCons (mF WF.f__law_spot_v2 (aCons (mVar 0) aNil)) (aCons (mF WF.f__law_midway (aCons (mVar 1) (aCons (mVar 2) (aCons (mVar 4) aNil)))) (aCons (mVar 1) aNil)))) aNil))) [cD SACK, cD (dp p), cD (dp q), cD (df f), cD (df g), none, none, none] s4 = some (.nx [cD SACK, cD (dp p), cD (dp q), cD (df f), cD (df g), cD (dp r), none, none], s6) := by
    simp [fnM, startE, sSeq, sAsg, bnd, bnds, mThen, mLift, mVar, m1, m2, mC, mF, aCons, aNil, mCall, mTup, isDs, isD, mIf, mB, bOf, mNot, mOr, mAnd, mAndV, mOrV, qC, sNx, sRet, sEx, dIx, atI, ixN, dCmp, dAdd, dSub, dNeg, dNot, dIs, isT, bInt, bAbs, bLen, mL, mLst, mIt, itOf, sizeLine_eq, e5, e6, e7]
  have a1 := e_sums_right (s := s6) hp hq hf
  have a2 := e_between_right (s := s6) hp hq hf hg
  have t3 : mIf (mOr (mNot (mB (mF WF.f__law_sums_right (aCons (mVar 1) (aCons (mVar 2) (aCons (mVar 3) aNil)))))) (mNot (mB (mF WF.f__law_between_right (aCons (mVar 1) (aCons (mVar 2) (aCons (mVar 3) (aCons (mVar 4) aNil)))))))) (sRet (mC (.bool false))) (sNx) [cD SACK, cD (dp p), cD (dp q), cD (df f), cD (df g), cD (dp r), none, none] s6 = some (.nx [cD SACK, cD (dp p), cD (dp q), cD (df f), cD (df g), cD (dp r), none, none], s6) := by
    simp [fnM, startE, sSeq, sAsg, bnd, bnds, mThen, mLift, mVar, m1, m2, mC, mF, aCons, aNil, mCall, mTup, isDs, isD, mIf, mB, bOf, mNot, mOr, mAnd, mAndV, mOrV, qC, sNx, sRet, sEx, dIx, atI, ixN, dCmp, dAdd, dSub, dNeg, dNot, dIs, isT, bInt, bAbs, bLen, mL, mLst, mIt, itOf, sizeLine_eq, a1, a2]
  have rl : (rgD 0 4).length = 4 := by simp [rgD]
  obtain ⟨fs, s7, lf, hfs, e8, h7⟩ := gusts_go (P := cD (dp p)) (Q := cD (dp q)) (F := cD (df f)) (G := cD (df g)) (R := cD (dp r)) (rgD 0 4) _ s6 h6 (by rw [rl]; decide)
  rw [rl] at lf h7
  have hx : rg1 [.int 4] = some (rgD 0 4) := rg1_n (n := 4) (by decide)
  have hz : (rgD 0 4).length ≤ sizeLine := by
    rw [sizeLine_eq, rl]
    decide
  have e9 : mLc (mA rg1 (aCons (mC (.int 4)) aNil)) [7] (.nm 7) (qC true) le__law_right_0 [cD SACK, cD (dp p), cD (dp q), cD (df f), cD (df g), cD (dp r), none, none] s6 = some (fs.map df, s7) := by
    unfold mLc
    rw [mA_c hx]
    show (if (rgD 0 4).length ≤ sizeLine then _ else _) = _
    rw [if_pos hz]
    exact e8
  have t4 := sOwn_at (i := 6) e9
  cases fs with
  | nil => cases lf
  | cons f1 rest =>
    have hf1 := hfs f1 List.mem_cons_self
    obtain ⟨d, md, s8, e10, h8⟩ := e_pick (ds := axes.map df) h7 (by decide) (by decide) (by decide)
    obtain ⟨ax, mx, rfl⟩ := List.mem_map.mp md
    have hax := ax_db ax mx
    simp only [axes, List.map] at e10
    have rl2 : rest.length = 3 := by simpa using lf
    have sz : (df f1 :: rest.map df).length + 2 ≤ sizeLine := by
      rw [sizeLine_eq]
      simp [rl2]
    have t5 : sAsg (.nm 6) (mL (mCat (mItO 6) (mLst (aCons (mTup (aCons (m2 dSub (mC (.int 0)) (m2 dIx (mIxO 6 (mC (.int 0))) (mC (.int 0)))) (aCons (m2 dSub (mC (.int 0)) (m2 dIx (mIxO 6 (mC (.int 0))) (mC (.int 1)))) aNil))) (aCons (mF WF.f__law_pick (aCons (mVar 0) (aCons (mTup (aCons (mTup (aCons (mC (.int 1)) (aCons (mC (.int 0)) aNil))) (aCons (mTup (aCons (mC (.int 0)) (aCons (mC (.int 1)) aNil))) (aCons (mTup (aCons (m1 dNeg (mC (.int 1))) (aCons (mC (.int 0)) aNil))) (aCons (mTup (aCons (mC (.int 0)) (aCons (m1 dNeg (mC (.int 1))) aNil))) aNil))))) aNil))) aNil))))) [cD SACK, cD (dp p), cD (dp q), cD (df f), cD (df g), cD (dp r), some (.ow (df f1 :: rest.map df)), none] s7 = some (.nx [cD SACK, cD (dp p), cD (dp q), cD (df f), cD (df g), cD (dp r), cD (.list ((f1 :: (rest ++ [⟨0 - f1.n, 0 - f1.d⟩, ax])).map df)), none], s8) := by
      have ix : ∀ xs : List D, atI (df f1 :: xs) 0 = some (df f1) := fun xs => by simp [atI, ixN]
      have q1 : mIxO 6 (mC (.int 0)) [cD SACK, cD (dp p), cD (dp q), cD (df f), cD (df g), cD (dp r), some (.ow (df f1 :: rest.map df)), none] s7 = some (df f1, s7) := by
        simp only [mIxO, mC, owAt, List.getElem?_cons_succ, List.getElem?_cons_zero, iOf, ix]
      have q2 : mItO 6 [cD SACK, cD (dp p), cD (dp q), cD (df f), cD (df g), cD (dp r), some (.ow (df f1 :: rest.map df)), none] s7 = some (df f1 :: rest.map df, s7) := by
        simp only [mItO, owAt, List.getElem?_cons_succ, List.getElem?_cons_zero]
      refine sAsg_nm ?_
      rw [show ((f1 :: (rest ++ [⟨0 - f1.n, 0 - f1.d⟩, ax])).map df) = (df f1 :: rest.map df) ++ [df ⟨0 - f1.n, 0 - f1.d⟩, df ax] by simp]
      generalize mIxO 6 (mC (.int 0)) = I at q1 ⊢
      generalize mItO 6 = J at q2 ⊢
      generalize df f1 :: rest.map df = X at *
      have sz2 : X.length ≤ 16777214 := by
        rw [sizeLine_eq] at sz
        omega
      simp [mL, mCat, mLst, mTup, aCons, aNil, mThen, mLift, m1, m2, mC, mF, mVar, q1, q2, dIx, atI, ixN, dSub, dNeg, e10, isDs, isD, sizeLine_eq, sz2]
    have b1 := e_senses_right (s := s8) hp hq hr
    have b2 := e_directions_right (s := s8) (f0 := f1) (fs := rest ++ [⟨0 - f1.n, 0 - f1.d⟩, ax]) (fun x hx => by
      rcases List.mem_cons.mp hx with rfl | hx
      · exact hf1
      · rcases List.mem_append.mp hx with hx | hx
        · exact hfs x (List.mem_cons_of_mem _ hx)
        · simp only [List.mem_cons, List.not_mem_nil, or_false] at hx
          rcases hx with rfl | rfl
          · exact neg_db hf1
          · exact hax) hp hf
    refine ⟨s8, fnM_rt rfl ?_⟩
    unfold g__law_right
    rw [sSeq_nx t1, sSeq_nx t2, sSeq_nx t3, sSeq_nx t4]
    refine (sSeq_nx t5).trans ?_
    generalize PyData.list ((f1 :: (rest ++ [⟨0 - f1.n, 0 - f1.d⟩, ax])).map df) = X at *
    simp [sRet, mAndV, mIf, mB, mF, aCons, aNil, mThen, mLift, mVar, b1, b2, bOf]
/-! the source -/
def nsD (ns : List Int) : List D := ns.map PyData.int
theorem fnL_rl {n N : Nat} {body : M Out} {ds : List D} {s s' : S} {es : List D} (hl : ds.length = n) (h : body (startE N ds) s = some (.rl es, s')) : fnL n N body ds s = some (es, s') := by
  unfold fnL
  rw [if_pos hl, h]
theorem nsD_at {ns : List Int} {i : Int} (h0 : 0 ≤ i) (h1 : i < ns.length) : ∃ c, atI (nsD ns) i = some (.int c) := by
  unfold atI ixN nsD
  have hl : i.toNat < ns.length := by omega
  refine ⟨ns[i.toNat], ?_⟩
  simp [h0, h1, hl]
theorem nsD_cut (ns : List Int) : ∃ ms : List Int, cutD (nsD ns) none (some 63) = nsD ms ∧ ms.length ≤ ns.length := by
  refine ⟨(ns.drop (HT.sIx (nsD ns).length 0 none)).take (HT.sIx (nsD ns).length (nsD ns).length (some 63) - HT.sIx (nsD ns).length 0 none), ?_, ?_⟩
  · unfold PL.cutD nsD
    rw [List.map_take, List.map_drop]
  · rw [List.length_take, List.length_drop]
    omega
def LN (sc : D) (tu mi ce ow : Option Cell) : PL.Env := [some (.fz sc), tu, mi, ce, ow]
theorem stir_step {sc : D} {tu ow : Option Cell} {b x : Int} {s : S} (b0 : 0 ≤ b) (b1 : b < 1000000007) : ∃ b', 0 ≤ b' ∧ b' < 1000000007 ∧ lb__law_source_0 (LN sc tu (cI b) (cI x) ow) s = some (.nx (LN sc tu (cI b') (cI x) ow), s) := by
  have hb := bi31 b0 (by omega)
  have b52 : Bi 52361 31 := biAbs (by decide)
  have m1' : dMul (.int b) (.int 52361) = _ := mulB (by decide)
  have d1 : dMod (.int x) (.int 998244353) = _ := modB (by decide)
  have d2 : dMod (.int (b * 52361 + x % 998244353 + 17)) (.int 1000000007) = _ := modB (by decide)
  refine ⟨(b * 52361 + x % 998244353 + 17) % 1000000007, Int.emod_nonneg _ (by decide), Int.emod_lt_of_pos _ (by decide), ?_⟩
  simp [lb__law_source_0, LN, sAsg, bnd, m2, mThen, mLift, mVar, mC, mCall, aCons, aNil, bInt, dAdd, m1', d1, d2]
theorem stir_loop {sc : D} {tu ow : Option Cell} {s : S} : ∀ (ms : List Int) (ea : Option Cell) (b : Int), 0 ≤ b → b < 1000000007 → ∃ b' ea', 0 ≤ b' ∧ b' < 1000000007 ∧ forL (.nm 3) lb__law_source_0 (nsD ms) (LN sc tu (cI b) ea ow) s = some (.nx (LN sc tu (cI b') ea' ow), s)
  | [], ea, b, h0, h1 => ⟨b, ea, h0, h1, rfl⟩
  | x :: ms, ea, b, h0, h1 => by
    obtain ⟨b1, g0, g1, e⟩ := stir_step (sc := sc) (tu := tu) (ow := ow) (x := x) (s := s) h0 h1
    obtain ⟨b2, ea', k0, k1, e2⟩ := stir_loop ms (cI x) b1 g0 g1
    exact ⟨b2, ea', k0, k1, (forL_nx (ρ1 := LN sc tu (cI b) (cI x) ow) rfl e).trans e2⟩
theorem e_source {ns : List Int} {i : Int} {s : S} (hl : ns.length ≤ 63) (h0 : 0 ≤ i) (h1 : i ≤ 2) : ∃ a b, 0 ≤ a ∧ 0 ≤ b ∧ b < 1000000007 ∧ f__law_source [.list (nsD ns), .int i] s = some ([.int a, .int b, .int 0], s) := by
  have bi : Bi i 31 := bi31 h0 (by omega)
  have b97 : Bi 977 31 := biAbs (by decide)
  have k1 : dMul (.int 977) (.int i) = _ := mulB (by decide)
  have t1 : sAsg (.nm 2) (m2 dAdd (mC (.int 40009)) (m2 dMul (mC (.int 977)) (mVar 1))) (startE 5 [.list (nsD ns), .int i]) s = some (.nx (LN (.list (nsD ns)) (cI i) (cI (40009 + 977 * i)) none none), s) := by
    simp [LN, startE, sAsg, bnd, m2, mThen, mLift, mVar, mC, k1, dAdd]
  obtain ⟨ms, hm, lm⟩ := nsD_cut ns
  obtain ⟨b, ea, b0, b1, e⟩ := stir_loop (sc := .list (nsD ns)) (tu := cI i) (ow := none) (s := s) ms none (40009 + 977 * i) (by omega) (by omega)
  have t2 : sFor (mIt (mSl (mVar 0) oNo (oSome (mC (.int 63))))) (.nm 3) lb__law_source_0 (LN (.list (nsD ns)) (cI i) (cI (40009 + 977 * i)) none none) s = _ := (sFor_at (by
    simp [LN, mIt, mThen, mLift, mVar, mC, mSl, oNo, oSome, dSl, hm, itOf])).trans e
  obtain ⟨c, hc0, t3⟩ : ∃ c, 0 ≤ c ∧ sAsg (.nm 4) (mIf (mB (m2 (dCmp fun i j => decide (i < j)) (mVar 1) (mCall bLen (aCons (mVar 0) aNil)))) (mCall bAbs (aCons (mCall bInt (aCons (m2 dIx (mVar 0) (mVar 1)) aNil)) aNil)) (mC (.int 0))) (LN (.list (nsD ns)) (cI i) (cI b) ea none) s = some (.nx (LN (.list (nsD ns)) (cI i) (cI b) ea (cI c)), s) := by
    by_cases h : i < (nsD ns).length
    · obtain ⟨c, e⟩ := nsD_at (ns := ns) h0 (by simpa [nsD] using h)
      refine ⟨(c.natAbs : Int), by omega, ?_⟩
      simp [LN, sAsg, bnd, mIf, mB, m2, mThen, mLift, mVar, mCall, aCons, aNil, bLen, dCmp, bOf, h, dIx, e, bInt, bAbs, abs_is]
    · refine ⟨0, by omega, ?_⟩
      simp [LN, sAsg, bnd, mIf, mB, m2, mThen, mLift, mVar, mC, mCall, aCons, aNil, bLen, dCmp, bOf, h]
  have p18 : dPow (.int 10) (.int 18) = some (.int 1000000000000000000) := by
    simp [dPow]
  have d1 : dMod (.int c) (.int 998244353) = _ := modB (by decide)
  have w0 := Int.emod_nonneg c (show (998244353 : Int) ≠ 0 by decide)
  have w1 := Int.emod_lt_of_pos c (show (0 : Int) < 998244353 by decide)
  generalize c % 998244353 = w at d1 w0 w1
  have bw := bi31 w0 (by omega)
  have b3 : Bi 3 2 := bi3
  have k3 : dMul (.int w) (.int 3) = _ := mulB (by decide)
  have d2 : dMod (.int (b + w * 3)) (.int 1000000007) = _ := modB (by decide)
  have z0 := Int.emod_nonneg (b + w * 3) (show (1000000007 : Int) ≠ 0 by decide)
  have z1 := Int.emod_lt_of_pos (b + w * 3) (show (0 : Int) < 1000000007 by decide)
  generalize (b + w * 3) % 1000000007 = z at d2 z0 z1
  have z3 : (3 : Nat) ≤ sizeLine := by rw [sizeLine_eq]; omega
  obtain ⟨a, ha, t4⟩ : ∃ a, 0 ≤ a ∧ sRetL (mLst (aCons (mIf (mB (m2 (dCmp fun i j => decide (j ≤ i)) (mVar 4) (m2 dPow (mC (.int 10)) (mC (.int 18))))) (mVar 4) (mC (.int 0))) (aCons (m2 dMod (mCall bInt (aCons (m2 dAdd (mVar 2) (m2 dMul (m2 dMod (mCall bInt (aCons (mVar 4) aNil)) (mC (.int 998244353))) (mC (.int 3)))) aNil)) (mC (.int 1000000007))) (aCons (mC (.int 0)) aNil)))) (LN (.list (nsD ns)) (cI i) (cI b) ea (cI c)) s = some (.rl [.int a, .int z, .int 0], s) := by
    by_cases h : 1000000000000000000 ≤ c
    · refine ⟨c, hc0, ?_⟩
      simp [LN, sRetL, mLst, aCons, aNil, mIf, mB, m2, mThen, mLift, mVar, mC, dCmp, bOf, h, p18, mCall, bInt, d1, k3, dAdd, d2, isDs, isD, z3]
    · refine ⟨0, by omega, ?_⟩
      simp [LN, sRetL, mLst, aCons, aNil, mIf, mB, m2, mThen, mLift, mVar, mC, dCmp, bOf, h, p18, mCall, bInt, d1, k3, dAdd, d2, isDs, isD, z3]
  exact ⟨a, z, ha, z0, z1, fnL_rl rfl ((sSeq_nx t1).trans ((sSeq_nx t2).trans ((sSeq_nx t3).trans t4)))⟩
/-! the law -/
theorem law_step {ns : List Int} {i : Int} (hl : ns.length ≤ 63) (h0 : 0 ≤ i) (h1 : i ≤ 2) : lb_law_0 [cD (.list (nsD ns)), cI i] [] = some (.nx [cD (.list (nsD ns)), cI i], []) := by
  obtain ⟨a, b, a0, b0, b1, e2⟩ := e_source (ns := ns) (i := i) (s := []) hl h0 h1
  obtain ⟨s3, e3⟩ := e_right (s := [.int a, .int b, .int 0]) ⟨a, b, 0, rfl, a0, b0, b1, by decide, by decide⟩
  simp [lb_law_0, mIf, mNot, mB, mSack, mFL, aCons, aNil, mThen, mLift, mVar, e2, e3, isD, bOf, sNx]
theorem law_loop {ns : List Int} (hl : ns.length ≤ 63) : ∀ (xs : List D) (t : Option Cell), (∀ x ∈ xs, ∃ i : Int, x = .int i ∧ 0 ≤ i ∧ i ≤ 2) → ∃ t', forL (.nm 1) lb_law_0 xs [cD (.list (nsD ns)), t] [] = some (.nx [cD (.list (nsD ns)), t'], [])
  | [], t, _ => ⟨t, rfl⟩
  | x :: xs, t, h => by
    obtain ⟨i, rfl, i0, i1⟩ := h _ List.mem_cons_self
    obtain ⟨t', e⟩ := law_loop hl xs (cI i) fun x hx => h x (List.mem_cons_of_mem _ hx)
    exact ⟨t', (forL_nx (ρ1 := [cD (.list (nsD ns)), cI i]) rfl (law_step hl i0 i1)).trans e⟩
theorem mA_at {f : List D → Option (List D)} {a : M (List D)} {ds xs : List D} {ρ : PL.Env} {s s' : S} (h : a ρ s = some (ds, s')) (h2 : f ds = some xs) : mA f a ρ s = some (xs, s') := by
  simp [mA, mThen, mLift, h, h2]
theorem aF_at {F : Fn} {X d : D} {ρ : PL.Env} {s s' : S} (h0 : ρ[0]? = some (cD X)) (h : F [X] s = some (d, s')) : aCons (mF F (aCons (mVar 0) aNil)) aNil ρ s = some ([d], s') := by
  simp [aCons, aNil, mF, mThen, mLift, mVar, h0, h]
theorem e_rounds {ns : List Int} {s : S} : ∃ j : Nat, j ≤ 3 ∧ f__law_rounds [.list (nsD ns)] s = some (.int (j : Int), s) := by
  generalize hn : ((nsD ns).length : Int) = n
  have n0 : 0 ≤ n := by omega
  refine ⟨(if (if 3 < n then 3 else n) > 2 then (if 3 < n then 3 else n) else 2).toNat, by split <;> split <;> omega, ?_⟩
  have nn : (((if (if 3 < n then 3 else n) > 2 then (if 3 < n then 3 else n) else 2).toNat : Nat) : Int) = (if (if 3 < n then 3 else n) > 2 then (if 3 < n then 3 else n) else 2) := by split <;> split <;> omega
  rw [nn]
  simp [f__law_rounds, g__law_rounds, fnM, startE, sRet, mCall, aCons, aNil, mThen, mLift, mVar, mC, bLen, hn, bMin, bMax]
theorem law_true : ∀ ns : List Int, ns.length ≤ 63 → (∀ z ∈ ns, Builtin.Int.intBits z ≤ 1048576) → ∃ s', f_law [.list (ns.map PyData.int)] [] = some (.bool true, s') := fun ns hl _ => by
  refine ⟨[], fnM_rt rfl ?_⟩
  obtain ⟨j, hj0, hj⟩ := e_rounds (ns := ns) (s := [])
  have ex : mA rg1 (aCons (mF WF.f__law_rounds (aCons (mVar 0) aNil)) aNil) [cD (.list (nsD ns)), none] [] = some (rgD 0 j, []) := mA_at (aF_at rfl hj) (rg1_n (by omega))
  obtain ⟨t', e⟩ := law_loop hl (rgD 0 j) none fun x hx => by
    unfold rgD at hx
    rw [List.mem_map] at hx
    obtain ⟨i, hi, rfl⟩ := hx
    rw [List.mem_range] at hi
    exact ⟨_, rfl, by omega, by omega⟩
  show g_law [cD (.list (nsD ns)), none] [] = _
  unfold g_law
  rw [sSeq_nx ((sFor_at ex).trans e)]
  rfl
end K02
namespace K02
open PySem PySem.Spec PyProof.Rows L2 PL
abbrev R : PySem.W.OpenRow := PySem.W.OpenLaw.row PySem.Challenge.rw_windfigure_k02_whole_points_and_directio
def lo0 : List PySem.Str := ["WindError", "InvalidFraction", "InvalidPoint", "InvalidDirection", "InvalidSide", "Same", "is_whole", "are_whole", "ratio", "point_of", "point_sum", "point_gap", "point_times", "point_between", "course_to", "side_of"]
def lo1 : List PySem.Str := ["along", "overshoot", "turn", "direction_along", "half_turn", "stands_before", "is_fraction", "is_point", "is_side", "is_direction", "need_fraction", "need_point", "need_side", "need_direction", "direction_of", "is_earlier"]
def lo2 : List PySem.Str := ["point_at", "plus", "minus", "times", "between", "sense", "side_through", "excess", "_law_source", "_law_rounds", "_law_draw", "_law_pick", "_law_least", "_law_spot", "_law_part", "_law_sum"]
def lo3 : List PySem.Str := ["_law_by", "_law_add", "_law_grow", "_law_midway", "_law_back", "_law_left", "_law_side", "_law_half", "_law_before", "_law_gust", "_law_share", "_law_sums_right", "_law_between_right", "_law_senses_right", "_law_directions_right", "_law_right"]
def lo4 : List PySem.Str := ["NOUGHT"]
def loose : List PySem.Str := lo0 ++ (lo1 ++ (lo2 ++ (lo3 ++ (lo4))))
def dDef (i : Nat) (x : Str) : He.DefD := ⟨(x, none), x, x, defArgs (top i), defBody (top i), defScope (top i), [], []⟩
def fn0 : List He.DefD := [dDef 3 "is_whole", dDef 4 "are_whole", dDef 5 "ratio", dDef 6 "point_of", dDef 7 "point_sum", dDef 8 "point_gap", dDef 9 "point_times", dDef 10 "point_between", dDef 11 "course_to", dDef 12 "side_of", dDef 13 "along", dDef 14 "overshoot"]
def fn1 : List He.DefD := [dDef 15 "turn", dDef 17 "direction_along", dDef 18 "half_turn", dDef 19 "stands_before", dDef 28 "is_fraction", dDef 29 "is_point", dDef 30 "is_side", dDef 31 "is_direction", dDef 32 "need_fraction", dDef 33 "need_point", dDef 34 "need_side", dDef 35 "need_direction"]
def fn2 : List He.DefD := [dDef 36 "direction_of", dDef 37 "is_earlier", dDef 38 "point_at", dDef 39 "plus", dDef 40 "minus", dDef 41 "times", dDef 42 "between", dDef 43 "sense", dDef 44 "side_through", dDef 45 "excess", dDef 47 "_law_source", dDef 48 "_law_rounds"]
def fn3 : List He.DefD := [dDef 49 "_law_draw", dDef 50 "_law_pick", dDef 51 "_law_least", dDef 52 "_law_spot", dDef 53 "_law_part", dDef 54 "_law_sum", dDef 55 "_law_by", dDef 56 "_law_add", dDef 57 "_law_grow", dDef 58 "_law_midway", dDef 59 "_law_back", dDef 60 "_law_left"]
def fn4 : List He.DefD := [dDef 61 "_law_side", dDef 62 "_law_half", dDef 63 "_law_before", dDef 64 "_law_gust", dDef 65 "_law_share", dDef 66 "_law_sums_right", dDef 67 "_law_between_right", dDef 68 "_law_senses_right", dDef 69 "_law_directions_right", dDef 70 "_law_right", dDef 71 "law"]
def fn : List He.DefD := fn0 ++ (fn1 ++ (fn2 ++ (fn3 ++ (fn4))))
def fa0 : List He.Fa := [.glo "is_whole", .glo "are_whole", .glo "ratio", .glo "point_of", .glo "point_sum", .glo "point_gap", .glo "point_times", .glo "point_between", .glo "course_to", .glo "side_of", .glo "along", .glo "overshoot"]
def fa1 : List He.Fa := [.glo "turn", .glo "direction_along", .glo "half_turn", .glo "stands_before", .glo "is_fraction", .glo "is_point", .glo "is_side", .glo "is_direction", .glo "need_fraction", .glo "need_point", .glo "need_side", .glo "need_direction"]
def fa2 : List He.Fa := [.glo "direction_of", .glo "is_earlier", .glo "point_at", .glo "plus", .glo "minus", .glo "times", .glo "between", .glo "sense", .glo "side_through", .glo "excess", .glo "_law_source", .glo "_law_rounds"]
def fa3 : List He.Fa := [.glo "_law_draw", .glo "_law_pick", .glo "_law_least", .glo "_law_spot", .glo "_law_part", .glo "_law_sum", .glo "_law_by", .glo "_law_add", .glo "_law_grow", .glo "_law_midway", .glo "_law_back", .glo "_law_left"]
def fa4 : List He.Fa := [.glo "_law_side", .glo "_law_half", .glo "_law_before", .glo "_law_gust", .glo "_law_share", .glo "_law_sums_right", .glo "_law_between_right", .glo "_law_senses_right", .glo "_law_directions_right", .glo "_law_right", .glo "law", .free "abs"]
def fa5 : List He.Fa := [.free "all", .free "bool", .free "divmod", .free "int", .free "isinstance", .free "len", .free "max", .free "min", .free "range", .free "repr", .free "tuple"]
def fa : List He.Fa := fa0 ++ (fa1 ++ (fa2 ++ (fa3 ++ (fa4 ++ (fa5)))))
def exs (K : PySem.W.Frag) : List Bool := [He.eqO (PySem.W.nsIn K mainGlobals "gcd") (some (some (.builtin "math.gcd"))), cstB K "NOUGHT" (.tuple [(.int 0), (.int 0), (.int 1)])]
def ex (K : PySem.W.Frag) : Bool := (exs K).all id
def ob (s : PySem.W.SharedT) : K1.AlQ := K1.obsQ fa fn ex (HandSHeadRun.getT s)
theorem ob_eq (s : PySem.W.SharedT) : ob s = (K1.hookQ fa fn ex).obs s.abs := K1.obsQ_eq (HandSHeadRun.getT_eq s)
theorem run (w : World) : HandSHeadRun.RunEqI R (PySem.W.view R.prog [0, 71]) (K1.hookQ fa fn ex) ob 40000 loose w := by
  unfold HandSHeadRun.RunEqI
  kernel_rfl
end K02
namespace K02
open PySem PySem.Spec PyProof.Rows L2 PL
section
variable {P : Program} {w : World} {K : PySem.W.Frag} {h : Heap} {mg : Str → Option Value}
theorem rowD (X : K.In h) (G : h.Ns mainGlobals mg) (c : He.SaysD fa fn K) : ∀ (i : Nat) (x : Str), nmOf i = some x → ∃ fd, FnP K x (top i) (He.ga K x) fd ∧ mg x = some (.ref (He.ga K x)) := by
  intro i x hi
  unfold nmOf at hi
  split at hi
  · cases hi
    obtain ⟨fd, F⟩ := c.def_ 0 (d := dDef 3 "is_whole") rfl
    exact ⟨fd, F, He.glo_ok X G (c.fact 0 (f := .glo "is_whole") rfl)⟩
  · cases hi
    obtain ⟨fd, F⟩ := c.def_ 1 (d := dDef 4 "are_whole") rfl
    exact ⟨fd, F, He.glo_ok X G (c.fact 1 (f := .glo "are_whole") rfl)⟩
  · cases hi
    obtain ⟨fd, F⟩ := c.def_ 2 (d := dDef 5 "ratio") rfl
    exact ⟨fd, F, He.glo_ok X G (c.fact 2 (f := .glo "ratio") rfl)⟩
  · cases hi
    obtain ⟨fd, F⟩ := c.def_ 3 (d := dDef 6 "point_of") rfl
    exact ⟨fd, F, He.glo_ok X G (c.fact 3 (f := .glo "point_of") rfl)⟩
  · cases hi
    obtain ⟨fd, F⟩ := c.def_ 4 (d := dDef 7 "point_sum") rfl
    exact ⟨fd, F, He.glo_ok X G (c.fact 4 (f := .glo "point_sum") rfl)⟩
  · cases hi
    obtain ⟨fd, F⟩ := c.def_ 5 (d := dDef 8 "point_gap") rfl
    exact ⟨fd, F, He.glo_ok X G (c.fact 5 (f := .glo "point_gap") rfl)⟩
  · cases hi
    obtain ⟨fd, F⟩ := c.def_ 6 (d := dDef 9 "point_times") rfl
    exact ⟨fd, F, He.glo_ok X G (c.fact 6 (f := .glo "point_times") rfl)⟩
  · cases hi
    obtain ⟨fd, F⟩ := c.def_ 7 (d := dDef 10 "point_between") rfl
    exact ⟨fd, F, He.glo_ok X G (c.fact 7 (f := .glo "point_between") rfl)⟩
  · cases hi
    obtain ⟨fd, F⟩ := c.def_ 8 (d := dDef 11 "course_to") rfl
    exact ⟨fd, F, He.glo_ok X G (c.fact 8 (f := .glo "course_to") rfl)⟩
  · cases hi
    obtain ⟨fd, F⟩ := c.def_ 9 (d := dDef 12 "side_of") rfl
    exact ⟨fd, F, He.glo_ok X G (c.fact 9 (f := .glo "side_of") rfl)⟩
  · cases hi
    obtain ⟨fd, F⟩ := c.def_ 10 (d := dDef 13 "along") rfl
    exact ⟨fd, F, He.glo_ok X G (c.fact 10 (f := .glo "along") rfl)⟩
  · cases hi
    obtain ⟨fd, F⟩ := c.def_ 11 (d := dDef 14 "overshoot") rfl
    exact ⟨fd, F, He.glo_ok X G (c.fact 11 (f := .glo "overshoot") rfl)⟩
  · cases hi
    obtain ⟨fd, F⟩ := c.def_ 12 (d := dDef 15 "turn") rfl
    exact ⟨fd, F, He.glo_ok X G (c.fact 12 (f := .glo "turn") rfl)⟩
  · cases hi
    obtain ⟨fd, F⟩ := c.def_ 13 (d := dDef 17 "direction_along") rfl
    exact ⟨fd, F, He.glo_ok X G (c.fact 13 (f := .glo "direction_along") rfl)⟩
  · cases hi
    obtain ⟨fd, F⟩ := c.def_ 14 (d := dDef 18 "half_turn") rfl
    exact ⟨fd, F, He.glo_ok X G (c.fact 14 (f := .glo "half_turn") rfl)⟩
  · cases hi
    obtain ⟨fd, F⟩ := c.def_ 15 (d := dDef 19 "stands_before") rfl
    exact ⟨fd, F, He.glo_ok X G (c.fact 15 (f := .glo "stands_before") rfl)⟩
  · cases hi
    obtain ⟨fd, F⟩ := c.def_ 16 (d := dDef 28 "is_fraction") rfl
    exact ⟨fd, F, He.glo_ok X G (c.fact 16 (f := .glo "is_fraction") rfl)⟩
  · cases hi
    obtain ⟨fd, F⟩ := c.def_ 17 (d := dDef 29 "is_point") rfl
    exact ⟨fd, F, He.glo_ok X G (c.fact 17 (f := .glo "is_point") rfl)⟩
  · cases hi
    obtain ⟨fd, F⟩ := c.def_ 18 (d := dDef 30 "is_side") rfl
    exact ⟨fd, F, He.glo_ok X G (c.fact 18 (f := .glo "is_side") rfl)⟩
  · cases hi
    obtain ⟨fd, F⟩ := c.def_ 19 (d := dDef 31 "is_direction") rfl
    exact ⟨fd, F, He.glo_ok X G (c.fact 19 (f := .glo "is_direction") rfl)⟩
  · cases hi
    obtain ⟨fd, F⟩ := c.def_ 20 (d := dDef 32 "need_fraction") rfl
    exact ⟨fd, F, He.glo_ok X G (c.fact 20 (f := .glo "need_fraction") rfl)⟩
  · cases hi
    obtain ⟨fd, F⟩ := c.def_ 21 (d := dDef 33 "need_point") rfl
    exact ⟨fd, F, He.glo_ok X G (c.fact 21 (f := .glo "need_point") rfl)⟩
  · cases hi
    obtain ⟨fd, F⟩ := c.def_ 22 (d := dDef 34 "need_side") rfl
    exact ⟨fd, F, He.glo_ok X G (c.fact 22 (f := .glo "need_side") rfl)⟩
  · cases hi
    obtain ⟨fd, F⟩ := c.def_ 23 (d := dDef 35 "need_direction") rfl
    exact ⟨fd, F, He.glo_ok X G (c.fact 23 (f := .glo "need_direction") rfl)⟩
  · cases hi
    obtain ⟨fd, F⟩ := c.def_ 24 (d := dDef 36 "direction_of") rfl
    exact ⟨fd, F, He.glo_ok X G (c.fact 24 (f := .glo "direction_of") rfl)⟩
  · cases hi
    obtain ⟨fd, F⟩ := c.def_ 25 (d := dDef 37 "is_earlier") rfl
    exact ⟨fd, F, He.glo_ok X G (c.fact 25 (f := .glo "is_earlier") rfl)⟩
  · cases hi
    obtain ⟨fd, F⟩ := c.def_ 26 (d := dDef 38 "point_at") rfl
    exact ⟨fd, F, He.glo_ok X G (c.fact 26 (f := .glo "point_at") rfl)⟩
  · cases hi
    obtain ⟨fd, F⟩ := c.def_ 27 (d := dDef 39 "plus") rfl
    exact ⟨fd, F, He.glo_ok X G (c.fact 27 (f := .glo "plus") rfl)⟩
  · cases hi
    obtain ⟨fd, F⟩ := c.def_ 28 (d := dDef 40 "minus") rfl
    exact ⟨fd, F, He.glo_ok X G (c.fact 28 (f := .glo "minus") rfl)⟩
  · cases hi
    obtain ⟨fd, F⟩ := c.def_ 29 (d := dDef 41 "times") rfl
    exact ⟨fd, F, He.glo_ok X G (c.fact 29 (f := .glo "times") rfl)⟩
  · cases hi
    obtain ⟨fd, F⟩ := c.def_ 30 (d := dDef 42 "between") rfl
    exact ⟨fd, F, He.glo_ok X G (c.fact 30 (f := .glo "between") rfl)⟩
  · cases hi
    obtain ⟨fd, F⟩ := c.def_ 31 (d := dDef 43 "sense") rfl
    exact ⟨fd, F, He.glo_ok X G (c.fact 31 (f := .glo "sense") rfl)⟩
  · cases hi
    obtain ⟨fd, F⟩ := c.def_ 32 (d := dDef 44 "side_through") rfl
    exact ⟨fd, F, He.glo_ok X G (c.fact 32 (f := .glo "side_through") rfl)⟩
  · cases hi
    obtain ⟨fd, F⟩ := c.def_ 33 (d := dDef 45 "excess") rfl
    exact ⟨fd, F, He.glo_ok X G (c.fact 33 (f := .glo "excess") rfl)⟩
  · cases hi
    obtain ⟨fd, F⟩ := c.def_ 34 (d := dDef 47 "_law_source") rfl
    exact ⟨fd, F, He.glo_ok X G (c.fact 34 (f := .glo "_law_source") rfl)⟩
  · cases hi
    obtain ⟨fd, F⟩ := c.def_ 35 (d := dDef 48 "_law_rounds") rfl
    exact ⟨fd, F, He.glo_ok X G (c.fact 35 (f := .glo "_law_rounds") rfl)⟩
  · cases hi
    obtain ⟨fd, F⟩ := c.def_ 36 (d := dDef 49 "_law_draw") rfl
    exact ⟨fd, F, He.glo_ok X G (c.fact 36 (f := .glo "_law_draw") rfl)⟩
  · cases hi
    obtain ⟨fd, F⟩ := c.def_ 37 (d := dDef 50 "_law_pick") rfl
    exact ⟨fd, F, He.glo_ok X G (c.fact 37 (f := .glo "_law_pick") rfl)⟩
  · cases hi
    obtain ⟨fd, F⟩ := c.def_ 38 (d := dDef 51 "_law_least") rfl
    exact ⟨fd, F, He.glo_ok X G (c.fact 38 (f := .glo "_law_least") rfl)⟩
  · cases hi
    obtain ⟨fd, F⟩ := c.def_ 39 (d := dDef 52 "_law_spot") rfl
    exact ⟨fd, F, He.glo_ok X G (c.fact 39 (f := .glo "_law_spot") rfl)⟩
  · cases hi
    obtain ⟨fd, F⟩ := c.def_ 40 (d := dDef 53 "_law_part") rfl
    exact ⟨fd, F, He.glo_ok X G (c.fact 40 (f := .glo "_law_part") rfl)⟩
  · cases hi
    obtain ⟨fd, F⟩ := c.def_ 41 (d := dDef 54 "_law_sum") rfl
    exact ⟨fd, F, He.glo_ok X G (c.fact 41 (f := .glo "_law_sum") rfl)⟩
  · cases hi
    obtain ⟨fd, F⟩ := c.def_ 42 (d := dDef 55 "_law_by") rfl
    exact ⟨fd, F, He.glo_ok X G (c.fact 42 (f := .glo "_law_by") rfl)⟩
  · cases hi
    obtain ⟨fd, F⟩ := c.def_ 43 (d := dDef 56 "_law_add") rfl
    exact ⟨fd, F, He.glo_ok X G (c.fact 43 (f := .glo "_law_add") rfl)⟩
  · cases hi
    obtain ⟨fd, F⟩ := c.def_ 44 (d := dDef 57 "_law_grow") rfl
    exact ⟨fd, F, He.glo_ok X G (c.fact 44 (f := .glo "_law_grow") rfl)⟩
  · cases hi
    obtain ⟨fd, F⟩ := c.def_ 45 (d := dDef 58 "_law_midway") rfl
    exact ⟨fd, F, He.glo_ok X G (c.fact 45 (f := .glo "_law_midway") rfl)⟩
  · cases hi
    obtain ⟨fd, F⟩ := c.def_ 46 (d := dDef 59 "_law_back") rfl
    exact ⟨fd, F, He.glo_ok X G (c.fact 46 (f := .glo "_law_back") rfl)⟩
  · cases hi
    obtain ⟨fd, F⟩ := c.def_ 47 (d := dDef 60 "_law_left") rfl
    exact ⟨fd, F, He.glo_ok X G (c.fact 47 (f := .glo "_law_left") rfl)⟩
  · cases hi
    obtain ⟨fd, F⟩ := c.def_ 48 (d := dDef 61 "_law_side") rfl
    exact ⟨fd, F, He.glo_ok X G (c.fact 48 (f := .glo "_law_side") rfl)⟩
  · cases hi
    obtain ⟨fd, F⟩ := c.def_ 49 (d := dDef 62 "_law_half") rfl
    exact ⟨fd, F, He.glo_ok X G (c.fact 49 (f := .glo "_law_half") rfl)⟩
  · cases hi
    obtain ⟨fd, F⟩ := c.def_ 50 (d := dDef 63 "_law_before") rfl
    exact ⟨fd, F, He.glo_ok X G (c.fact 50 (f := .glo "_law_before") rfl)⟩
  · cases hi
    obtain ⟨fd, F⟩ := c.def_ 51 (d := dDef 64 "_law_gust") rfl
    exact ⟨fd, F, He.glo_ok X G (c.fact 51 (f := .glo "_law_gust") rfl)⟩
  · cases hi
    obtain ⟨fd, F⟩ := c.def_ 52 (d := dDef 65 "_law_share") rfl
    exact ⟨fd, F, He.glo_ok X G (c.fact 52 (f := .glo "_law_share") rfl)⟩
  · cases hi
    obtain ⟨fd, F⟩ := c.def_ 53 (d := dDef 66 "_law_sums_right") rfl
    exact ⟨fd, F, He.glo_ok X G (c.fact 53 (f := .glo "_law_sums_right") rfl)⟩
  · cases hi
    obtain ⟨fd, F⟩ := c.def_ 54 (d := dDef 67 "_law_between_right") rfl
    exact ⟨fd, F, He.glo_ok X G (c.fact 54 (f := .glo "_law_between_right") rfl)⟩
  · cases hi
    obtain ⟨fd, F⟩ := c.def_ 55 (d := dDef 68 "_law_senses_right") rfl
    exact ⟨fd, F, He.glo_ok X G (c.fact 55 (f := .glo "_law_senses_right") rfl)⟩
  · cases hi
    obtain ⟨fd, F⟩ := c.def_ 56 (d := dDef 69 "_law_directions_right") rfl
    exact ⟨fd, F, He.glo_ok X G (c.fact 56 (f := .glo "_law_directions_right") rfl)⟩
  · cases hi
    obtain ⟨fd, F⟩ := c.def_ 57 (d := dDef 70 "_law_right") rfl
    exact ⟨fd, F, He.glo_ok X G (c.fact 57 (f := .glo "_law_right") rfl)⟩
  · cases hi
    obtain ⟨fd, F⟩ := c.def_ 58 (d := dDef 71 "law") rfl
    exact ⟨fd, F, He.glo_ok X G (c.fact 58 (f := .glo "law") rfl)⟩
  · cases hi
def adA (K : PySem.W.Frag) (i : Nat) : Addr := He.ga K ((nmOf i).getD Str.empty)
theorem pgFacts (X : K.In h) (G : h.Ns mainGlobals mg) (c : He.SaysD fa fn K) : ∃ Dd : Nat → FuncData, Pg K mg (adA K) Dd := by
  obtain ⟨fd0, _⟩ := c.def_ 0 (d := dDef 3 "is_whole") rfl
  have p : ∀ i : Nat, ∃ fd, ∀ x, nmOf i = some x → FnP K x (top i) (He.ga K x) fd ∧ mg x = some (.ref (He.ga K x)) := fun i => by
    cases q : nmOf i with
    | none => exact ⟨fd0, fun x z => nomatch z⟩
    | some y =>
      obtain ⟨fd, k⟩ := rowD X G c i y q
      exact ⟨fd, fun x z => by cases z; exact k⟩
  obtain ⟨Dd, hD⟩ := Classical.axiomOfChoice p
  refine ⟨Dd, ⟨fun i x e => ?_⟩⟩
  have z := hD i x e
  unfold adA
  rw [e]
  exact z
theorem nmFacts (X : K.In h) (G : h.Ns mainGlobals mg) (hx0 : ex K = true) (c : He.SaysD fa fn K) : Nm K mg := by
  have hx : ∀ b ∈ exs K, b = true := fun b hb => by
    have := List.all_eq_true.mp hx0 b hb
    exact this
  exact ⟨He.free_ok X G (c.fact 59 (f := .free "abs") rfl), He.free_ok X G (c.fact 60 (f := .free "all") rfl), He.free_ok X G (c.fact 61 (f := .free "bool") rfl), He.free_ok X G (c.fact 62 (f := .free "divmod") rfl), He.free_ok X G (c.fact 63 (f := .free "int") rfl), He.free_ok X G (c.fact 64 (f := .free "isinstance") rfl), He.free_ok X G (c.fact 65 (f := .free "len") rfl), He.free_ok X G (c.fact 66 (f := .free "max") rfl), He.free_ok X G (c.fact 67 (f := .free "min") rfl), He.free_ok X G (c.fact 68 (f := .free "range") rfl), He.free_ok X G (c.fact 69 (f := .free "repr") rfl), He.free_ok X G (c.fact 70 (f := .free "tuple") rfl), PySem.W.mg_of X G (He.eqO_ok (hx _ (List.mem_of_getElem? (i := 0) rfl))), cst_ok X G (hx _ (List.mem_of_getElem? (i := 1) rfl))⟩
theorem lawFacts (X : K.In h) (G : h.Ns mainGlobals mg) {f : Addr} (hfa : mg "law" = some (.ref f)) (hx : ex K = true) (c : He.SaysD fa fn K) :
    ∃ fd : FuncData, (∀ (s : Shared) (v : Value), BindsTo s fd ⟨[v], []⟩ [("_law_script", v)]) ∧ ∀ base : Heap, K.In base → base.Ns mainGlobals mg → FnG P w K mg base CX0 8 f fd ["_law_script"] (spF K f_law) := by
  obtain ⟨Dd, T⟩ := pgFacts X G c
  have N := nmFacts X G hx c
  have e := hfa.symm.trans (T.fn 71 "law" rfl).2
  cases e
  have b := FunD.bindsA (ps := ["_law_script"]) (T.fn 71 "law" rfl).1 fun _ _ _ _ _ _ us hl => match us, hl with | [_], _ => rfl
  exact ⟨Dd 71, fun s v => b s [v] rfl, fun base _ _ => ok_law T N⟩
end
end K02
open PySem PySem.W PySem.Calls PyProof.Rows
theorem PySem.Challenge.cw_windfigure_k02_whole_points_and_directio_holds : PySem.Challenge.rw_windfigure_k02_whole_points_and_directio.Holds := by
  w_on; o_law
  refine HandSHeadRun.head_imp (r := OpenLaw.row PySem.Challenge.rw_windfigure_k02_whole_points_and_directio) (q := view (OpenLaw.row PySem.Challenge.rw_windfigure_k02_whole_points_and_directio).prog [0, 71]) (H := K1.hookQ K02.fa K02.fn K02.ex) (ob := K02.ob) (M := 40000) (loose := K02.loose) (d := HandSHeadRun.topDef (OpenLaw.row PySem.Challenge.rw_windfigure_k02_whole_points_and_directio).prog 71) (kwd := []) K02.ob_eq K02.run
    (by kernel_rfl) (by kernel_rfl) (by kernel_rfl) (by rfl) (by first | assumption | decide +kernel) (by decide +kernel) ⟨rfl, rfl, rfl, rfl, rfl, by decide +kernel⟩ ?hw ?hc
  case hw => w_witness2
  case hc =>
    refine PL.walkG (l := PySem.Challenge.rw_windfigure_k02_whole_points_and_directio) (n := 63) (k := 8) (x := "_law_script") rfl (by decide) (by kernel_rfl) ⟨rfl, by decide, by decide⟩ ?F
    intro w mg fa h Y G hmg0
    obtain ⟨K, KX, hx, c⟩ := Y
    have hmg : mg ("law" : PySem.Str) = some (.ref fa) := by
      have e : (HandSHeadRun.topDef (OpenLaw.row PySem.Challenge.rw_windfigure_k02_whole_points_and_directio).prog 71).name = ("law" : PySem.Str) := by kernel_rfl
      rw [← e]
      exact hmg0
    obtain ⟨fd, hb, hF⟩ := K02.lawFacts (P := (PySem.Challenge.rw_windfigure_k02_whole_points_and_directio).prog) (w := w) KX G hmg hx c
    exact ⟨K, fd, PL.spF K K02.f_law, KX, hb, fun H a ns hl hz _ hS => PL.spF_law K02.law_true H a ns hl hz hS, hF⟩
