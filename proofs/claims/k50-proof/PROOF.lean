import PyProof.Rows.All
import Wide.All
import OpenK.AllK
import Wide.FinOn
import HandS.Head0
import HandS.Head1
import HandS.Head2
import HandS.HeadHook1
import HandS.HeadHook2
import HandS.HeadHook4
import HandS.Base
import HandS.Call
import HandS.List
import HandS.Defaults
import HandS.Comp
import HandS.Head3
import HandS.EndBits
import HandS.Words
import HandS.NoneIn
import HandS.Wide
import HandS.Gcd
import HandS.IsInst
import HandS.TupLe
import HandS.TupAny
import KE.DataEq
import PyProof.MaxThree
import HandS.WideBits
import HandS.Style
import HandS.TupSets
import HandS.SetBool
import HandS.SortRule
import KE.GoesMore
import KE.KMathG
import HandS.Iter
import HandS.Zip
import KE.GoesEnum
import PySem.Challenge.RW_windfigure_k50_whole_rise_and_fall_of_wa
set_option Elab.async false
set_option linter.all false
set_option maxRecDepth 100000
set_option maxHeartbeats 0
namespace K1
open PySem PySem.Spec PyProof.Rows L2
/-! ### a Hook that looks at what the globals reach, and no further -/
def refsQ (o : Obj) : List Addr := match o.data with
  | .dict es _ => es.toList.flatMap fun e => He.refV e.val
  | .cls cd => [cd.ns]
  | .func fd => He.refV fd.code
  | .seq its _ => its.toList.flatMap He.refV
  | _ => []
def stepQ (g : Addr → Option Obj) : List Addr → List Addr
  | [] => []
  | a :: r => (match g a with
    | some o => refsQ o
    | none => []) ++ stepQ g r
def asQ (g : Addr → Option Obj) : List Addr :=
  mainGlobals :: (stepQ g [mainGlobals] ++ (stepQ g (stepQ g [mainGlobals]) ++ (stepQ g (stepQ g (stepQ g [mainGlobals])) ++ stepQ g (stepQ g (stepQ g (stepQ g [mainGlobals]))))))
/-- a list of addresses, each one reckoned, then k -/
def evL {α : Type} : List Addr → (List Addr → α) → α
  | [], k => k []
  | a :: r, k => HandSHeadRun.frNat a fun a => evL r fun r => k (a :: r)
theorem evL_eq {α : Type} : ∀ (l : List Addr) (k : List Addr → α), evL l k = k l
  | [], _ => rfl
  | a :: r, k => by
    show HandSHeadRun.frNat a (fun a => evL r fun r => k (a :: r)) = k (a :: r)
    rw [HandSHeadRun.frNat_eq, evL_eq r]
/-- the fragment, entry by entry, then k -/
def evK {α : Type} (g : Addr → Option Obj) : List Addr → (PySem.W.Frag → α) → α
  | [], k => k []
  | a :: r, k => match g a with
    | some o => evK g r fun K => k ((a, o) :: K)
    | none => evK g r k
theorem evK_eq {α : Type} (g : Addr → Option Obj) : ∀ (l : List Addr) (k : PySem.W.Frag → α), evK g l k = k (He.frG g l)
  | [], _ => rfl
  | a :: r, k => by
    unfold evK He.frG
    rw [List.filterMap_cons]
    cases h : g a with
    | none =>
      show evK g r k = _
      rw [evK_eq g r]
      rfl
    | some o =>
      show evK g r (fun K => k ((a, o) :: K)) = _
      rw [evK_eq g r]
      rfl
abbrev AlQ : Type := Bool × He.AlD
def obsQ (fa : List He.Fa) (fn : List He.DefD) (ex : PySem.W.Frag → Bool) (g : Addr → Option Obj) : AlQ :=
  evL (asQ g) fun l => evK g l fun K => (ex K, He.obsD fa fn K)
theorem obsQ_is {fa : List He.Fa} {fn : List He.DefD} {ex : PySem.W.Frag → Bool} {g : Addr → Option Obj} : obsQ fa fn ex g = (ex (He.frG g (asQ g)), He.obsD fa fn (He.frG g (asQ g))) := by
  unfold obsQ
  rw [evL_eq, evK_eq]
def hookQ (fa : List He.Fa) (fn : List He.DefD) (ex : PySem.W.Frag → Bool) : PySem.W.Hook where
  α := AlQ
  obs := fun s => obsQ fa fn ex s.heap.get?
  val := fun _ => (true, He.valD fn)
  says := fun _ h => ∃ K : PySem.W.Frag, K.In h ∧ ex K = true ∧ He.SaysD fa fn K
  of := fun _ _ e => by
    rw [obsQ_is] at e
    exact ⟨_, He.frG_in, congrArg Prod.fst e, congrArg Prod.snd e⟩
  keeps := fun _ _ _ ⟨K, hK, c⟩ k => ⟨K, PySem.W.Frag.In.keeps hK k, c⟩
theorem obsQ_eq {fa : List He.Fa} {fn : List He.DefD} {ex : PySem.W.Frag → Bool} {g : Addr → Option Obj} {s : Shared} (h : ∀ a, g a = s.heap.get? a) : obsQ fa fn ex g = (hookQ fa fn ex).obs s := by
  have e : g = s.heap.get? := funext h
  rw [e] <;> rfl
end K1
namespace PL
open PySem PySem.Spec PyProof.Rows L2
/-! ### defs that ask for repr: called where no repr is under way -/
structure FnG (P : Program) (w : World) (K : PySem.W.Frag) (mg : Str → Option Value) (base : Heap) (CX : CXT) (k : Nat) (f : Addr) (fd : FuncData) (ps : List Str) (sp : Sp) : Prop where
  len : ∀ vs H Q E, sp vs H Q E → vs.length = ps.length
  run : ∀ (A : Around) (outer : List Env) (s : Shared) (H : Hp) (args : Args) (us : List Value) (vs : List V) (Q : VK) (E : XK), A.guards = some [] → Room k A → Env0 P w K mg base A outer s H → BindsTo s fd args (ps.zip us) → Vals vs us →
    sp vs H Q E → codeAny (model P w) A (.call (.ref f) args) (CR CX outer P w H s Q E) s
section
variable {P : Program} {w : World} {K : PySem.W.Frag} {mg : Str → Option Value} {base : Heap}
theorem fnG_of {CX : CXT} {k : Nat} {f : Addr} {nm qu : Str} {pars : Arguments} {bd : List Stmt} {sc : Scope} {dvs : List V} {kws : List (Str × V)} {fd : FuncData} {N ps : List Str} {sp : Sp}
    (F : FunD K nm qu pars bd sc dvs kws f fd) (S : FnScope N ps sc) (len : ∀ vs H Q E, sp vs H Q E → vs.length = ps.length)
    (body : ∀ (cdv : Value) (A : Around) (outer : List Env) (s : Shared) (H : Hp) (vs : List V) (Q : VK) (E : XK), (cxOf CX P w K mg base N qu sc f cdv A outer s H E).A.guards = some [] →
      Room k (A.deeper (envOfC qu sc s.heap.objs.size f cdv)) → sp vs H Q E →
      ∃ t, PSs (cxOf CX P w K mg base N qu sc f cdv A outer s H E) bd t ∧ t { nx := fun _ H' => Q .non H', rt := Q } (start N vs) H) : FnG P w K mg base CX (k + 1) f fd ps sp := by
  obtain ⟨oc, od, dV, kV, doc, pm, an, cdv, ct, osl, rfl, lk, hcd, _, _⟩ := F.ex
  refine ⟨len, fun A outer s H args us vs Q E hgd hr e0 hb r hsp => ?_⟩
  have hl := len _ _ _ _ hsp
  have kin : K.In s.heap := e0.mod.kin.keeps fun b o e => (e0.bs b o e).1
  have nol : s.heap.NoLimit := e0.mod.nolimit.keeps fun b o e => (e0.bs b o e).1
  have kinds : ∀ y ∈ ps.zip us, sc.names.lookup y.1 = some .local ∨ (sc.names.lookup y.1 = some .cell ∧ ((cellsFrom (s.heap.objs.size + 1) sc.names []).lookup y.1).isSome = true) := by
    rintro ⟨n, v⟩ hy
    rcases S.par n (List.of_mem_zip hy).1 with q | q
    · exact .inl q
    · exact .inr ⟨q, PySem.W.cellsFrom_some _ _ _ (.inl q)⟩
  refine codeAny_call_function hr.depth (kin _ _ lk) rfl S.co S.gen rfl (PySem.W.codeRec_of kin hcd) (hb _ _ _ _ ?_)
  refine wpAny_newFunctionEnv_cells S.kind kinds fun env he sB x => ?_
  subst he
  refine ⟨nol.keeps x.toInCall.keep, codeAny_func ?_⟩
  obtain ⟨t, ht, hq⟩ := body cdv A outer s H vs Q E hgd (hr.deeper _) hsp
  have I : Inv (cxOf CX P w K mg base N qu sc f cdv A outer s H E) [] (start N vs) H sB := inv_start S hr.hd e0 hl r x
  refine wpAny_mono (ht.run [] sB (start N vs) H _ I hq) (fun fl s' hs => ?_) fun e s' hs => hs
  have fin : ∀ {σ' : L2.St} {H' : Hp} {v : V} {u : Value}, Inv (cxOf CX P w K mg base N qu sc f cdv A outer s H E) [] σ' H' s' → RelV v u → Q v H' → CE outer P w H s Q u s' :=
    fun {_ H' v _} J rv q => ⟨v, H', J.os, J.bare, J.base, J.hok, rv, q⟩
  cases fl with
  | ret u =>
    obtain ⟨v, σ', H', J, rv, q⟩ := hs
    exact fin J rv q
  | next =>
    obtain ⟨σ', H', J, q⟩ := hs
    exact fin (v := V.non) (u := Value.none) J rfl q
  | brk =>
    obtain ⟨_, _, _, q⟩ := hs
    exact q.elim
  | cont =>
    obtain ⟨_, _, _, q⟩ := hs
    exact q.elim
end
section
variable {X : Cx} {k : Nat} {f : Addr} {fd : FuncData} {ps : List Str} {sp : Sp} {x : Str} {p pos : Pos} {e : Expr} {es : List Expr} {t : TA}
theorem runG {pins : List (Addr × Obj)} {σ : L2.St} {H : Hp} {s : Shared} {Q : VK} {us : List Value} {vs : List V} (F : FnG X.prog X.w X.K X.mg X.base CX0 k f fd ps sp) (hgd : X.A.guards = some []) (hr : Room k X.A) (hb : Binds X.K fd ps [])
    (I : Inv X pins σ H s) (r : Vals vs us) (h : sp vs H Q E0) : wpAny (model X.prog X.w) X.A (call (.ref f) us) (EP X pins σ Q) X.xe s := by
  have hl : us.length = ps.length := by rw [← r.length]; exact F.len _ _ _ _ h
  have b := hb s us I.kIn (by rw [List.append_nil]; exact hl)
  rw [List.append_nil] at b
  refine wpAny_call (codeAny_mono (F.run X.A X.stack s H ⟨us, []⟩ us vs Q E0 hgd hr I.env0 b r h) fun r s' hq => ?_)
  cases r with
  | error e => exact hq.elim
  | ok fl =>
    cases fl with
    | ret u => exact I.after hq
    | next => exact hq.elim
    | brk => exact hq.elim
    | cont => exact hq.elim
theorem pe_callG (F : FnG X.prog X.w X.K X.mg X.base CX0 k f fd ps sp) (hgd : X.A.guards = some []) (hr : Room k X.A) (hg : Gl X x) (hm : X.mg x = some (.ref f)) (hk : PySem.W.keepIn X.K (.ref f) = true) (hb : Binds X.K fd ps [])
    (ha : PA X (e :: es) t) (hdb : (x == ("__debug__" : Str)) = false := by decide) (he : starEach (e :: es) X.env = (false, eval e X.env) :: starEach es X.env := by rfl) (hpl : (backTo pos (starEach es X.env)).any (·.1) = false := by rfl) :
    PE X (.Call (.Name x p) (e :: es) [] pos) (tCall sp [] E0 t) := by
  refine ⟨fun pins s σ H Q I h => ?_⟩
  refine wpAny_Call_Name_kw (ld_glob I hg hm ?_ hdb)
  refine PySem.W.callWith_K (h₀ := X.base) I.ok.mod.kin hk (thn (ha.run pos pins s σ H _ I h) fun us sA ⟨vs, H1, I1, r, q⟩ => ⟨I1.kIn, ?_⟩) he hpl
  have q2 : sp (vs ++ []) H1 Q E0 := q
  rw [List.append_nil] at q2
  exact runG F hgd hr hb I1 r q2
end
/-! ### repr of data -/
/-- v shows as d in H: data of any depth, or an empty dict -/
def Shows (K : PySem.W.Frag) (H : Hp) (v : V) (d : PyData) : Prop := Dp K H v d ∨ ∃ a, v = .ref a ∧ d = .dict [] ∧ H a = some (.dK [])
def rRepr (K : PySem.W.Frag) : List V → Hp → VK → Prop := fun xs H Q => ∃ (v : V) (d : PyData), xs = [v] ∧ Shows K H v d ∧ d.showable = true ∧ d.depth ≤ 60 ∧ d.shown.length ≤ sizeLine ∧ Q (.str d.shown) H
theorem dp_noDict {K : PySem.W.Frag} {H : Hp} : (∀ (d : PyData) (v : V), Dp K H v d → d.hasDict = false) ∧ ∀ (ds : List PyData) (vs : List V), DpAll K H vs ds → PyData.hasDictAll ds = false := by
  have key : ∀ (n : Nat), (∀ (d : PyData) (v : V), sizeOf d ≤ n → Dp K H v d → d.hasDict = false) ∧ ∀ (ds : List PyData) (vs : List V), sizeOf ds ≤ n → DpAll K H vs ds → PyData.hasDictAll ds = false := by
    intro n
    induction n with
    | zero =>
      refine ⟨fun d v hz _ => ?_, fun ds vs hz _ => ?_⟩
      · cases d <;> simp at hz <;> omega
      · cases ds <;> simp at hz <;> omega
    | succ n ih =>
      refine ⟨fun d v hz h => ?_, fun ds vs hz h => ?_⟩
      · cases h with
        | non => rfl
        | bl b => rfl
        | int i => rfl
        | str x => rfl
        | lst hs ha =>
          rename_i ds
          unfold PyData.hasDict
          exact ih.2 _ _ (by simp at hz; omega) ha
        | tup hs ha =>
          rename_i ds
          unfold PyData.hasDict
          exact ih.2 _ _ (by simp at hz; omega) ha
      · cases h with
        | nil => rfl
        | cons h1 h2 =>
          unfold PyData.hasDictAll
          rw [ih.1 _ _ (by simp at hz; omega) h1, ih.2 _ _ (by simp at hz; omega) h2]
          rfl
  exact ⟨fun d v h => (key _).1 d v (Nat.le_refl _) h, fun ds vs h => (key _).2 ds vs (Nat.le_refl _) h⟩
theorem call_reprD {X : Cx} (hgd : X.A.guards = some []) (hu : X.A.units + 64 < cLine) : CallR X (.builtin "repr") (rRepr X.K) := by
  intro pins s σ H xs us Q I r h
  obtain ⟨v, d, rfl, hd, hs, hdp, hz, q⟩ := h
  obtain ⟨u, rfl, ru⟩ := vals1 r
  rcases hd with hd | ⟨a, rfl, rfl, ha⟩
  · obtain ⟨as, rd⟩ := Dp.reads I d v u hd ru
    have hnd := dp_noDict.1 d v hd
    cases rd with
    | none => exact PySem.P.repr_of_none ⟨.str _, H, I.tok _, ⟨_, rfl⟩, q⟩
    | bool b => exact PySem.P.repr_of_bool ⟨.str _, H, I.tok _, ⟨_, rfl⟩, by cases b <;> exact q⟩
    | int i t => exact PySem.P.repr_of_int (by simpa [PyData.showable] using hs) ⟨.str _, H, I.tok _, ⟨_, rfl⟩, q⟩
    | str x t => exact PySem.P.repr_of_str ⟨.str _, H, I.tok _, ⟨_, rfl⟩, q⟩ hz
    | list h1 h2 h3 h4 => exact repr_of_reads' (Reads.list h1 h2 h3 h4) hs (fun z => by rw [hnd] at z; cases z) hgd (by omega) (fun _ _ e => e) (fun h' t' tk kp => ⟨.str _, H, I.kept kp, ⟨_, rfl⟩, q⟩) hz
    | tuple h1 h2 h3 h4 => exact repr_of_reads' (Reads.tuple h1 h2 h3 h4) hs (fun z => by rw [hnd] at z; cases z) hgd (by omega) (fun _ _ e => e) (fun h' t' tk kp => ⟨.str _, H, I.kept kp, ⟨_, rfl⟩, q⟩) hz
    | dict h1 h2 h3 h4 h5 => exact absurd hnd (by simp [PyData.hasDict])
  · obtain rfl : u = Value.ref a := ru
    obtain ⟨_, hsm, vs, kv, hdo⟩ := I.hok a _ ha
    cases kv
    obtain ⟨o, es, ep, ho, hex, hdat, hes, hpr, _⟩ := hdo
    have he : es.toList = [] := by
      generalize es.toList = l at hpr
      cases hpr
      rfl
    have rd : Reads s.heap (.ref a) (.dict []) (a :: [] ++ []) := by
      refine Reads.dict ho hex.1 hdat ?_ ?_
      · rw [he]; exact ReadsAll.nil
      · rw [he]; exact ReadsAll.nil
    exact repr_of_reads' rd hs (fun _ z => by
      have z2 : sysModules = a := by simpa using z
      rw [z2] at hsm
      simp at hsm) hgd (by omega) (fun _ _ e => e) (fun h' t' tk kp => ⟨.str _, H, I.kept kp, ⟨_, rfl⟩, q⟩) hz
/-! ### the law's own head, its def asking for repr -/
theorem callLawG {P : Program} {w : World} {K : PySem.W.Frag} {mg mb : Str → Option Value} {k : Nat} {fa a : Addr} {fd : FuncData} {x : Str} {sp : Sp} {sB : Shared} {vs : List Value} {ns : List Int}
    (kin : K.In sB.heap) (hns : sB.heap.Ns mainGlobals mg) (hbn : sB.heap.Ns builtinsNs mb) (hbb : ∀ x : Str, x ≠ "__name__" → mb x = bootBuiltins x) (nol : sB.heap.NoLimit) (hgen : sB.gens = #[])
    (hobj : sB.heap.get? a = some { cls := .type "list", data := .seq vs.toArray }) (hints : IntsAre vs ns) (hlen : ns.length ≤ sizeLine) (hr : Room k callerA)
    (F : ∀ base : Heap, K.In base → base.Ns mainGlobals mg → FnG P w K mg base CX0 k fa fd [x] sp) (hbind : ∀ (s : Shared) (u : Value), BindsTo s fd ⟨[u], []⟩ [(x, u)])
    (hsp : ∀ H : Hp, Only H → SqL K H a (ns.map V.int) → sp [.ref a] H (fun v _ => v = .bl true) E0) :
    codeAny (model P w) callerA (.call (.ref fa) ⟨[.ref a], []⟩) (fun r s' => r = .ok (.ret (.bool true)) ∧ OldK sB.heap s'.heap ∧ s'.os = sB.os ∧ AllBare s'.gens) sB := by
  have rv := vals_ints hints
  have lenV := hints.length
  have main : ∀ H : Hp, Only H → SqL K H a (ns.map V.int) → HOk P w H sB.heap → (∀ b, H b ≠ none → b = a) → (H a ≠ none → K.lookup a = none) →
      codeAny (model P w) callerA (.call (.ref fa) ⟨[.ref a], []⟩) (fun r s' => r = .ok (.ret (.bool true)) ∧ OldK sB.heap s'.heap ∧ s'.os = sB.os ∧ AllBare s'.gens) sB := by
    intro H only seq hok onlyA noK
    have hid : ∀ {b : Addr} {o : Obj}, sB.heap.get? b = some o → H b = none → (hidT sB.heap H).get? b = some o := fun e n => hidT_get e n
    have noD : ∀ {b : Addr} {o : Obj} {es : Array DictEntry} {ep : Nat}, sB.heap.get? b = some o → o.data = .dict es ep → H b = none := by
      intro b o es ep e d
      cases q : H b with
      | none => rfl
      | some u =>
        have e' : b = a := onlyA b (by rw [q]; simp)
        subst e'
        rw [hobj] at e
        cases e
        have d' : Data.seq vs.toArray _ = Data.dict es ep := d
        cases d'
    have nsOf : ∀ {b : Addr} {m : Str → Option Value}, sB.heap.Ns b m → (hidT sB.heap H).Ns b m := fun {_ _} ⟨o, es, ep, e, d, r⟩ => ⟨o, es, ep, hid e (noD e d), d, r⟩
    have kinB : K.In (hidT sB.heap H) := by
      intro b o e
      refine hid (kin b o e) ?_
      cases q : H b with
      | none => rfl
      | some u =>
        have e' : b = a := onlyA b (by rw [q]; simp)
        subst e'
        rw [noK (by rw [q]; simp)] at e
        cases e
    obtain ⟨mc, l1, l2⟩ := nol
    have hM : Mod K mg (hidT sB.heap H) := ⟨kinB, nsOf hns, ⟨mb, nsOf hbn, hbb⟩, ⟨mc, nsOf l1, l2⟩⟩
    have en : Env0 P w K mg (hidT sB.heap H) callerA [] sB H := ⟨rfl, hM, fun b o e => of_hidT e, Nat.le_of_eq (hidT_size _ _), trivial, fun b hb => absurd (show b ∈ ([] : List Addr) from hb) (by simp), hok, .of_eq hgen⟩
    refine codeAny_mono ((F _ kinB (nsOf hns)).run callerA [] sB H ⟨[.ref a], []⟩ [.ref a] [.ref a] _ _ rfl hr en (hbind sB (.ref a)) (.cons rfl .nil) (hsp H only seq)) fun r s' h => ?_
    cases r with
    | error e => exact h.elim
    | ok fl =>
      cases fl with
      | next => exact h.elim
      | brk => exact h.elim
      | cont => exact h.elim
      | ret u =>
        obtain ⟨v, H', os, bare, un, hok', r', q⟩ := h
        have q' : v = .bl true := q
        subst q'
        obtain rfl : u = Value.bool true := r'
        refine ⟨rfl, OldK.of_keep fun b o e => ?_, os, bare⟩
        cases q : H b with
        | none => exact un.keep b o e q (fun z => absurd (show b ∈ ([] : List Addr) from z) (by simp)) (by simp)
        | some u =>
          rcases only b with z | ⟨ob, xs, z⟩
          · rw [q] at z
            cases z
          · have z2 := un.frzs b ob _ z
            obtain ⟨e1, _⟩ := hok b _ z
            obtain ⟨e2, _⟩ := hok' b _ z2
            rw [e] at e1
            cases e1
            exact e2
  cases hk : K.lookup a with
  | some o =>
    have e := kin a o hk
    rw [hobj] at e
    cases e
    exact main (fun _ => none) (fun _ => .inl rfl) (.inr ⟨_, vs.toArray, _, hk, rfl, rfl, rfl, by rw [List.size_toArray, lenV]; exact hlen, by simpa using rv⟩) (fun b u z => by
      have z' : (none : Option HO) = some u := z
      cases z') (fun b z => absurd rfl z) fun z => absurd rfl z
  | none =>
    refine main (fun b => if b = a then some (.frz { cls := .type "list", data := .seq vs.toArray } (.lst (ns.map V.int))) else none) (fun b => ?_) (.inl (.inr ⟨{ cls := .type "list", data := .seq vs.toArray }, if_pos rfl⟩)) (fun b u z => ?_) (fun b z => ?_) fun _ => hk
    · by_cases hb : b = a
      · exact .inr ⟨_, _, if_pos hb⟩
      · exact .inl (if_neg hb)
    · by_cases hb : b = a
      · have z' := (if_pos hb).symm.trans z
        cases z'
        subst hb
        exact ⟨hobj, by rw [List.length_map]; exact hlen, vs, _, rv, hobj⟩
      · have z' := (if_neg hb).symm.trans z
        cases z'
    · by_cases hb : b = a
      · exact hb
      · exact absurd (if_neg hb) z
theorem walkG {l : PySem.W.OpenLaw} {n k : Nat} {q : Program} {loose : List Str} {XP : (Str → Option Value) → Heap → Prop} {YP : World → Heap → Prop} {d : DefRec} {x : Str}
    (hn : l.most = some n) (hn2 : n ≤ sizeLine) (hdf : d.params.defaults = []) (hr : Room k callerA)
    (F : ∀ (w : World) (mg : Str → Option Value) (fa : Addr) (h : Heap), YP w h → h.Ns mainGlobals mg → mg d.name = some (.ref fa) →
      ∃ (K : PySem.W.Frag) (fd : FuncData) (sp : Sp), K.In h ∧ (∀ (s : Shared) (u : Value), BindsTo s fd ⟨[u], []⟩ [(x, u)]) ∧
        (∀ (H : Hp) (a : Addr) (ns : List Int), ns.length ≤ n → (∀ z ∈ ns, Builtin.Int.intBits z ≤ 1048576) → Only H → SqL K H a (ns.map V.int) → sp [.ref a] H (fun v _ => v = .bl true) E0) ∧
        ∀ base : Heap, K.In base → base.Ns mainGlobals mg → FnG l.prog w K mg base CX0 k fa fd [x] sp) :
    PySem.W.WalkO q loose XP YP l.row.toRowW d [] (fun f vs => PySem.call f vs) := by
  refine Att.attach_callB hn hdf fun w sA sB mg mb fa o pm cd doc a vs ns G Y ho hd hcd hmg hobj hints hlen hbits hgen => ?_
  obtain ⟨K, fd, sp, kin, hb, hsp, hF⟩ := F w mg fa _ Y G.T.g hmg
  exact callLawG kin G.T.g G.T.b G.T.builtins G.T.nolimit hgen hobj hints (Nat.le_trans hlen hn2) hr hF hb fun H hO hS => hsp H a ns hlen hbits hO hS
end PL
/-! a pure reading of defs over data: values are PyData, one list may change (the sack), lists of one's own change by name -/
namespace PL
open PySem PySem.Spec PyProof.Rows L2
abbrev D := PyData
abbrev S := List PyData
def Le (G G' : Hp) : Prop := ∀ a o, G a = some o → G' a = some o
theorem Le.refl {G : Hp} : Le G G := fun _ _ h => h
theorem Le.trans {G G1 G2 : Hp} (h : Le G G1) (h' : Le G1 G2) : Le G G2 := fun a o e => h' a o (h a o e)
theorem Rd.up {G G' : Hp} {a : Addr} {u : HO} (l : Le G G') (h : Rd G a u) : Rd G' a u := h.elim (fun e => .inl (l _ _ e)) fun ⟨o, e⟩ => .inr ⟨o, l _ _ e⟩
theorem SqL.up {K : PySem.W.Frag} {G G' : Hp} {a : Addr} {xs : List V} (l : Le G G') (h : SqL K G a xs) : SqL K G' a xs := h.elim (fun e => .inl (Rd.up l e)) .inr
theorem SqT.up {K : PySem.W.Frag} {G G' : Hp} {a : Addr} {xs : List V} (l : Le G G') (h : SqT K G a xs) : SqT K G' a xs := h.elim (fun e => .inl (Rd.up l e)) .inr
section
variable {K : PySem.W.Frag} {G G' : Hp}
mutual
theorem Dp.up (l : Le G G') : ∀ (d : D) (v : V), Dp K G v d → Dp K G' v d
  | .none, _, h => by cases h; exact .non
  | .bool b, _, h => by cases h; exact .bl b
  | .int i, _, h => by cases h; exact .int i
  | .str x, _, h => by cases h; exact .str x
  | .list ds, _, h => by cases h with | lst a b => exact .lst (SqL.up l a) (DpAll.up l ds _ b)
  | .tuple ds, _, h => by cases h with | tup a b => exact .tup (SqT.up l a) (DpAll.up l ds _ b)
  | .dict _, _, h => by cases h
theorem DpAll.up (l : Le G G') : ∀ (ds : List D) (vs : List V), DpAll K G vs ds → DpAll K G' vs ds
  | [], _, h => by cases h; exact .nil
  | d :: ds, _, h => by cases h with | cons a b => exact .cons (Dp.up l d _ a) (DpAll.up l ds _ b)
end
theorem DpAll.length {G : Hp} : ∀ {vs : List V} {ds : List D}, DpAll K G vs ds → vs.length = ds.length
  | _, _, .nil => rfl
  | _, _, .cons _ t => by simp [DpAll.length t]
theorem DpAll.get {G : Hp} : ∀ {vs : List V} {ds : List D} {i : Nat} {d : D}, DpAll K G vs ds → ds[i]? = some d → ∃ v, vs[i]? = some v ∧ Dp K G v d
  | _, _, _, _, .nil, e => by simp at e
  | _, _, 0, _, .cons h t, e => by simp at e; subst e; exact ⟨_, rfl, h⟩
  | _, _, i + 1, _, .cons h t, e => by
    obtain ⟨v, a, b⟩ := DpAll.get (i := i) t (by simpa using e)
    exact ⟨v, by simpa using a, b⟩
theorem DpAll.get' {G : Hp} : ∀ {vs : List V} {ds : List D} {i : Nat} {v : V}, DpAll K G vs ds → vs[i]? = some v → ∃ d, ds[i]? = some d ∧ Dp K G v d
  | _, _, _, _, .nil, e => by simp at e
  | _, _, 0, _, .cons h t, e => by simp at e; subst e; exact ⟨_, rfl, h⟩
  | _, _, i + 1, _, .cons h t, e => by
    obtain ⟨v, a, b⟩ := DpAll.get' (i := i) t (by simpa using e)
    exact ⟨v, by simpa using a, b⟩
theorem DpAll.app {G : Hp} : ∀ {vs ws : List V} {ds es : List D}, DpAll K G vs ds → DpAll K G ws es → DpAll K G (vs ++ ws) (ds ++ es)
  | _, _, _, _, .nil, s => s
  | _, _, _, _, .cons h t, s => .cons h (DpAll.app t s)
theorem DpAll.take {G : Hp} : ∀ {vs : List V} {ds : List D} (n : Nat), DpAll K G vs ds → DpAll K G (vs.take n) (ds.take n)
  | _, _, 0, _ => .nil
  | _, _, _ + 1, .nil => .nil
  | _, _, n + 1, .cons h t => .cons h (DpAll.take n t)
theorem DpAll.drop {G : Hp} : ∀ {vs : List V} {ds : List D} (n : Nat), DpAll K G vs ds → DpAll K G (vs.drop n) (ds.drop n)
  | _, _, 0, h => h
  | _, _, _ + 1, .nil => .nil
  | _, _, n + 1, .cons h t => DpAll.drop n t
theorem DpAll.set {G : Hp} {v : V} {d : D} (h : Dp K G v d) : ∀ {vs : List V} {ds : List D} (n : Nat), DpAll K G vs ds → DpAll K G (vs.set n v) (ds.set n d)
  | _, _, _, .nil => .nil
  | _, _, 0, .cons _ t => .cons h t
  | _, _, n + 1, .cons a t => .cons a (DpAll.set h n t)
theorem DpAll.rev {G : Hp} : ∀ {vs : List V} {ds : List D}, DpAll K G vs ds → DpAll K G vs.reverse ds.reverse
  | _, _, .nil => .nil
  | _, _, .cons h t => by rw [List.reverse_cons, List.reverse_cons]; exact DpAll.app (DpAll.rev t) (.cons h .nil)
end
/-- the sack's mark among data -/
def SACK : D := .dict []
structure Vw (K : PySem.W.Frag) (sk : Option Addr) (G H : Hp) (s : S) : Prop where
  sub : Le G H
  sack : ∀ a, sk = some a → G a = none ∧ ∃ vs, H a = some (.lst vs) ∧ DpAll K G vs s
structure Ex (sk : Option Addr) (G H G' H' : Hp) : Prop where
  gs : Le G G'
  hs : ∀ a o, H a = some o → sk ≠ some a → H' a = some o
  nw : ∀ a o, G' a = some o → G a = some o ∨ H a = none
  th : ∀ a, H' a = none → H a = none
theorem Ex.refl {sk : Option Addr} {G H : Hp} : Ex sk G H G H := ⟨Le.refl, fun _ _ h _ => h, fun _ _ h => .inl h, fun _ h => h⟩
theorem Ex.trans {sk : Option Addr} {G H G1 H1 G2 H2 : Hp} (a : Ex sk G H G1 H1) (b : Ex sk G1 H1 G2 H2) : Ex sk G H G2 H2 :=
  ⟨a.gs.trans b.gs, fun x o e n => b.hs x o (a.hs x o e n) n, fun x o e => (b.nw x o e).elim (fun z => a.nw x o z) fun z => .inr (a.th x z), fun x e => a.th x (b.th x e)⟩
/-- new objects alone -/
structure Grow (G H G' H' : Hp) : Prop where
  gs : Le G G'
  hs : Le H H'
  nw : ∀ a o, G' a = some o → G a = some o ∨ H a = none
  sub : Le G' H'
theorem Grow.refl {G H : Hp} (h : Le G H) : Grow G H G H := ⟨Le.refl, Le.refl, fun _ _ e => .inl e, h⟩
theorem Grow.trans {G H G1 H1 G2 H2 : Hp} (a : Grow G H G1 H1) (b : Grow G1 H1 G2 H2) : Grow G H G2 H2 :=
  ⟨a.gs.trans b.gs, a.hs.trans b.hs, fun x o e => (b.nw x o e).elim (fun z => a.nw x o z) fun z => .inr (by
    cases q : H x with
    | none => rfl
    | some u => rw [a.hs x u q] at z; cases z), b.sub⟩
theorem Grow.new {G H : Hp} (h : Le G H) {p : Addr} (hp : H p = none) (o : HO) : Grow G H (upd G p o) (upd H p o) := by
  have gp : G p = none := by
    cases q : G p with
    | none => rfl
    | some u => rw [h p u q] at hp; cases hp
  refine ⟨fun a u e => ?_, fun a u e => ?_, fun a u e => ?_, fun a u e => ?_⟩
  · rw [upd_ne (ne_of_none e gp)]; exact e
  · rw [upd_ne (ne_of_none e hp)]; exact e
  · by_cases z : a = p
    · subst z; exact .inr hp
    · rw [upd_ne z] at e; exact .inl e
  · by_cases z : a = p
    · subst z; rw [upd_same] at e ⊢; exact e
    · rw [upd_ne z] at e ⊢; exact h a u e
theorem Grow.ex {G H G' H' : Hp} (g : Grow G H G' H') (sk : Option Addr) : Ex sk G H G' H' :=
  ⟨g.gs, fun a o e _ => g.hs a o e, g.nw, fun a e => by
    cases q : H a with
    | none => rfl
    | some u => rw [g.hs a u q] at e; cases e⟩
theorem Grow.vw {K : PySem.W.Frag} {sk : Option Addr} {G H G' H' : Hp} {s : S} (g : Grow G H G' H') (v : Vw K sk G H s) : Vw K sk G' H' s :=
  ⟨g.sub, fun a e => by
    obtain ⟨n, vs, h1, h2⟩ := v.sack a e
    refine ⟨?_, vs, g.hs a _ h1, DpAll.up g.gs _ _ h2⟩
    cases q : G' a with
    | none => rfl
    | some u =>
      rcases g.nw a u q with z | z
      · rw [n] at z; cases z
      · rw [h1] at z; cases z⟩
def Dq (K : PySem.W.Frag) (sk : Option Addr) (G : Hp) (v : V) (d : D) : Prop := Dp K G v d ∨ (d = SACK ∧ ∃ a, sk = some a ∧ v = .ref a)
theorem Dq.up {K : PySem.W.Frag} {sk : Option Addr} {G G' : Hp} {v : V} {d : D} (l : Le G G') (h : Dq K sk G v d) : Dq K sk G' v d := h.elim (fun z => .inl (Dp.up l d v z)) .inr
/-- data, not the sack -/
def isD : D → Bool
  | .dict _ => false
  | _ => true
theorem Dq.dp {K : PySem.W.Frag} {sk : Option Addr} {G : Hp} {v : V} {d : D} (h : Dq K sk G v d) (n : isD d = true) : Dp K G v d := h.elim id fun ⟨e, _⟩ => by subst e; cases n
inductive Cell where
  | fz (d : D) | ow (ds : List D)
abbrev Env := List (Option Cell)
structure ER (K : PySem.W.Frag) (sk : Option Addr) (G H : Hp) (σ : L2.St) (ρ : Env) : Prop where
  len : σ.length = ρ.length
  fz : ∀ (i : Nat) (d : D), ρ[i]? = some (some (Cell.fz d)) → ∃ v, σ[i]? = some (some v) ∧ Dq K sk G v d
  ow : ∀ (i : Nat) (ds : List D), ρ[i]? = some (some (Cell.ow ds)) → ∃ a vs, σ[i]? = some (some (V.ref a)) ∧ H a = some (.lst vs) ∧ G a = none ∧ sk ≠ some a ∧ DpAll K G vs ds
  ne : ∀ (i j : Nat) (ds es : List D) (a : Addr), i ≠ j → ρ[i]? = some (some (Cell.ow ds)) → ρ[j]? = some (some (Cell.ow es)) → σ[i]? = some (some (V.ref a)) → σ[j]? ≠ some (some (V.ref a))
theorem Ex.free {sk : Option Addr} {G H G' H' : Hp} (e : Ex sk G H G' H') {a : Addr} {o : HO} (h1 : H a = some o) (h2 : G a = none) : G' a = none := by
  cases q : G' a with
  | none => rfl
  | some u =>
    rcases e.nw a u q with z | z
    · rw [h2] at z; cases z
    · rw [h1] at z; cases z
theorem ER.ex {K : PySem.W.Frag} {sk : Option Addr} {G H G' H' : Hp} {σ : L2.St} {ρ : Env} (r : ER K sk G H σ ρ) (e : Ex sk G H G' H') : ER K sk G' H' σ ρ :=
  ⟨r.len, fun i d q => let ⟨v, a, b⟩ := r.fz i d q; ⟨v, a, b.up e.gs⟩, fun i ds q => by
    obtain ⟨a, vs, h1, h2, h3, h4, h5⟩ := r.ow i ds q
    exact ⟨a, vs, h1, e.hs a _ h2 h4, e.free h2 h3, h4, DpAll.up e.gs _ _ h5⟩, r.ne⟩
abbrev M (α : Type) := Env → S → Option (α × S)
/-- an expression's worth -/
def tP (K : PySem.W.Frag) (F : M D) : TE := fun σ H Q => ∃ sk G ρ s d s', Vw K sk G H s ∧ ER K sk G H σ ρ ∧ F ρ s = some (d, s') ∧ ∀ v G' H', Vw K sk G' H' s' → Ex sk G H G' H' → Dq K sk G' v d → Q v H'
def tQ (K : PySem.W.Frag) (F : M Bool) : TT := fun σ H Q => ∃ sk G ρ s b s', Vw K sk G H s ∧ ER K sk G H σ ρ ∧ F ρ s = some (b, s') ∧ ∀ G' H', Vw K sk G' H' s' → Ex sk G H G' H' → Q b H'
def tA (K : PySem.W.Frag) (F : M (List D)) : TA := fun σ H Q => ∃ sk G ρ s ds s', Vw K sk G H s ∧ ER K sk G H σ ρ ∧ F ρ s = some (ds, s') ∧ ∀ vs G' H', Vw K sk G' H' s' → Ex sk G H G' H' → Paired (Dq K sk G') vs ds → Q vs H'
/-- a new list, not yet among the data -/
def tL (K : PySem.W.Frag) (F : M (List D)) : TE := fun σ H Q => ∃ sk G ρ s ds s', Vw K sk G H s ∧ ER K sk G H σ ρ ∧ F ρ s = some (ds, s') ∧
  ∀ p vs G' H', Vw K sk G' H' s' → Ex sk G H G' H' → H p = none → sk ≠ some p → H' p = some (.lst vs) → G' p = none → DpAll K G' vs ds → Q (.ref p) H'
section
variable {X : Cx}
theorem peI {e : Expr} {t t' : TE} (h : PE X e t) (i : ∀ σ H Q, t' σ H Q → t σ H Q) : PE X e t' := ⟨fun pins s σ H Q I w => h.run pins s σ H Q I (i _ _ _ w)⟩
theorem ptI {e : Expr} {t t' : TT} (h : PT X e t) (i : ∀ σ H Q, t' σ H Q → t σ H Q) : PT X e t' := ⟨fun pins s σ H Q I w => h.run pins s σ H Q I (i _ _ _ w)⟩
theorem pwI {e : Expr} {t t' : TT} (h : PW X e t) (i : ∀ σ H Q, t' σ H Q → t σ H Q) : PW X e t' := ⟨fun wh pins s σ H Q I w => h.run wh pins s σ H Q I (i _ _ _ w)⟩
theorem paI {es : List Expr} {t t' : TA} (h : PA X es t) (i : ∀ σ H Q, t' σ H Q → t σ H Q) : PA X es t' := ⟨fun pos pins s σ H Q I w => h.run pos pins s σ H Q I (i _ _ _ w)⟩
theorem psI {st : Stmt} {t t' : TS} (h : PS X st t) (i : ∀ D σ H, t' D σ H → t D σ H) : PS X st t' := ⟨fun pins s σ H D I w => h.run pins s σ H D I (i _ _ _ w)⟩
theorem pssI {st : List Stmt} {t t' : TS} (h : PSs X st t) (i : ∀ D σ H, t' D σ H → t D σ H) : PSs X st t' := ⟨fun pins s σ H D I w => h.run pins s σ H D I (i _ _ _ w)⟩
theorem pgI {e : Expr} {t t' : TG} (h : PG X e t) (i : ∀ v σ H Q, t' v σ H Q → t v σ H Q) : PG X e t' := ⟨fun pins s σ H v u Q I r w => h.run pins s σ H v u Q I r (i _ _ _ _ w)⟩
theorem pgsI {e : List Expr} {t t' : TGs} (h : PGs X e t) (i : ∀ v σ H Q, t' v σ H Q → t v σ H Q) : PGs X e t' := ⟨fun pins s σ H v u Q I r w => h.run pins s σ H v u Q I r (i _ _ _ _ w)⟩
theorem piI {tg e : Expr} {t t' : TI} (h : PI X tg e t) (i : ∀ σ H Q, t' σ H Q → t σ H Q) : PI X tg e t' := ⟨fun pins s σ H Q I w => h.run pins s σ H Q I (i _ _ _ w)⟩
end
/-! ### the worth of expressions -/
def mVar (i : Nat) : M D := fun ρ s => match ρ[i]? with
  | some (some (Cell.fz d)) => some (d, s)
  | _ => none
def mC (d : D) : M D := fun _ s => some (d, s)
def mThen {α β : Type} (f : M α) (g : α → M β) : M β := fun ρ s => match f ρ s with
  | some (a, s1) => g a ρ s1
  | none => none
def mLift {α : Type} (o : Option α) : M α := fun _ s => match o with
  | some a => some (a, s)
  | none => none
def m1 (f : D → Option D) (a : M D) : M D := mThen a fun x => mLift (f x)
def m2 (f : D → D → Option D) (a b : M D) : M D := mThen a fun x => mThen b fun y => mLift (f x y)
def aNil : M (List D) := fun _ s => some ([], s)
def aCons (a : M D) (r : M (List D)) : M (List D) := mThen a fun x => mThen r fun xs => mLift (some (x :: xs))
theorem mThen_some {α β : Type} {f : M α} {g : α → M β} {ρ : Env} {s s' : S} {b : β} (h : mThen f g ρ s = some (b, s')) : ∃ a s1, f ρ s = some (a, s1) ∧ g a ρ s1 = some (b, s') := by
  unfold mThen at h
  split at h
  · rename_i a s1 e; exact ⟨a, s1, e, h⟩
  · cases h
theorem mLift_some {α : Type} {o : Option α} {ρ : Env} {s s' : S} {b : α} (h : mLift o ρ s = some (b, s')) : o = some b ∧ s' = s := by
  unfold mLift at h
  split at h
  · cases h; exact ⟨rfl, rfl⟩
  · cases h
/-- two in a row -/
theorem P.then {K : PySem.W.Frag} {F : M D} {σ : L2.St} {H : Hp} {Q : VK} {sk : Option Addr} {G : Hp} {ρ : Env} {s s1 : S} {d : D} (w : Vw K sk G H s) (r : ER K sk G H σ ρ) (e : F ρ s = some (d, s1))
    (k : ∀ v G' H', Vw K sk G' H' s1 → Ex sk G H G' H' → ER K sk G' H' σ ρ → Dq K sk G' v d → Q v H') : tP K F σ H Q :=
  ⟨sk, G, ρ, s, d, s1, w, r, e, fun v G' H' w' x q => k v G' H' w' x (r.ex x) q⟩
section
variable {X : Cx} {pos : Pos}
theorem P.var {i : Nat} {x : Str} (hN : X.N[i]? = some x) (hv : Vis X.env.scope x) (hd : (x == ("__debug__" : Str)) = false := by decide) (hcd : (x == ("__classdict__" : Str)) = false := by decide) : PE X (.Name x pos) (tP X.K (mVar i)) := by
  refine peI (pe_var hN hv hd hcd) fun σ H Q ⟨sk, G, ρ, s, d, s', w, r, e, k⟩ => ?_
  unfold mVar at e
  split at e
  · rename_i d' q
    cases e
    obtain ⟨v, h1, h2⟩ := r.fz i _ q
    exact ⟨v, h1, k v G H w .refl h2⟩
  · cases e
theorem P.c {e : Expr} {v : V} {d : D} (h : PE X e (tC v)) (q : ∀ G, Dp X.K G v d) : PE X e (tP X.K (mC d)) := by
  refine peI h fun σ H Q ⟨sk, G, ρ, s, d', s', w, r, e, k⟩ => ?_
  cases e
  exact k v G H w .refl (.inl (q G))
theorem P.int {i j} : PE X (.Constant (.int i) j pos) (tP X.K (mC (.int i))) := P.c pe_int fun _ => .int _
theorem P.bl {b j} : PE X (.Constant (.bool b) j pos) (tP X.K (mC (.bool b))) := P.c pe_bl fun _ => .bl _
theorem P.non {j} : PE X (.Constant .none j pos) (tP X.K (mC .none)) := P.c pe_non fun _ => .non
theorem P.str {x j} : PE X (.Constant (.str x) j pos) (tP X.K (mC (.str x))) := P.c pe_str fun _ => .str _
/-- an operator by values is worth f -/
def W2 (K : PySem.W.Frag) (r : R2) (f : D → D → Option D) : Prop := ∀ (x y : V) (a b d : D) (sk : Option Addr) (G H : Hp) (Q : VK), Le G H → Dq K sk G x a → Dq K sk G y b → f a b = some d →
  (∀ v G' H', Grow G H G' H' → Dp K G' v d → Q v H') → r x y H Q
def W1 (K : PySem.W.Frag) (r : V → Hp → VK → Prop) (f : D → Option D) : Prop := ∀ (x : V) (a d : D) (sk : Option Addr) (G H : Hp) (Q : VK), Le G H → Dq K sk G x a → f a = some d →
  (∀ v G' H', Grow G H G' H' → Dp K G' v d → Q v H') → r x H Q
def WC (K : PySem.W.Frag) (r : List V → Hp → VK → Prop) (f : List D → Option D) : Prop := ∀ (xs : List V) (as : List D) (d : D) (sk : Option Addr) (G H : Hp) (Q : VK), Le G H → Paired (Dq K sk G) xs as → f as = some d →
  (∀ v G' H', Grow G H G' H' → Dp K G' v d → Q v H') → r xs H Q
theorem tOp_of {K : PySem.W.Frag} {r : R2} {f : D → D → Option D} (h : W2 K r f) {fa fb : M D} {σ : L2.St} {H : Hp} {Q : VK} (t : tP K (m2 f fa fb) σ H Q) : tOp r (tP K fa) (tP K fb) σ H Q := by
  obtain ⟨sk, G, ρ, s, d, s', w, e, q, k⟩ := t
  obtain ⟨a, s1, q1, q⟩ := mThen_some q
  obtain ⟨b, s2, q2, q⟩ := mThen_some q
  obtain ⟨q3, rfl⟩ := mLift_some q
  refine P.then w e q1 fun x G1 H1 w1 x1 e1 dx => ?_
  refine P.then w1 e1 q2 fun y G2 H2 w2 x2 e2 dy => ?_
  exact h x y a b d sk G2 H2 Q w2.sub (dx.up x2.gs) dy q3 fun v G' H' g dv => k v G' H' (g.vw w2) ((x1.trans x2).trans (g.ex sk)) (.inl dv)
theorem P.op {op : Operator} {r : R2} {f : D → D → Option D} {a b : Expr} {fa fb : M D} (ho : OpR X (binaryOp op) r) (h : W2 X.K r f) (ha : PE X a (tP X.K fa)) (hb : PE X b (tP X.K fb)) : PE X (.BinOp a op b pos) (tP X.K (m2 f fa fb)) :=
  peI (pe_op ho ha hb) fun _ _ _ t => tOp_of h t
theorem P.cmp {op : CmpOp} {r : R2} {f : D → D → Option D} {a b : Expr} {fa fb : M D} (ho : OpR X (compareOp op) r) (h : W2 X.K r f) (ha : PE X a (tP X.K fa)) (hb : PE X b (tP X.K fb)) (hm : behindInMarks op b = false) : PE X (.Compare a [op] [b] pos) (tP X.K (m2 f fa fb)) :=
  peI (pe_cmpR ho ha hb hm) fun _ _ _ t => tOp_of h t
theorem P.ix {r : R2} {f : D → D → Option D} {a b : Expr} {fa fb : M D} (hr : IxR X r) (h : W2 X.K r f) (ha : PE X a (tP X.K fa)) (hb : PE X b (tP X.K fb)) (hs : PlainIx b) : PE X (.Subscript a b pos) (tP X.K (m2 f fa fb)) :=
  peI (pe_ix hr ha hb hs) fun _ _ _ t => tOp_of h t
theorem P.un {op : UnaryOp} {r : V → Hp → VK → Prop} {f : D → Option D} {a : Expr} {fa : M D} (ho : UnR X (unaryOp op) r) (h : W1 X.K r f) (ha : PE X a (tP X.K fa)) : PE X (.UnaryOp op a pos) (tP X.K (m1 f fa)) := by
  refine peI (pe_un ho ha) fun σ H Q ⟨sk, G, ρ, s, d, s', w, e, q, k⟩ => ?_
  obtain ⟨a, s1, q1, q⟩ := mThen_some q
  obtain ⟨q3, rfl⟩ := mLift_some q
  refine P.then w e q1 fun x G1 H1 w1 x1 e1 dx => ?_
  exact h x a d sk G1 H1 Q w1.sub dx q3 fun v G' H' g dv => k v G' H' (g.vw w1) (x1.trans (g.ex sk)) (.inl dv)
theorem P.anil : PA X [] (tA X.K aNil) := paI pa_nil fun σ H Q ⟨sk, G, ρ, s, d, s', w, e, q, k⟩ => by
  cases q
  exact k [] G H w .refl .nil
theorem P.acons {e : Expr} {es : List Expr} {f : M D} {g : M (List D)} (ha : PE X e (tP X.K f)) (hr : PA X es (tA X.K g)) (hs : starEach (e :: es) X.env = (false, eval e X.env) :: starEach es X.env := by rfl) : PA X (e :: es) (tA X.K (aCons f g)) :=
  paI (pa_cons ha hr hs) fun σ H Q ⟨sk, G, ρ, s, d, s', w, e, q, k⟩ => by
    obtain ⟨a, s1, q1, q⟩ := mThen_some q
    obtain ⟨b, s2, q2, q⟩ := mThen_some q
    obtain ⟨q3, rfl⟩ := mLift_some q
    cases q3
    refine P.then w e q1 fun x G1 H1 w1 x1 e1 dx => ?_
    exact ⟨sk, G1, ρ, s1, b, s', w1, e1, q2, fun vs G' H' w' x' ps => k _ G' H' w' (x1.trans x') (.cons (dx.up x'.gs) ps)⟩
def mCall (f : List D → Option D) (a : M (List D)) : M D := mThen a fun xs => mLift (f xs)
theorem tCB_of {K : PySem.W.Frag} {r : List V → Hp → VK → Prop} {f : List D → Option D} (h : WC K r f) {fa : M (List D)} {σ : L2.St} {H : Hp} {Q : VK} (t : tP K (mCall f fa) σ H Q) : tCB r (tA K fa) σ H Q := by
  obtain ⟨sk, G, ρ, s, d, s', w, e, q, k⟩ := t
  obtain ⟨a, s1, q1, q⟩ := mThen_some q
  obtain ⟨q3, rfl⟩ := mLift_some q
  exact ⟨sk, G, ρ, s, a, s', w, e, q1, fun vs G' H' w' x' ps => h vs a d sk G' H' Q w'.sub ps q3 fun v G2 H2 g dv => k v G2 H2 (g.vw w') (x'.trans (g.ex sk)) (.inl dv)⟩
theorem P.callB {id : String} {x : Str} {p : Pos} {e : Expr} {es : List Expr} {r : List V → Hp → VK → Prop} {f : List D → Option D} {fa : M (List D)} (hc : CallR X (.builtin id) r) (h : WC X.K r f) (hg : Gl X x) (hm : X.mg x = none) (hv : bootBuiltins x = some (.builtin id)) (ha : PA X (e :: es) (tA X.K fa)) (hn : x ≠ "__name__" := by decide) (hdb : (x == ("__debug__" : Str)) = false := by decide) (he : starEach (e :: es) X.env = (false, eval e X.env) :: starEach es X.env := by rfl) (hpl : (backTo pos (starEach es X.env)).any (·.1) = false := by rfl) :
    PE X (.Call (.Name x p) (e :: es) [] pos) (tP X.K (mCall f fa)) :=
  peI (pe_callB hc hg hm hv ha hn hdb he hpl) fun _ _ _ t => tCB_of h t
theorem P.callTy {T : String} {x : Str} {p : Pos} {e : Expr} {es : List Expr} {r : List V → Hp → VK → Prop} {f : List D → Option D} {fa : M (List D)} (hc : CallR X (.type T) r) (h : WC X.K r f) (hg : Gl X x) (hm : X.mg x = none) (hv : bootBuiltins x = some (.type T)) (ha : PA X (e :: es) (tA X.K fa)) (hn : x ≠ "__name__" := by decide) (hdb : (x == ("__debug__" : Str)) = false := by decide) (he : starEach (e :: es) X.env = (false, eval e X.env) :: starEach es X.env := by rfl) (hpl : (backTo pos (starEach es X.env)).any (·.1) = false := by rfl) :
    PE X (.Call (.Name x p) (e :: es) [] pos) (tP X.K (mCall f fa)) :=
  peI (pe_callTy hc hg hm hv ha hn hdb he hpl) fun _ _ _ t => tCB_of h t
end
end PL
namespace PL
open PySem PySem.Spec PyProof.Rows L2
/-! ### tests -/
def bOf : D → Option Bool
  | .bool b => some b
  | _ => none
def mB (a : M D) : M Bool := mThen a fun x => mLift (bOf x)
def mNot (a : M Bool) : M Bool := mThen a fun x => mLift (some (!x))
def mIf {α : Type} (c : M Bool) (a b : M α) : M α := mThen c fun x => if x = true then a else b
def qC (b : Bool) : M Bool := fun _ s => some (b, s)
def mAnd (a b : M Bool) : M Bool := mIf a b (qC false)
def mOr (a b : M Bool) : M Bool := mIf a (qC true) b
def mV (a : M Bool) : M D := mThen a fun x => mLift (some (.bool x))
/-- a and b, a or b as values -/
def mAndV (a b : M D) : M D := mIf (mB a) b (mC (.bool false))
def mOrV (a b : M D) : M D := mIf (mB a) (mC (.bool true)) b
theorem mB_some {a : M D} {ρ : Env} {s s' : S} {b : Bool} (h : mB a ρ s = some (b, s')) : a ρ s = some (.bool b, s') := by
  obtain ⟨x, s1, q1, q⟩ := mThen_some h
  obtain ⟨q2, rfl⟩ := mLift_some q
  cases x <;> first | (cases q2; exact q1) | cases q2
theorem Dp.bl_of {K : PySem.W.Frag} {sk : Option Addr} {G : Hp} {v : V} {b : Bool} (h : Dq K sk G v (.bool b)) : v = .bl b := by
  have h' := h.dp rfl
  cases h'; rfl
theorem Dp.int_of {K : PySem.W.Frag} {sk : Option Addr} {G : Hp} {v : V} {i : Int} (h : Dq K sk G v (.int i)) : v = .int i := by
  have h' := h.dp rfl
  cases h'; rfl
theorem Dp.str_of {K : PySem.W.Frag} {sk : Option Addr} {G : Hp} {v : V} {i : Str} (h : Dq K sk G v (.str i)) : v = .str i := by
  have h' := h.dp rfl
  cases h'; rfl
theorem Dp.tup_of {K : PySem.W.Frag} {sk : Option Addr} {G : Hp} {v : V} {ds : List D} (h : Dq K sk G v (.tuple ds)) : ∃ a xs, v = .ref a ∧ SqT K G a xs ∧ DpAll K G xs ds := by
  have h' := h.dp rfl
  cases h' with | tup a b => exact ⟨_, _, rfl, a, b⟩
theorem Dp.lst_of {K : PySem.W.Frag} {sk : Option Addr} {G : Hp} {v : V} {ds : List D} (h : Dq K sk G v (.list ds)) : ∃ a xs, v = .ref a ∧ SqL K G a xs ∧ DpAll K G xs ds := by
  have h' := h.dp rfl
  cases h' with | lst a b => exact ⟨_, _, rfl, a, b⟩
section
variable {X : Cx} {pos : Pos} {a b e : Expr} {fa fb : M D} {ca cb : M Bool}
theorem P.tval (h : PE X e (tP X.K fa)) (he : ∀ whole, isTrue e X.env whole = (do let v ← whole; standAt e.pos; holding [v] (truthy v)) := by intro _; rfl) : PT X e (tQ X.K (mB fa)) := by
  refine ptI (pt_val h he) fun σ H Q ⟨sk, G, ρ, s, c, s', w, r, e, k⟩ => ?_
  refine P.then w r (mB_some e) fun v G' H' w' x r' q => ?_
  exact ⟨c, Dp.bl_of q, k G' H' w' x⟩
theorem P.cmpT {op : CmpOp} {r : R2} {f : D → D → Option D} (ho : OpR X (compareOp op) r) (h : W2 X.K r f) (ha : PE X a (tP X.K fa)) (hb : PE X b (tP X.K fb)) (hm : behindInMarks op b = false) : PT X (.Compare a [op] [b] pos) (tQ X.K (mB (m2 f fa fb))) := by
  refine ptI (pt_cmpR ho ha hb hm) fun σ H Q ⟨sk, G, ρ, s, c, s', w, r, e, k⟩ => ?_
  refine tOp_of h ?_
  refine P.then w r (mB_some e) fun v G' H' w' x r' q => ?_
  exact ⟨c, Dp.bl_of q, k G' H' w' x⟩
theorem P.not (ha : PT X a (tQ X.K ca)) : PT X (.UnaryOp .Not a pos) (tQ X.K (mNot ca)) := by
  refine ptI (pt_not ha) fun σ H Q ⟨sk, G, ρ, s, c, s', w, r, e, k⟩ => ?_
  obtain ⟨x, s1, q1, q⟩ := mThen_some e
  obtain ⟨q2, rfl⟩ := mLift_some q
  cases q2
  exact ⟨sk, G, ρ, s, x, s', w, r, q1, k⟩
theorem mIf_some {α : Type} {c : M Bool} {f g : M α} {ρ : Env} {s s' : S} {d : α} (h : mIf c f g ρ s = some (d, s')) : ∃ b s1, c ρ s = some (b, s1) ∧ (if b = true then f ρ s1 else g ρ s1) = some (d, s') := by
  obtain ⟨x, s1, q1, q⟩ := mThen_some h
  refine ⟨x, s1, q1, ?_⟩
  cases x
  · exact q
  · exact q
theorem P.and1 (ha : PT X a (tQ X.K ca)) : PW X (.BoolOp .And [a] pos) (tQ X.K ca) := pw_and1 ha
theorem P.or1 (ha : PT X a (tQ X.K ca)) : PW X (.BoolOp .Or [a] pos) (tQ X.K ca) := pw_or1 ha
theorem P.and {rest : List Expr} (ha : PT X a (tQ X.K ca)) (hb : PW X (.BoolOp .And (b :: rest) pos) (tQ X.K cb)) : PW X (.BoolOp .And (a :: b :: rest) pos) (tQ X.K (mAnd ca cb)) := by
  refine pwI (pw_and ha hb) fun σ H Q ⟨sk, G, ρ, s, c, s', w, r, e, k⟩ => ?_
  obtain ⟨x, s1, q1, q⟩ := mIf_some e
  refine ⟨sk, G, ρ, s, x, s1, w, r, q1, fun G1 H1 w1 x1 => ?_⟩
  cases x with
  | true =>
    refine ⟨sk, G1, ρ, s1, c, s', w1, r.ex x1, q, fun G2 H2 w2 x2 => k G2 H2 w2 (x1.trans x2)⟩
  | false =>
    cases q
    exact k G1 H1 w1 x1
theorem P.or {rest : List Expr} (ha : PT X a (tQ X.K ca)) (hb : PW X (.BoolOp .Or (b :: rest) pos) (tQ X.K cb)) : PW X (.BoolOp .Or (a :: b :: rest) pos) (tQ X.K (mOr ca cb)) := by
  refine pwI (pw_or ha hb) fun σ H Q ⟨sk, G, ρ, s, c, s', w, r, e, k⟩ => ?_
  obtain ⟨x, s1, q1, q⟩ := mIf_some e
  refine ⟨sk, G, ρ, s, x, s1, w, r, q1, fun G1 H1 w1 x1 => ?_⟩
  cases x with
  | false =>
    refine ⟨sk, G1, ρ, s1, c, s', w1, r.ex x1, q, fun G2 H2 w2 x2 => k G2 H2 w2 (x1.trans x2)⟩
  | true =>
    cases q
    exact k G1 H1 w1 x1
/-- values -/
theorem P.one {op : BoolOp} (ha : PE X a (tP X.K fa)) : PE X (.BoolOp op [a] pos) (tP X.K fa) := pe_one ha
theorem P.andV {rest : List Expr} (ha : PE X a (tP X.K fa)) (hb : PE X (.BoolOp .And (b :: rest) pos) (tP X.K fb)) : PE X (.BoolOp .And (a :: b :: rest) pos) (tP X.K (mAndV fa fb)) := by
  refine peI (pe_and ha hb) fun σ H Q ⟨sk, G, ρ, s, c, s', w, r, e, k⟩ => ?_
  obtain ⟨x, s1, q1, q⟩ := mIf_some e
  refine P.then w r (mB_some q1) fun v G1 H1 w1 x1 r1 q2 => ?_
  refine ⟨x, Dp.bl_of q2, ?_⟩
  cases x with
  | true => exact ⟨sk, G1, ρ, s1, c, s', w1, r1, q, fun v G2 H2 w2 x2 => k v G2 H2 w2 (x1.trans x2)⟩
  | false =>
    cases q
    exact k (.bl false) G1 H1 w1 x1 (.inl (.bl _))
theorem P.orV {rest : List Expr} (ha : PE X a (tP X.K fa)) (hb : PE X (.BoolOp .Or (b :: rest) pos) (tP X.K fb)) : PE X (.BoolOp .Or (a :: b :: rest) pos) (tP X.K (mOrV fa fb)) := by
  refine peI (pe_or ha hb) fun σ H Q ⟨sk, G, ρ, s, c, s', w, r, e, k⟩ => ?_
  obtain ⟨x, s1, q1, q⟩ := mIf_some e
  refine P.then w r (mB_some q1) fun v G1 H1 w1 x1 r1 q2 => ?_
  refine ⟨x, Dp.bl_of q2, ?_⟩
  cases x with
  | false => exact ⟨sk, G1, ρ, s1, c, s', w1, r1, q, fun v G2 H2 w2 x2 => k v G2 H2 w2 (x1.trans x2)⟩
  | true =>
    cases q
    exact k (.bl true) G1 H1 w1 x1 (.inl (.bl _))
def dNot : D → Option D
  | .bool b => some (.bool (!b))
  | _ => none
theorem P.notV (ha : PE X a (tP X.K fa)) : PE X (.UnaryOp .Not a pos) (tP X.K (m1 dNot fa)) := by
  refine peI (pe_not ha) fun σ H Q ⟨sk, G, ρ, s, c, s', w, r, e, k⟩ => ?_
  obtain ⟨x, s1, q1, q⟩ := mThen_some e
  obtain ⟨q2, rfl⟩ := mLift_some q
  refine P.then w r q1 fun v G1 H1 w1 x1 r1 q3 => ?_
  cases x with
  | bool b =>
    cases q2
    exact ⟨b, Dp.bl_of q3, k _ G1 H1 w1 x1 (.inl (.bl _))⟩
  | _ => cases q2
theorem P.ifE {c : Expr} (hc : PT X c (tQ X.K ca)) (ha : PE X a (tP X.K fa)) (hb : PE X b (tP X.K fb)) : PE X (.IfExp c a b pos) (tP X.K (mIf ca fa fb)) := by
  refine peI (pe_ifExp hc ha hb) fun σ H Q ⟨sk, G, ρ, s, d, s', w, r, e, k⟩ => ?_
  obtain ⟨x, s1, q1, q⟩ := mIf_some e
  refine ⟨sk, G, ρ, s, x, s1, w, r, q1, fun G1 H1 w1 x1 => ?_⟩
  cases x with
  | true => exact ⟨sk, G1, ρ, s1, d, s', w1, r.ex x1, q, fun v G2 H2 w2 x2 => k v G2 H2 w2 (x1.trans x2)⟩
  | false => exact ⟨sk, G1, ρ, s1, d, s', w1, r.ex x1, q, fun v G2 H2 w2 x2 => k v G2 H2 w2 (x1.trans x2)⟩
end
/-! ### statements -/
inductive Out where
  | nx (ρ : Env) | rt (d : D) | bk (ρ : Env) | ct (ρ : Env) | rl (ds : List D)
structure SR (K : PySem.W.Frag) (sk : Option Addr) (G0 H0 G H : Hp) (σ : L2.St) (ρ : Env) (s : S) : Prop where
  vw : Vw K sk G H s
  er : ER K sk G H σ ρ
  ex : Ex sk G0 H0 G H
  yo : ∀ (i : Nat) (ds : List D) (a : Addr), ρ[i]? = some (some (Cell.ow ds)) → σ[i]? = some (some (V.ref a)) → H0 a = none
theorem SR.on {K : PySem.W.Frag} {sk : Option Addr} {G0 H0 G H G' H' : Hp} {σ : L2.St} {ρ : Env} {s s' : S} (r : SR K sk G0 H0 G H σ ρ s) (w : Vw K sk G' H' s') (x : Ex sk G H G' H') : SR K sk G0 H0 G' H' σ ρ s' :=
  ⟨w, r.er.ex x, r.ex.trans x, r.yo⟩
def Post (K : PySem.W.Frag) (sk : Option Addr) (G0 H0 : Hp) (E : Ends) (s' : S) : Out → Prop
  | .nx ρ' => ∀ σ' G' H', SR K sk G0 H0 G' H' σ' ρ' s' → E.nx σ' H'
  | .rt d => ∀ v G' H', Vw K sk G' H' s' → Ex sk G0 H0 G' H' → Dq K sk G' v d → E.rt v H'
  | .bk ρ' => ∀ σ' G' H', SR K sk G0 H0 G' H' σ' ρ' s' → E.bk σ' H'
  | .ct ρ' => ∀ σ' G' H', SR K sk G0 H0 G' H' σ' ρ' s' → E.ct σ' H'
  | .rl ds => ∀ p vs G' H', Vw K sk G' H' s' → Ex sk G0 H0 G' H' → H0 p = none → sk ≠ some p → H' p = some (.lst vs) → G' p = none → DpAll K G' vs ds → E.rt (.ref p) H'
def tS (K : PySem.W.Frag) (F : M Out) : TS := fun E σ H => ∃ sk G0 H0 G ρ s o s', SR K sk G0 H0 G H σ ρ s ∧ F ρ s = some (o, s') ∧ Post K sk G0 H0 E s' o
def sNx : M Out := fun ρ s => some (.nx ρ, s)
def sBk : M Out := fun ρ s => some (.bk ρ, s)
def sCt : M Out := fun ρ s => some (.ct ρ, s)
def sNo : M Out := fun _ _ => none
def sSeq (a b : M Out) : M Out := fun ρ s => match a ρ s with
  | some (.nx ρ', s') => b ρ' s'
  | r => r
def sRet (a : M D) : M Out := mThen a fun x => mLift (some (.rt x))
def sEx (a : M D) : M Out := fun ρ s => match a ρ s with
  | some (_, s') => some (.nx ρ, s')
  | none => none
/-- a target: a name's slot, a tuple of targets, an item of the sack -/
inductive Pat where
  | nm (i : Nat) | tp (ps : List Pat) | sb (i k : Nat)
mutual
def bnd : Pat → D → Env → S → Option (Env × S)
  | .nm i, d, ρ, s => some (ρ.set i (some (.fz d)), s)
  | .tp ps, .tuple ds, ρ, s => bnds ps ds ρ s
  | .tp ps, .list ds, ρ, s => bnds ps ds ρ s
  | .sb i k, d, ρ, s => match ρ[i]? with
    | some (some (Cell.fz (.dict []))) => if k < s.length ∧ isD d = true then some (ρ, s.set k d) else none
    | _ => none
  | _, _, _, _ => none
def bnds : List Pat → List D → Env → S → Option (Env × S)
  | [], [], ρ, s => some (ρ, s)
  | p :: ps, d :: ds, ρ, s => match bnd p d ρ s with
    | some (ρ', s') => bnds ps ds ρ' s'
    | none => none
  | _, _, _, _ => none
end
def sAsg (p : Pat) (a : M D) : M Out := fun ρ s => match a ρ s with
  | some (d, s1) => (match bnd p d ρ s1 with
    | some (ρ', s2) => some (.nx ρ', s2)
    | none => none)
  | none => none
/-- a list of one's own is named -/
def sOwn (i : Nat) (a : M (List D)) : M Out := fun ρ s => match a ρ s with
  | some (ds, s1) => some (.nx (ρ.set i (some (.ow ds))), s1)
  | none => none
/-- .. and is taken for data from here on -/
def frz (i : Nat) (ρ : Env) : Env := match ρ[i]? with
  | some (some (Cell.ow ds)) => ρ.set i (some (.fz (.list ds)))
  | _ => ρ
def sFrz (i : Nat) (F : M Out) : M Out := fun ρ s => F (frz i ρ) s
mutual
def slo : Pat → List Nat
  | .nm i => [i]
  | .tp ps => slos ps
  | .sb _ _ => []
def slos : List Pat → List Nat
  | [] => []
  | p :: ps => slo p ++ slos ps
end
/-- but at these slots alike -/
def Off (l : List Nat) (σ σ' : L2.St) : Prop := ∀ j : Nat, j ∉ l → σ'[j]? = σ[j]?
theorem Off.refl {l : List Nat} {σ : L2.St} : Off l σ σ := fun _ _ => rfl
theorem Off.trans {l l' : List Nat} {σ σ1 σ2 : L2.St} (a : Off l σ σ1) (b : Off l' σ1 σ2) : Off (l ++ l') σ σ2 := fun j h => by
  rw [List.mem_append, not_or] at h
  rw [b j h.2, a j h.1]
theorem Off.set {σ : L2.St} {i : Nat} {v : Option V} : Off [i] σ (σ.set i v) := fun j h => by
  rw [List.getElem?_set_ne (fun e => h (by simp [e]))]
def tG (K : PySem.W.Frag) (p : Pat) : TG := fun v σ H Q => ∃ sk G0 H0 G ρ s d ρ' s', SR K sk G0 H0 G H σ ρ s ∧ Dq K sk G v d ∧ bnd p d ρ s = some (ρ', s') ∧ ∀ σ' G' H', Ex sk G H G' H' → Off (slo p) σ σ' → SR K sk G0 H0 G' H' σ' ρ' s' → Q σ' H'
def tGs (K : PySem.W.Frag) (ps : List Pat) : TGs := fun vs σ H Q => ∃ sk G0 H0 G ρ s ds ρ' s', SR K sk G0 H0 G H σ ρ s ∧ DpAll K G vs ds ∧ bnds ps ds ρ s = some (ρ', s') ∧ ∀ σ' G' H', Ex sk G H G' H' → Off (slos ps) σ σ' → SR K sk G0 H0 G' H' σ' ρ' s' → Q σ' H'
theorem get_set {α : Type} {l : List α} {i j : Nat} {x y : α} (h : (l.set i x)[j]? = some y) : (j = i ∧ y = x ∧ i < l.length) ∨ (j ≠ i ∧ l[j]? = some y) := by
  by_cases e : i = j
  · subst e
    rw [List.getElem?_set] at h
    split at h
    · split at h
      · cases h; exact .inl ⟨rfl, rfl, by assumption⟩
      · cases h
    · exact absurd rfl ‹_›
  · rw [List.getElem?_set_ne e] at h
    exact .inr ⟨fun z => e z.symm, h⟩
theorem SR.setF {K : PySem.W.Frag} {sk : Option Addr} {G0 H0 G H : Hp} {σ : L2.St} {ρ : Env} {s : S} {v : V} {d : D} (r : SR K sk G0 H0 G H σ ρ s) (i : Nat) (q : Dq K sk G v d) : SR K sk G0 H0 G H (σ.set i (some v)) (ρ.set i (some (.fz d))) s := by
  have ow : ∀ (j : Nat) (ds : List D), (ρ.set i (some (Cell.fz d)))[j]? = some (some (Cell.ow ds)) → j ≠ i ∧ ρ[j]? = some (some (Cell.ow ds)) := fun j ds h => by
    rcases get_set h with ⟨_, z, _⟩ | z
    · cases z
    · exact z
  refine ⟨r.vw, ⟨by simp [r.er.len], fun j d' h => ?_, fun j ds h => ?_, fun j k ds es a n h1 h2 h3 => ?_⟩, r.ex, fun j ds a h1 h2 => ?_⟩
  · rcases get_set h with ⟨rfl, z, l⟩ | ⟨n, z⟩
    · cases z
      exact ⟨v, by rw [List.getElem?_set_self (by rw [r.er.len]; exact l)], q⟩
    · obtain ⟨v', a, b⟩ := r.er.fz j d' z
      exact ⟨v', by rw [List.getElem?_set_ne (Ne.symm n)]; exact a, b⟩
  · obtain ⟨n, z⟩ := ow j ds h
    obtain ⟨a, vs, h1, h2⟩ := r.er.ow j ds z
    exact ⟨a, vs, by rw [List.getElem?_set_ne (Ne.symm n)]; exact h1, h2⟩
  · obtain ⟨n1, z1⟩ := ow j ds h1
    obtain ⟨n2, z2⟩ := ow k es h2
    rw [List.getElem?_set_ne (Ne.symm n1)] at h3
    rw [List.getElem?_set_ne (Ne.symm n2)]
    exact r.er.ne j k ds es a n z1 z2 h3
  · obtain ⟨n1, z1⟩ := ow j ds h1
    rw [List.getElem?_set_ne (Ne.symm n1)] at h2
    exact r.yo j ds a z1 h2
section
variable {X : Cx} {pos : Pos}
theorem P.gnm {i : Nat} {x : Str} (hN : X.N.Nodup) (hi : X.N[i]? = some x) (hx : Loc X.env.scope x) (hf : X.fn x = true ∨ X.env.scope.names.lookup x = some .local := by first | exact .inl rfl | exact .inr rfl | assumption) : PG X (.Name x pos) (tG X.K (.nm i)) := by
  refine pgI (pg_name hN hi hx hf) fun v σ H Q ⟨sk, G0, H0, G, ρ, s, d, ρ', s', r, q, e, k⟩ => ?_
  unfold bnd at e
  cases e
  exact k _ G H .refl (by unfold slo; exact Off.set) (r.setF i q)
theorem P.gnil : PGs X [] (tGs X.K []) := pgsI pgs_nil fun v σ H Q ⟨sk, G0, H0, G, ρ, s, d, ρ', s', r, q, e, k⟩ => by
  cases d with
  | nil =>
    cases q
    unfold bnds at e
    cases e
    exact ⟨rfl, k σ G H .refl .refl r⟩
  | cons d ds => unfold bnds at e; cases e
end
end PL
namespace PL
open PySem PySem.Spec PyProof.Rows L2
section
variable {X : Cx} {pos : Pos}
theorem P.gcons {e : Expr} {es : List Expr} {p : Pat} {ps : List Pat} (h1 : PG X e (tG X.K p)) (h2 : PGs X es (tGs X.K ps)) (hs : (assignEach (e :: es) X.env).map (·.2) = assign e X.env :: (assignEach es X.env).map (·.2) := by rfl) : PGs X (e :: es) (tGs X.K (p :: ps)) := by
  refine pgsI (pgs_cons h1 h2 hs) fun vs σ H Q ⟨sk, G0, H0, G, ρ, s, ds, ρ', s', r, q, e, k⟩ => ?_
  cases ds with
  | nil => unfold bnds at e; cases e
  | cons d ds =>
    cases q with
    | cons qa qb =>
      unfold bnds at e
      split at e
      · rename_i ρ1 s1 e1
        refine ⟨_, _, rfl, sk, G0, H0, G, ρ, s, d, ρ1, s1, r, .inl qa, e1, fun σ1 G1 H1 l1 o1 r1 => ?_⟩
        exact ⟨sk, G0, H0, G1, ρ1, s1, ds, ρ', s', r1, DpAll.up l1.gs _ _ qb, e, fun σ2 G2 H2 l2 o2 r2 => k σ2 G2 H2 (l1.trans l2) (by unfold slos; exact o1.trans o2) r2⟩
      · cases e
theorem bnds_same : ∀ (ps : List Pat) (ds : List D) (ρ : Env) (s : S) (r : Env × S), bnds ps ds ρ s = some r → ps.length = ds.length := by
  intro ps
  induction ps with
  | nil => intro ds ρ s r e; cases ds with | nil => rfl | cons _ _ => unfold bnds at e; cases e
  | cons p ps ih =>
    intro ds ρ s r e
    cases ds with
    | nil => unfold bnds at e; cases e
    | cons d ds =>
      unfold bnds at e
      split at e
      · simp [ih _ _ _ _ e]
      · cases e
theorem P.gtup {es : List Expr} {k : Nat} {ps : List Pat} {n : Nat} (hc : X.calm = true) (h : PGs X es (tGs X.K ps)) (hn : (assignEach es X.env).length = n := by rfl) (hl : ps.length = n := by rfl) (hst : (assignEach es X.env).findIdx? (·.1) = none := by rfl) : PG X (.Tuple es k pos) (tG X.K (.tp ps)) := by
  refine ⟨fun pins s σ H v u Q I rv ⟨sk, G0, H0, G, ρ, s, d, ρ', s', r, q, e, k⟩ => ?_⟩
  cases d with
  | tuple ds =>
    obtain ⟨a, xs, rfl, h1, h2⟩ := Dp.tup_of q
    unfold bnd at e
    refine (pg_tup hc h hn hst).run pins _ σ H _ u Q I rv ⟨a, xs, rfl, SqT.up r.vw.sub h1, ?_, sk, G0, H0, G, ρ, s, ds, ρ', s', r, h2, e, fun σ' G' H' l o r => k σ' G' H' l (by unfold slo; exact o) r⟩
    rw [DpAll.length h2, ← bnds_same _ _ _ _ _ e, hl]
  | list ds =>
    obtain ⟨a, xs, rfl, h1, h2⟩ := Dp.lst_of q
    unfold bnd at e
    refine (pg_unl hc h hn hst).run pins _ σ H _ u Q I rv ⟨a, xs, rfl, SqL.up r.vw.sub h1, ?_, sk, G0, H0, G, ρ, s, ds, ρ', s', r, h2, e, fun σ' G' H' l o r => k σ' G' H' l (by unfold slo; exact o) r⟩
    rw [DpAll.length h2, ← bnds_same _ _ _ _ _ e, hl]
  | _ => unfold bnd at e; cases e
theorem SR.sackset {K : PySem.W.Frag} {sk : Option Addr} {G0 H0 G H : Hp} {σ : L2.St} {ρ : Env} {s : S} {p : Addr} {xs : List V} {j : Nat} {v : V} {d : D} (r : SR K sk G0 H0 G H σ ρ s) (hp : sk = some p) (hx : H p = some (.lst xs)) (q : Dp K G v d) :
    SR K sk G0 H0 G (upd H p (.lst (xs.set j v))) σ ρ (s.set j d) := by
  obtain ⟨gn, vs, hv, hd⟩ := r.vw.sack p hp
  rw [hx] at hv; cases hv
  refine ⟨⟨fun a o e => ?_, fun a e => ?_⟩, ⟨r.er.len, r.er.fz, fun i ds e => ?_, r.er.ne⟩, ⟨r.ex.gs, fun a o e n => ?_, r.ex.nw, fun a e => ?_⟩, r.yo⟩
  · have n : a ≠ p := fun z => by subst z; rw [gn] at e; cases e
    rw [upd_ne n]; exact r.vw.sub a o e
  · rw [hp] at e; cases e
    exact ⟨gn, _, upd_same, DpAll.set q j hd⟩
  · obtain ⟨a, ws, h1, h2, h3, h4, h5⟩ := r.er.ow i ds e
    exact ⟨a, ws, h1, by rw [upd_ne (fun z => h4 (by rw [z]; exact hp))]; exact h2, h3, h4, h5⟩
  · rw [upd_ne (fun z => n (by rw [z]; exact hp))]; exact r.ex.hs a o e n
  · by_cases z : a = p
    · subst z; rw [upd_same] at e; cases e
    · rw [upd_ne z] at e; exact r.ex.th a e
theorem ixN_ok {n k : Nat} (h : k < n) : ixN n (k : Int) = some k := by
  unfold ixN
  rw [if_pos (by omega), if_pos (by omega)]
  rfl
theorem P.gsub {i k : Nat} {x : Str} {j} {p1 p2 : Pos} (hN : X.N[i]? = some x) (hv : Vis X.env.scope x) (hd : (x == ("__debug__" : Str)) = false := by decide) (hcd : (x == ("__classdict__" : Str)) = false := by decide)
    (ha : ∀ v, assign (.Subscript (.Name x p1) (.Constant (.int (k : Nat)) j p2) pos) X.env v = (do
      let ov ← holding [v] (eval (.Name x p1) X.env)
      let iv ← holding [v, ov] (eval (.Constant (.int (k : Nat)) j p2) X.env)
      standAt pos
      holding [v, ov, iv] (setItem ov iv v)
      release [v, ov, iv] []) := by intro _; rfl) : PG X (.Subscript (.Name x p1) (.Constant (.int (k : Nat)) j p2) pos) (tG X.K (.sb i k)) := by
  refine pgI (pg_sub (pe_var hN hv hd hcd) pe_int set_list ha) fun v σ H Q ⟨sk, G0, H0, G, ρ, s, d, ρ', s', r, q, e, kk⟩ => ?_
  unfold bnd at e
  split at e
  · rename_i e1
    split at e
    · rename_i hc
      cases e
      obtain ⟨u, h1, h2⟩ := r.er.fz i _ e1
      rcases h2 with z | ⟨_, a, ha, rfl⟩
      · cases z
      obtain ⟨gn, vs, hvs, hd⟩ := r.vw.sack a ha
      refine ⟨_, h1, a, vs, (k : Int), k, rfl, rfl, hvs, ixN_ok ?_, ?_⟩
      · rw [DpAll.length hd]; exact hc.1
      · refine kk σ G _ ⟨.refl, fun b o e n => ?_, fun _ _ e => .inl e, fun b e => ?_⟩ .refl (r.sackset ha hvs (q.dp hc.2))
        · rw [upd_ne (fun z => n (by rw [z]; exact ha))]; exact e
        · by_cases z : b = a
          · subst z; rw [upd_same] at e; cases e
          · rw [upd_ne z] at e; exact e
    · cases e
  · cases e
/-- an item of the sack -/
def mSk (i k : Nat) : M D := fun ρ s => match ρ[i]? with
  | some (some (Cell.fz (.dict []))) => (match s[k]? with
    | some d => some (d, s)
    | none => none)
  | _ => none
theorem P.sk {i k : Nat} {x : Str} {j} {p1 p2 : Pos} (hN : X.N[i]? = some x) (hv : Vis X.env.scope x) (hd : (x == ("__debug__" : Str)) = false := by decide) (hcd : (x == ("__classdict__" : Str)) = false := by decide) (hs : PlainIx (.Constant (.int (k : Nat)) j p2) := by exact fun _ _ => rfl) :
    PE X (.Subscript (.Name x p1) (.Constant (.int (k : Nat)) j p2) pos) (tP X.K (mSk i k)) := by
  refine peI (pe_ix ix_list (pe_var hN hv hd hcd) pe_int hs) fun σ H Q ⟨sk, G, ρ, s, d, s', w, r, e, kk⟩ => ?_
  unfold mSk at e
  split at e
  · rename_i e1
    split at e
    · rename_i d' e2
      cases e
      obtain ⟨u, h1, h2⟩ := r.fz i _ e1
      rcases h2 with z | ⟨_, a, ha, rfl⟩
      · cases z
      obtain ⟨gn, vs, hvs, hdd⟩ := w.sack a ha
      obtain ⟨v, h3, h4⟩ := DpAll.get hdd e2
      exact ⟨_, h1, a, vs, (k : Int), v, rfl, rfl, SqL.of hvs, atI_nat h3, kk v G H w .refl (.inl h4)⟩
    · cases e
  · cases e
/-! statements -/
theorem P.no {st : Stmt} : PS X st (tS X.K sNo) := psI ps_never fun E σ H ⟨sk, G0, H0, G, ρ, s, o, s', r, e, k⟩ => by cases e
theorem P.nos {st : List Stmt} : PSs X st (tS X.K sNo) := pssI pss_never fun E σ H ⟨sk, G0, H0, G, ρ, s, o, s', r, e, k⟩ => by cases e
theorem P.nil : PSs X [] (tS X.K sNx) := pssI pss_nil fun E σ H ⟨sk, G0, H0, G, ρ, s, o, s', r, e, k⟩ => by
  cases e
  exact k σ G H r
theorem P.pass : PS X (.Pass pos) (tS X.K sNx) := psI ps_pass fun E σ H ⟨sk, G0, H0, G, ρ, s, o, s', r, e, k⟩ => by
  cases e
  exact k σ G H r
theorem P.brk : PS X (.Break pos) (tS X.K sBk) := psI ps_break fun E σ H ⟨sk, G0, H0, G, ρ, s, o, s', r, e, k⟩ => by
  cases e
  exact k σ G H r
theorem P.cnt : PS X (.Continue pos) (tS X.K sCt) := psI ps_continue fun E σ H ⟨sk, G0, H0, G, ρ, s, o, s', r, e, k⟩ => by
  cases e
  exact k σ G H r
theorem P.seq {st : Stmt} {rest : List Stmt} {f g : M Out} (h1 : PS X st (tS X.K f)) (h2 : PSs X rest (tS X.K g)) : PSs X (st :: rest) (tS X.K (sSeq f g)) :=
  pssI (pss_cons h1 h2) fun E σ H ⟨sk, G0, H0, G, ρ, s, o, s', r, e, k⟩ => by
    unfold sSeq at e
    split at e
    · rename_i ρ1 s1 e1
      exact ⟨sk, G0, H0, G, ρ, s, .nx ρ1, s1, r, e1, fun σ1 G1 H1 r1 => ⟨sk, G0, H0, G1, ρ1, s1, o, s', r1, e, k⟩⟩
    · rename_i q
      refine ⟨sk, G0, H0, G, ρ, s, o, s', r, e, ?_⟩
      cases o with
      | nx ρ1 => exact absurd e (q ρ1 s')
      | rt d => exact k
      | bk ρ1 => exact k
      | ct ρ1 => exact k
      | rl d => exact k
theorem P.last {st : Stmt} {f : M Out} (h1 : PS X st (tS X.K f)) : PSs X [st] (tS X.K f) := pss_one h1
theorem P.ret {e : Expr} {f : M D} (h : PE X e (tP X.K f)) : PS X (.Return (some e) pos) (tS X.K (sRet f)) :=
  psI (ps_ret h) fun E σ H ⟨sk, G0, H0, G, ρ, s, o, s', r, e, k⟩ => by
    obtain ⟨a, s1, q1, q⟩ := mThen_some e
    obtain ⟨q2, rfl⟩ := mLift_some q
    cases q2
    exact P.then r.vw r.er q1 fun v G' H' w' x r' q => k v G' H' w' (r.ex.trans x) q
def sRetL (a : M (List D)) : M Out := mThen a fun x => mLift (some (.rl x))
theorem P.retL {e : Expr} {f : M (List D)} (h : PE X e (tL X.K f)) : PS X (.Return (some e) pos) (tS X.K (sRetL f)) :=
  psI (ps_ret h) fun E σ H ⟨sk, G0, H0, G, ρ, s, o, s', r, e, k⟩ => by
    obtain ⟨a, s1, q1, q⟩ := mThen_some e
    obtain ⟨q2, rfl⟩ := mLift_some q
    cases q2
    exact ⟨sk, G, ρ, s, a, s', r.vw, r.er, q1, fun p vs G' H' w' x hp np hl gp dl => k p vs G' H' w' (r.ex.trans x) (r.ex.th p hp) np hl gp dl⟩
theorem P.retN : PS X (.Return none pos) (tS X.K (sRet (mC .none))) :=
  psI ps_retN fun E σ H ⟨sk, G0, H0, G, ρ, s, o, s', r, e, k⟩ => by
    obtain ⟨a, s1, q1, q⟩ := mThen_some e
    obtain ⟨q2, rfl⟩ := mLift_some q
    cases q2
    cases q1
    exact k .non G H r.vw r.ex (.inl .non)
theorem P.expr {e : Expr} {f : M D} (h : PE X e (tP X.K f)) (hs : swapsWith e none pos.line X.env = pure false := by rfl) : PS X (.Expr e pos) (tS X.K (sEx f)) :=
  psI (ps_expr h hs) fun E σ H ⟨sk, G0, H0, G, ρ, s, o, s', r, e, k⟩ => by
    unfold sEx at e
    split at e
    · rename_i d s1 e1
      cases e
      exact P.then r.vw r.er e1 fun v G' H' w' x r' q => k σ G' H' (r.on w' x)
    · cases e
theorem P.iff {c : Expr} {a b : List Stmt} {fc : M Bool} {f g : M Out} (hc : PT X c (tQ X.K fc)) (ha : PSs X a (tS X.K f)) (hb : PSs X b (tS X.K g)) : PS X (.If c a b pos) (tS X.K (mIf fc f g)) :=
  psI (ps_if hc ha hb) fun E σ H ⟨sk, G0, H0, G, ρ, s, o, s', r, e, k⟩ => by
    obtain ⟨x, s1, q1, q⟩ := mIf_some e
    refine ⟨sk, G, ρ, s, x, s1, r.vw, r.er, q1, fun G1 H1 w1 x1 => ?_⟩
    cases x with
    | true => exact ⟨sk, G0, H0, G1, ρ, s1, o, s', r.on w1 x1, q, k⟩
    | false => exact ⟨sk, G0, H0, G1, ρ, s1, o, s', r.on w1 x1, q, k⟩
theorem tAsg_of {K : PySem.W.Frag} {f : M D} {p : Pat} {E : Ends} {σ : L2.St} {H : Hp} (t : tS K (sAsg p f) E σ H) : tAsg (tP K f) (tG K p) E σ H := by
  obtain ⟨sk, G0, H0, G, ρ, s, o, s', r, e, k⟩ := t
  unfold sAsg at e
  split at e
  · rename_i d s1 e1
    split at e
    · rename_i ρ' s2 e2
      cases e
      exact P.then r.vw r.er e1 fun v G' H' w' x r' q => ⟨sk, G0, H0, G', ρ, s1, d, ρ', s', r.on w' x, q, e2, fun σ' G2 H2 _ _ r2 => k σ' G2 H2 r2⟩
    · cases e
  · cases e
theorem P.asg {tg e : Expr} {f : M D} {p : Pat} (he : PE X e (tP X.K f)) (hg : PG X tg (tG X.K p)) (hs : swapsWithSole [tg] e pos.line X.env = pure false := by rfl) (hw : swappedStores [tg] e X.env = pure none := by rfl)
    (h1 : (assignEach [tg] X.env).map (·.2) = [assign tg X.env] := by rfl) : PS X (.Assign [tg] e pos) (tS X.K (sAsg p f)) := psI (ps_asg he hg hs hw h1) fun _ _ _ t => tAsg_of t
theorem P.set {i : Nat} {x : Str} {e : Expr} {f : M D} {pos' : Pos} (hN : X.N.Nodup) (hi : X.N[i]? = some x) (hx : Loc X.env.scope x) (he : PE X e (tP X.K f)) (hs : swapsWith e (some (.Name x pos')) pos.line X.env = pure false := by rfl) (hf : X.fn x = true ∨ X.env.scope.names.lookup x = some .local := by first | exact .inl rfl | exact .inr rfl | assumption) :
    PS X (.Assign [.Name x pos'] e pos) (tS X.K (sAsg (.nm i) f)) := by
  refine psI (ps_set hN hi hx he hs hf) fun E σ H ⟨sk, G0, H0, G, ρ, s, o, s', r, e, k⟩ => ?_
  unfold sAsg bnd at e
  split at e
  · rename_i d s1 e1
    cases e
    exact P.then r.vw r.er e1 fun v G' H' w' x r' q => k _ G' H' ((r.on w' x).setF i q)
  · cases e
end
end PL
namespace PL
open PySem PySem.Spec PyProof.Rows L2
/-! ### lists of one's own -/
theorem SR.setO {K : PySem.W.Frag} {sk : Option Addr} {G0 H0 G H : Hp} {σ : L2.St} {ρ : Env} {s : S} {p : Addr} {vs : List V} {ds : List D} (r : SR K sk G0 H0 G H σ ρ s) (i : Nat) (hp : H p = some (.lst vs)) (gp : G p = none) (np : sk ≠ some p) (h0 : H0 p = none) (q : DpAll K G vs ds)
    (nw : ∀ (j : Nat) (ds : List D), ρ[j]? = some (some (Cell.ow ds)) → σ[j]? ≠ some (some (V.ref p))) : SR K sk G0 H0 G H (σ.set i (some (.ref p))) (ρ.set i (some (.ow ds))) s := by
  refine ⟨r.vw, ⟨by simp [r.er.len], fun j d' h => ?_, fun j es h => ?_, fun j k es fs a n h1 h2 h3 => ?_⟩, r.ex, fun j es a h1 h2 => ?_⟩
  · rcases get_set h with ⟨rfl, z, l⟩ | ⟨n, z⟩
    · cases z
    · obtain ⟨v', a, b⟩ := r.er.fz j d' z
      exact ⟨v', by rw [List.getElem?_set_ne (Ne.symm n)]; exact a, b⟩
  · rcases get_set h with ⟨rfl, z, l⟩ | ⟨n, z⟩
    · cases z
      exact ⟨p, vs, by rw [List.getElem?_set_self (by rw [r.er.len]; exact l)], hp, gp, np, q⟩
    · obtain ⟨a, ws, h1, h2⟩ := r.er.ow j es z
      exact ⟨a, ws, by rw [List.getElem?_set_ne (Ne.symm n)]; exact h1, h2⟩
  · rcases get_set h1 with ⟨e1, z1, l1⟩ | ⟨n1, z1⟩
    · subst e1
      rcases get_set h2 with ⟨e2, z2, l2⟩ | ⟨n2, z2⟩
      · exact absurd e2.symm n
      · rw [List.getElem?_set_self (by rw [r.er.len]; exact l1)] at h3
        cases h3
        rw [List.getElem?_set_ne (Ne.symm n2)]
        exact nw k fs z2
    · rw [List.getElem?_set_ne (Ne.symm n1)] at h3
      rcases get_set h2 with ⟨e2, z2, l2⟩ | ⟨n2, z2⟩
      · subst e2
        rw [List.getElem?_set_self (by rw [r.er.len]; exact l2)]
        intro e
        cases e
        exact nw j es z1 h3
      · rw [List.getElem?_set_ne (Ne.symm n2)]
        exact r.er.ne j k es fs a n z1 z2 h3
  · rcases get_set h1 with ⟨e1, z1, l1⟩ | ⟨n1, z1⟩
    · subst e1
      rw [List.getElem?_set_self (by rw [r.er.len]; exact l1)] at h2
      cases h2
      exact h0
    · rw [List.getElem?_set_ne (Ne.symm n1)] at h2
      exact r.yo j es a z1 h2
/-- a new list is none of those held -/
theorem ER.nw {K : PySem.W.Frag} {sk : Option Addr} {G H : Hp} {σ : L2.St} {ρ : Env} (r : ER K sk G H σ ρ) {p : Addr} (h : H p = none) (j : Nat) (ds : List D) (e : ρ[j]? = some (some (Cell.ow ds))) : σ[j]? ≠ some (some (V.ref p)) := fun q => by
  obtain ⟨a, vs, h1, h2, _⟩ := r.ow j ds e
  rw [h1] at q; cases q
  rw [h] at h2; cases h2
theorem SR.h0 {K : PySem.W.Frag} {sk : Option Addr} {G0 H0 G H : Hp} {σ : L2.St} {ρ : Env} {s : S} (r : SR K sk G0 H0 G H σ ρ s) {p : Addr} (h : H p = none) : H0 p = none := r.ex.th p h
/-- the list at a name is changed -/
theorem SR.wr {K : PySem.W.Frag} {sk : Option Addr} {G0 H0 G H : Hp} {σ : L2.St} {ρ : Env} {s : S} {i : Nat} {p : Addr} {vs' : List V} {ds ds' : List D} (r : SR K sk G0 H0 G H σ ρ s) (hi : ρ[i]? = some (some (Cell.ow ds))) (hs : σ[i]? = some (some (V.ref p))) (q : DpAll K G vs' ds') :
    SR K sk G0 H0 G (upd H p (.lst vs')) σ (ρ.set i (some (.ow ds'))) s := by
  obtain ⟨a, vs, h1, h2, h3, h4, h5⟩ := r.er.ow i ds hi
  rw [hs] at h1; cases h1
  have hil : i < ρ.length := (List.getElem?_eq_some_iff.mp hi).1
  refine ⟨⟨fun a o e => ?_, fun a e => ?_⟩, ⟨by simp [r.er.len], fun j d' h => ?_, fun j es h => ?_, fun j k es fs a n z1 z2 h3 => ?_⟩, ⟨r.ex.gs, fun a o e n => ?_, r.ex.nw, fun a e => ?_⟩, fun j es a z1 h2 => ?_⟩
  · have n : a ≠ p := fun z => by subst z; rw [h3] at e; cases e
    rw [upd_ne n]; exact r.vw.sub a o e
  · obtain ⟨gn, ws, h6, h7⟩ := r.vw.sack a e
    exact ⟨gn, ws, by rw [upd_ne (fun z => h4 (by rw [← z]; exact e))]; exact h6, h7⟩
  · rcases get_set h with ⟨rfl, z, l⟩ | ⟨n, z⟩
    · cases z
    · exact r.er.fz j d' z
  · rcases get_set h with ⟨rfl, z, l⟩ | ⟨n, z⟩
    · cases z
      exact ⟨p, vs', hs, upd_same, h3, h4, q⟩
    · obtain ⟨a, ws, g1, g2, g3⟩ := r.er.ow j es z
      exact ⟨a, ws, g1, by rw [upd_ne (fun z' => r.er.ne j i es ds p n z hi (by rw [← z']; exact g1) hs)]; exact g2, g3⟩
  · have f : ∀ (j : Nat) (es : List D), (ρ.set i (some (Cell.ow ds')))[j]? = some (some (Cell.ow es)) → ∃ fs, ρ[j]? = some (some (Cell.ow fs)) := fun j es h => by
      rcases get_set h with ⟨rfl, z, l⟩ | ⟨n, z⟩
      · exact ⟨ds, hi⟩
      · exact ⟨es, z⟩
    obtain ⟨es', y1⟩ := f j es z1
    obtain ⟨fs', y2⟩ := f k fs z2
    exact r.er.ne j k es' fs' a n y1 y2 h3
  · have n : a ≠ p := fun z => by subst z; rw [r.yo i ds _ hi hs] at e; cases e
    rw [upd_ne n]; exact r.ex.hs a o e (by assumption)
  · by_cases z : a = p
    · subst z; rw [upd_same] at e; cases e
    · rw [upd_ne z] at e; exact r.ex.th a e
  · rcases get_set z1 with ⟨rfl, z, l⟩ | ⟨n, z⟩
    · exact r.yo _ ds a hi h2
    · exact r.yo j es a z h2
theorem SR.fz {K : PySem.W.Frag} {sk : Option Addr} {G0 H0 G H : Hp} {σ : L2.St} {ρ : Env} {s : S} (r : SR K sk G0 H0 G H σ ρ s) (i : Nat) : ∃ G', SR K sk G0 H0 G' H σ (frz i ρ) s ∧ Le G G' := by
  unfold frz
  split
  · rename_i ds hi
    obtain ⟨p, vs, h1, h2, h3, h4, h5⟩ := r.er.ow i ds hi
    have l : Le G (upd G p (.lst vs)) := fun a o e => by rw [upd_ne (ne_of_none e h3)]; exact e
    refine ⟨upd G p (.lst vs), ⟨⟨fun a o e => ?_, fun a e => ?_⟩, ⟨by simp [r.er.len], fun j d' h => ?_, fun j es h => ?_, fun j k es fs a n z1 z2 h3 => ?_⟩, ⟨r.ex.gs.trans l, r.ex.hs, fun a o e => ?_, r.ex.th⟩, fun j es a z1 h2 => ?_⟩, l⟩
    · by_cases z : a = p
      · subst z; rw [upd_same] at e; cases e; exact h2
      · rw [upd_ne z] at e; exact r.vw.sub a o e
    · obtain ⟨gn, ws, h6, h7⟩ := r.vw.sack a e
      exact ⟨by rw [upd_ne (fun z => h4 (by rw [← z]; exact e))]; exact gn, ws, h6, DpAll.up l _ _ h7⟩
    · rcases get_set h with ⟨rfl, z, _⟩ | ⟨n, z⟩
      · cases z
        exact ⟨_, h1, .inl (.lst (SqL.of upd_same) (DpAll.up l _ _ h5))⟩
      · obtain ⟨v, a, b⟩ := r.er.fz j d' z
        exact ⟨v, a, b.up l⟩
    · rcases get_set h with ⟨rfl, z, _⟩ | ⟨n, z⟩
      · cases z
      · obtain ⟨a, ws, g1, g2, g3, g4, g5⟩ := r.er.ow j es z
        exact ⟨a, ws, g1, g2, by rw [upd_ne (fun z' => r.er.ne j i es ds p n z hi (by rw [← z']; exact g1) h1)]; exact g3, g4, DpAll.up l _ _ g5⟩
    · have f : ∀ (j : Nat) (es : List D), (ρ.set i (some (Cell.fz (.list ds))))[j]? = some (some (Cell.ow es)) → ρ[j]? = some (some (Cell.ow es)) := fun j es h => by
        rcases get_set h with ⟨rfl, z, l⟩ | ⟨n, z⟩
        · cases z
        · exact z
      exact r.er.ne j k es fs a n (f j es z1) (f k fs z2) h3
    · by_cases z : a = p
      · subst z; exact .inr (r.yo i ds _ hi h1)
      · rw [upd_ne z] at e; exact r.ex.nw a o e
    · rcases get_set z1 with ⟨rfl, z, l⟩ | ⟨n, z⟩
      · cases z
      · exact r.yo j es a z h2
  · exact ⟨G, r, .refl⟩
section
variable {X : Cx} {pos : Pos}
theorem P.frz {st : Stmt} {F : M Out} (i : Nat) (h : PS X st (tS X.K F)) : PS X st (tS X.K (sFrz i F)) := psI h fun E σ H ⟨sk, G0, H0, G, ρ, s, o, s', r, e, k⟩ => by
  obtain ⟨G', r', _⟩ := r.fz i
  exact ⟨sk, G0, H0, G', _root_.PL.frz i ρ, s, o, s', r', e, k⟩
theorem P.frzs {st : List Stmt} {F : M Out} (i : Nat) (h : PSs X st (tS X.K F)) : PSs X st (tS X.K (sFrz i F)) := pssI h fun E σ H ⟨sk, G0, H0, G, ρ, s, o, s', r, e, k⟩ => by
  obtain ⟨G', r', _⟩ := r.fz i
  exact ⟨sk, G0, H0, G', _root_.PL.frz i ρ, s, o, s', r', e, k⟩
/-- a new list is data -/
def mL (F : M (List D)) : M D := mThen F fun ds => mLift (some (.list ds))
theorem P.ofL {e : Expr} {F : M (List D)} (h : PE X e (tL X.K F)) : PE X e (tP X.K (mL F)) := peI h fun σ H Q ⟨sk, G, ρ, s, d, s', w, r, e, k⟩ => by
  obtain ⟨ds, s1, q1, q⟩ := mThen_some e
  obtain ⟨q2, rfl⟩ := mLift_some q
  cases q2
  refine ⟨sk, G, ρ, s, ds, s', w, r, q1, fun p vs G' H' w' x hp np hl gp dl => ?_⟩
  have l : Le G' (upd G' p (.lst vs)) := fun a o e => by rw [upd_ne (ne_of_none e gp)]; exact e
  refine k (.ref p) (upd G' p (.lst vs)) H' ⟨fun a o e => ?_, fun a e => ?_⟩ ⟨x.gs.trans l, x.hs, fun a o e => ?_, x.th⟩ (.inl (.lst (SqL.of upd_same) (DpAll.up l _ _ dl)))
  · by_cases z : a = p
    · subst z; rw [upd_same] at e; cases e; exact hl
    · rw [upd_ne z] at e; exact w'.sub a o e
  · obtain ⟨gn, ws, h6, h7⟩ := w'.sack a e
    exact ⟨by rw [upd_ne (fun z => np (by rw [← z]; exact e))]; exact gn, ws, h6, DpAll.up l _ _ h7⟩
  · by_cases z : a = p
    · subst z; exact .inr hp
    · rw [upd_ne z] at e; exact x.nw a o e
theorem tAsgL_of {K : PySem.W.Frag} {i : Nat} {f : M (List D)} {E : Ends} {σ : L2.St} {H : Hp} (t : tS K (sOwn i f) E σ H) : tAsg (tL K f) (gName i) E σ H := by
  obtain ⟨sk, G0, H0, G, ρ, s, o, s', r, e, k⟩ := t
  unfold sOwn at e
  split at e
  · rename_i ds s1 e1
    cases e
    exact ⟨sk, G, ρ, s, ds, s', r.vw, r.er, e1, fun p vs G' H' w' x hp np hl gp dl => k _ G' H' ((r.on w' x).setO i hl gp np (r.h0 hp) dl (fun j ds q => r.er.nw hp j ds q))⟩
  · cases e
theorem P.own {i : Nat} {x : Str} {e : Expr} {f : M (List D)} {pos' : Pos} (hN : X.N.Nodup) (hi : X.N[i]? = some x) (hx : Loc X.env.scope x) (he : PE X e (tL X.K f)) (hs : swapsWith e (some (.Name x pos')) pos.line X.env = pure false := by rfl) (hf : X.fn x = true ∨ X.env.scope.names.lookup x = some .local := by first | exact .inl rfl | exact .inr rfl | assumption) :
    PS X (.Assign [.Name x pos'] e pos) (tS X.K (sOwn i f)) := psI (ps_set hN hi hx he hs hf) fun _ _ _ t => tAsgL_of t
theorem P.lst {es : List Expr} {f : M (List D)} (h : PA X es (tA X.K f)) (big : ∀ ρ s ds s', f ρ s = some (ds, s') → ds.length ≤ sizeLine) (nd : ∀ ρ s ds s', f ρ s = some (ds, s') → ds.all isD = true) : PE X (.List es pos) (tL X.K f) :=
  peI (pe_lst h) fun σ H Q ⟨sk, G, ρ, s, d, s', w, r, e, k⟩ => by
    refine ⟨sk, G, ρ, s, d, s', w, r, e, fun vs G' H' w' x q => ?_⟩
    have dl : DpAll X.K G' vs d := by
      have all := nd _ _ _ _ e
      clear e k
      induction q with
      | nil => exact .nil
      | cons h t ih =>
        rw [List.all_cons, Bool.and_eq_true] at all
        exact .cons (h.dp all.1) (ih all.2)
    refine ⟨by rw [DpAll.length dl]; exact big _ _ _ _ e, fun p hp => ?_⟩
    have gp : G' p = none := by
      cases q : G' p with
      | none => rfl
      | some u => rw [w'.sub p u q] at hp; cases hp
    have np : sk ≠ some p := fun z => by
      obtain ⟨_, ws, h6, _⟩ := w'.sack p z
      rw [h6] at hp; cases hp
    have up : ∀ a o, H' a = some o → upd H' p (.lst vs) a = some o := fun a o e => by rw [upd_ne (ne_of_none e hp)]; exact e
    refine k p vs G' _ ⟨fun a o e => up a o (w'.sub a o e), fun a e => ?_⟩ ⟨x.gs, fun a o e n => up a o (x.hs a o e n), x.nw, fun a e => ?_⟩ (x.th p hp) np upd_same gp dl
    · obtain ⟨gn, ws, h6, h7⟩ := w'.sack a e
      exact ⟨gn, ws, up a _ h6, h7⟩
    · by_cases z : a = p
      · subst z; rw [upd_same] at e; cases e
      · rw [upd_ne z] at e; exact x.th a e
/-- the items of the list at a name -/
def owAt (i : Nat) (ρ : Env) : Option (List D) := match ρ[i]? with
  | some (some (Cell.ow ds)) => some ds
  | _ => none
theorem owAt_some {i : Nat} {ρ : Env} {ds : List D} (h : owAt i ρ = some ds) : ρ[i]? = some (some (Cell.ow ds)) := by
  unfold owAt at h
  split at h
  · cases h; assumption
  · cases h
/-- x.append(e) -/
def sApp (i : Nat) (a : M D) : M Out := fun ρ s => match a ρ s with
  | some (d, s1) => (match owAt i ρ with
    | some ds => if ds.length < sizeLine ∧ isD d = true then some (.nx (ρ.set i (some (.ow (ds ++ [d])))), s1) else none
    | none => none)
  | none => none
theorem P.app {i : Nat} {x : Str} {e : Expr} {f : M D} {p1 apos cpos : Pos} (hN : X.N[i]? = some x) (hv : Vis X.env.scope x) (he : PE X e (tP X.K f)) (hd : (x == ("__debug__" : Str)) = false := by decide) (hcd : (x == ("__classdict__" : Str)) = false := by decide)
    (hbase : attributeBase (.Name x p1) "append" X.env (eval (.Name x p1) X.env) = eval (.Name x p1) X.env := by rfl)
    (hfew : ((backTo cpos (starEach [e] X.env)).all (fun x => !x.1) && (backToKw cpos (keywordEach [] X.env)).all (fun x => x.1.isSome)
      && decide (([e] : List Expr).length + ([] : List Keyword).length + (if ([] : List Keyword).isEmpty then 0 else 1) < 30)) = true := by rfl)
    (hline : (apos.endLine == cpos.line) = true := by rfl) (hs : starEach [e] X.env = (false, eval e X.env) :: starEach [] X.env := by rfl) (hplain : (backTo cpos (starEach [] X.env)).any (·.1) = false := by rfl)
    (hsw : swapsWith (.Call (.Attribute (.Name x p1) "append" apos) [e] [] cpos) none pos.line X.env = pure false := by rfl) :
    PS X (.Expr (.Call (.Attribute (.Name x p1) "append" apos) [e] [] cpos) pos) (tS X.K (sApp i f)) := by
  refine psI (ps_expr (pe_bm PySem.F.plainAttrs_list PySem.F.slot_list_append PySem.F.type_list_append mt_append (pe_var hN hv hd hcd) (pa_cons he pa_nil hs) hbase hfew hline hs hplain) hsw) fun E σ H ⟨sk, G0, H0, G, ρ, s, o, s', r, e, k⟩ => ?_
  unfold sApp at e
  split at e
  · rename_i d s1 e1
    split at e
    · rename_i ds e2
      split at e
      · rename_i hc
        cases e
        have hi := owAt_some e2
        obtain ⟨a, vs, h1, h2, h3, h4, h5⟩ := r.er.ow i ds hi
        refine ⟨_, h1, .inl ⟨rfl, vs, SqL.of h2⟩, ?_⟩
        refine P.then r.vw r.er e1 fun v G' H' w' x r' q => ?_
        have h6 := x.hs a _ h2 h4
        refine ⟨a, vs, v, rfl, rfl, h6, by rw [DpAll.length h5]; exact hc.1, ?_⟩
        exact k σ G' _ ((r.on w' x).wr hi h1 (DpAll.app (DpAll.up x.gs _ _ h5) (.cons (q.dp hc.2) .nil)))
      · cases e
    · cases e
  · cases e
/-- x.pop() as a statement -/
def sPop (i : Nat) : M Out := fun ρ s => match owAt i ρ with
  | some ds => if ds ≠ [] then some (.nx (ρ.set i (some (.ow ds.dropLast))), s) else none
  | none => none
theorem DpAll.dropLast {K : PySem.W.Frag} {G : Hp} {vs : List V} {ds : List D} (h : DpAll K G vs ds) : DpAll K G vs.dropLast ds.dropLast := by
  rw [List.dropLast_eq_take, List.dropLast_eq_take, DpAll.length h]
  exact DpAll.take _ h
theorem P.pop {i : Nat} {x : Str} {p1 apos cpos : Pos} (hN : X.N[i]? = some x) (hv : Vis X.env.scope x) (hd : (x == ("__debug__" : Str)) = false := by decide) (hcd : (x == ("__classdict__" : Str)) = false := by decide)
    (hbase : attributeBase (.Name x p1) "pop" X.env (eval (.Name x p1) X.env) = eval (.Name x p1) X.env := by rfl) (hline : (apos.endLine == cpos.line) = true := by rfl)
    (hsw : swapsWith (.Call (.Attribute (.Name x p1) "pop" apos) [] [] cpos) none pos.line X.env = pure false := by rfl) :
    PS X (.Expr (.Call (.Attribute (.Name x p1) "pop" apos) [] [] cpos) pos) (tS X.K (sPop i)) := by
  refine psI (ps_expr (pe_bm0 PySem.F.plainAttrs_list PySem.F.slot_list_pop PySem.F.type_list_pop mt_pop (pe_var hN hv hd hcd) hbase hline) hsw) fun E σ H ⟨sk, G0, H0, G, ρ, s, o, s', r, e, k⟩ => ?_
  unfold sPop at e
  split at e
  · rename_i ds e2
    split at e
    · rename_i hc
      cases e
      have hi := owAt_some e2
      obtain ⟨a, vs, h1, h2, h3, h4, h5⟩ := r.er.ow i ds hi
      have hl := DpAll.length h5
      have hp : 0 < ds.length := by cases ds with | nil => exact absurd rfl hc | cons _ _ => simp
      obtain ⟨y, hy⟩ : ∃ y, vs[vs.length - 1]? = some y := ⟨vs[vs.length - 1]'(by omega), List.getElem?_eq_getElem _⟩
      exact ⟨_, h1, .inl ⟨rfl, vs, SqL.of h2⟩, a, vs, y, rfl, rfl, h2, hy, k σ G _ (r.wr hi h1 (DpAll.dropLast h5))⟩
    · cases e
  · cases e
/-- len(x) of one's own list, x[e] of it -/
def mLenO (i : Nat) : M D := fun ρ s => match owAt i ρ with
  | some ds => some (.int ds.length, s)
  | none => none
theorem P.lenO {i : Nat} {x : Str} {p p1 : Pos} (hN : X.N[i]? = some x) (hv : Vis X.env.scope x) (hg : Gl X "len") (hm : X.mg "len" = none) (hd : (x == ("__debug__" : Str)) = false := by decide) (hcd : (x == ("__classdict__" : Str)) = false := by decide) :
    PE X (.Call (.Name "len" p) [.Name x p1] [] pos) (tP X.K (mLenO i)) := by
  refine peI (pe_callB call_len_seq hg hm PySem.boot_len (pa_cons (pe_var hN hv hd hcd) pa_nil)) fun σ H Q ⟨sk, G, ρ, s, d, s', w, r, e, k⟩ => ?_
  unfold mLenO at e
  split at e
  · rename_i ds e2
    cases e
    obtain ⟨a, vs, h1, h2, h3, h4, h5⟩ := r.ow i ds (owAt_some e2)
    refine ⟨_, h1, a, vs, rfl, .inl (SqL.of h2), ?_⟩
    rw [DpAll.length h5]
    exact k _ G H w .refl (.inl (.int _))
  · cases e
def iOf : D → Option Int
  | .int i => some i
  | _ => none
def mIxO (i : Nat) (a : M D) : M D := fun ρ s => match a ρ s with
  | some (d, s1) => (match owAt i ρ, iOf d with
    | some ds, some j => (match atI ds j with
      | some y => some (y, s1)
      | none => none)
    | _, _ => none)
  | none => none
theorem DpAll.atI {K : PySem.W.Frag} {G : Hp} {vs : List V} {ds : List D} {j : Int} {d : D} (h : DpAll K G vs ds) (e : L2.atI ds j = some d) : ∃ v, L2.atI vs j = some v ∧ Dp K G v d := by
  unfold L2.atI at e ⊢
  rw [DpAll.length h]
  cases q : ixN ds.length j with
  | none => rw [q] at e; cases e
  | some n =>
    rw [q] at e
    exact DpAll.get h e
theorem P.ixO {i : Nat} {x : Str} {b : Expr} {f : M D} {p1 : Pos} (hN : X.N[i]? = some x) (hv : Vis X.env.scope x) (hb : PE X b (tP X.K f)) (hs : PlainIx b) (hd : (x == ("__debug__" : Str)) = false := by decide) (hcd : (x == ("__classdict__" : Str)) = false := by decide) :
    PE X (.Subscript (.Name x p1) b pos) (tP X.K (mIxO i f)) := by
  refine peI (pe_ix ix_list (pe_var hN hv hd hcd) hb hs) fun σ H Q ⟨sk, G, ρ, s, d, s', w, r, e, k⟩ => ?_
  unfold mIxO at e
  split at e
  · rename_i d1 s1 e1
    split at e
    · rename_i ds j e2 e3
      split at e
      · rename_i y e4
        cases e
        have ej : d1 = .int j := by cases d1 <;> first | (cases e3; rfl) | cases e3
        subst ej
        obtain ⟨a, vs, h1, h2, h3, h4, h5⟩ := r.ow i ds (owAt_some e2)
        refine ⟨_, h1, ?_⟩
        refine P.then w r e1 fun v G' H' w' x r' q => ?_
        obtain ⟨y', h6, h7⟩ := DpAll.atI h5 e4
        exact ⟨a, vs, j, y', rfl, Dp.int_of q, SqL.of (x.hs a _ h2 h4), h6, k y' G' H' w' x (.inl (Dp.up x.gs _ _ h7))⟩
      · cases e
    · cases e
  · cases e
end
end PL
namespace PL
open PySem PySem.Spec PyProof.Rows L2
/-! ### what is walked -/
/-- J yields the data ds while G stands -/
structure Yl (K : PySem.W.Frag) (J : It) (G : Hp) (ds : List D) : Prop where
  item : ∀ (G1 H1 : Hp), Le G G1 → Le G1 H1 → ∀ (i : Nat) (d : D), ds[i]? = some d → J.go i H1 ∧ ∀ x H2, J.yld i H1 x H2 → ∃ G2, Grow G1 H1 G2 H2 ∧ Dp K G2 x d
  stop : ∀ (G1 H1 : Hp), Le G G1 → Le G1 H1 → J.stop ds.length H1
/-- .. while all but the sack stands -/
structure Ye (K : PySem.W.Frag) (sk : Option Addr) (J : It) (G H : Hp) (ds : List D) : Prop where
  item : ∀ (G1 H1 : Hp), Ex sk G H G1 H1 → Le G1 H1 → ∀ (i : Nat) (d : D), ds[i]? = some d → J.go i H1 ∧ ∀ x H2, J.yld i H1 x H2 → ∃ G2, Grow G1 H1 G2 H2 ∧ Dp K G2 x d
  stop : ∀ (G1 H1 : Hp), Ex sk G H G1 H1 → Le G1 H1 → J.stop ds.length H1
theorem Yl.ye {K : PySem.W.Frag} {J : It} {G : Hp} {ds : List D} (y : Yl K J G ds) (sk : Option Addr) (H : Hp) : Ye K sk J G H ds :=
  ⟨fun G1 H1 x l => y.item G1 H1 x.gs l, fun G1 H1 x l => y.stop G1 H1 x.gs l⟩
def tI (K : PySem.W.Frag) (F : M (List D)) : TI := fun σ H R => ∃ sk G ρ s ds s', Vw K sk G H s ∧ ER K sk G H σ ρ ∧ F ρ s = some (ds, s') ∧ ∀ J G' H', Vw K sk G' H' s' → Ex sk G H G' H' → Yl K J G' ds → R J H'
def tIE (K : PySem.W.Frag) (F : M (List D)) : TI := fun σ H R => ∃ sk G ρ s ds s', Vw K sk G H s ∧ ER K sk G H σ ρ ∧ F ρ s = some (ds, s') ∧ ∀ J G' H', Vw K sk G' H' s' → Ex sk G H G' H' → Ye K sk J G' H' ds → R J H'
theorem tIE_of {K : PySem.W.Frag} {F : M (List D)} {σ : L2.St} {H : Hp} {R : It → Hp → Prop} (t : tIE K F σ H R) : tI K F σ H R := by
  obtain ⟨sk, G, ρ, s, ds, s', w, r, e, k⟩ := t
  exact ⟨sk, G, ρ, s, ds, s', w, r, e, fun J G' H' w' x y => k J G' H' w' x (y.ye sk H')⟩
def itOf : D → Option (List D)
  | .list ds => some ds
  | .tuple ds => some ds
  | _ => none
def mIt (a : M D) : M (List D) := mThen a fun x => mLift (itOf x)
/-- a list, as it stands, cannot be two -/
theorem SqL.unique {X : Cx} {pins : List (Addr × Obj)} {σ : L2.St} {H : Hp} {s : Shared} (I : Inv X pins σ H s) {a : Addr} {xs ys : List V} (h : SqL X.K H a xs) (h' : SqL X.K H a ys) : xs = ys := I.list_inj h h'
section
variable {X : Cx} {tg : Expr} {pos : Pos}
theorem P.iter {l : Expr} {f : M D} (hl : PE X l (tP X.K f)) : PI X tg l (tI X.K (mIt f)) := by
  refine ⟨fun pins s σ H R I ⟨sk, G, ρ, sS, ds, s', w, r, e, k⟩ => ?_⟩
  obtain ⟨d, s1, q1, q⟩ := mThen_some e
  obtain ⟨q2, rfl⟩ := mLift_some q
  cases d with
  | list es =>
    cases q2
    refine (pi_list hl (tg := tg)).run pins s σ H R I ?_
    refine P.then w r q1 fun v G' H' w' x r' q => ?_
    obtain ⟨a, xs, rfl, h1, h2⟩ := Dp.lst_of q
    refine ⟨a, rfl, ⟨xs, SqL.up w'.sub h1⟩, k _ G' H' w' x ⟨fun G1 H1 l1 l2 i d hd => ?_, fun G1 H1 l1 l2 => ?_⟩⟩
    · obtain ⟨y, h3, h4⟩ := DpAll.get h2 hd
      have h5 := SqL.up l2 (SqL.up l1 h1)
      refine ⟨⟨xs, y, h5, h3⟩, fun z H2 ⟨e1, e2⟩ => ?_⟩
      subst e1
      have e3 := e2 xs h5
      rw [h3] at e3; cases e3
      exact ⟨G1, .refl l2, Dp.up l1 _ _ h4⟩
    · exact ⟨xs, SqL.up l2 (SqL.up l1 h1), by rw [DpAll.length h2]; exact Nat.le_refl _⟩
  | tuple es =>
    cases q2
    refine (pi_tup hl (tg := tg)).run pins s σ H R I ?_
    refine P.then w r q1 fun v G' H' w' x r' q => ?_
    obtain ⟨a, xs, rfl, h1, h2⟩ := Dp.tup_of q
    refine ⟨a, rfl, ⟨xs, SqT.up w'.sub h1⟩, k _ G' H' w' x ⟨fun G1 H1 l1 l2 i d hd => ?_, fun G1 H1 l1 l2 => ?_⟩⟩
    · obtain ⟨y, h3, h4⟩ := DpAll.get h2 hd
      have h5 := SqT.up l2 (SqT.up l1 h1)
      refine ⟨⟨xs, y, h5, h3⟩, fun z H2 ⟨e1, e2⟩ => ?_⟩
      subst e1
      have e3 := e2 xs h5
      rw [h3] at e3; cases e3
      exact ⟨G1, .refl l2, Dp.up l1 _ _ h4⟩
    · exact ⟨xs, SqT.up l2 (SqT.up l1 h1), by rw [DpAll.length h2]; exact Nat.le_refl _⟩
  | _ => cases q2
theorem P.iterE {l : Expr} {F : M (List D)} (h : PI X tg l (tI X.K F)) : PI X tg l (tIE X.K F) := piI h fun _ _ _ t => tIE_of t
/-- one's own list, in a comprehension -/
def mItO (i : Nat) : M (List D) := fun ρ s => match owAt i ρ with
  | some ds => some (ds, s)
  | none => none
theorem P.iterO {i : Nat} {x : Str} {p1 : Pos} (hN : X.N[i]? = some x) (hv : Vis X.env.scope x) (hd : (x == ("__debug__" : Str)) = false := by decide) (hcd : (x == ("__classdict__" : Str)) = false := by decide) : PI X tg (.Name x p1) (tIE X.K (mItO i)) := by
  refine piI (pi_list (pe_var hN hv hd hcd)) fun σ H Q ⟨sk, G, ρ, s, d, s', w, r, e, k⟩ => ?_
  unfold mItO at e
  split at e
  · rename_i ds e2
    cases e
    obtain ⟨a, vs, h1, h2, h3, h4, h5⟩ := r.ow i d (owAt_some e2)
    refine ⟨_, h1, a, rfl, ⟨vs, SqL.of h2⟩, k _ G H w .refl ⟨fun G1 H1 x1 l2 i d hd => ?_, fun G1 H1 x1 l2 => ?_⟩⟩
    · obtain ⟨y, h6, h7⟩ := DpAll.get h5 hd
      have h8 : SqL X.K H1 a vs := SqL.of (x1.hs a _ h2 h4)
      refine ⟨⟨vs, y, h8, h6⟩, fun z H2 ⟨e1, e2⟩ => ?_⟩
      subst e1
      have e3 := e2 vs h8
      rw [h6] at e3; cases e3
      exact ⟨G1, .refl l2, Dp.up x1.gs _ _ h7⟩
    · exact ⟨vs, SqL.of (x1.hs a _ h2 h4), by rw [DpAll.length h5]; exact Nat.le_refl _⟩
  · cases e
def rgD (lo : Int) (n : Nat) : List D := (List.range n).map fun (i : Nat) => PyData.int (lo + (i : Int))
def okRg (i : Int) : Bool := decide (-(2 ^ 62) ≤ i) && decide (i < 2 ^ 62)
def rg1 : List D → Option (List D)
  | [.int j] => if okRg j = true then some (rgD 0 j.toNat) else none
  | _ => none
def rg2 : List D → Option (List D)
  | [.int i, .int j] => if okRg i = true ∧ okRg j = true then some (rgD i (j - i).toNat) else none
  | _ => none
theorem yl_rg {K : PySem.W.Frag} {lo : Int} {n : Nat} {G : Hp} : Yl K (Itr lo n) G (rgD lo n) :=
  ⟨fun G1 H1 l1 l2 i d hd => by
    unfold rgD at hd
    rw [List.getElem?_map] at hd
    cases q : (List.range n)[i]? with
    | none => rw [q] at hd; cases hd
    | some j =>
      rw [q] at hd
      have hi := (List.getElem?_eq_some_iff.mp q)
      obtain ⟨hi, hj⟩ := hi
      rw [List.getElem_range] at hj
      subst hj
      cases hd
      refine ⟨(by simpa using hi : i < n), fun x H2 ⟨e1, e2⟩ => ?_⟩
      subst e1; subst e2
      exact ⟨G1, .refl l2, .int _⟩, fun G1 H1 l1 l2 => by
    show n ≤ (rgD lo n).length
    unfold rgD
    simp⟩
def mA {α : Type} (f : List D → Option α) (a : M (List D)) : M α := mThen a fun xs => mLift (f xs)
theorem P.rng1 {a : Expr} {fa : M (List D)} {p : Pos} (hg : Gl X "range") (hm : X.mg "range" = none) (ha : PA X [a] (tA X.K fa)) (hs : starEach [a] X.env = [(false, eval a X.env)] := by rfl) : PI X tg (.Call (.Name "range" p) [a] [] pos) (tI X.K (mA rg1 fa)) :=
  piI (pi_range1 hg hm ha hs) fun σ H Q ⟨sk, G, ρ, s, d, s', w, r, e, k⟩ => by
    obtain ⟨as, s1, q1, q⟩ := mThen_some e
    obtain ⟨q2, rfl⟩ := mLift_some q
    refine ⟨sk, G, ρ, s, as, s', w, r, q1, fun vs G' H' w' x ps => ?_⟩
    unfold rg1 at q2
    split at q2
    · split at q2
      · rename_i j hj
        cases q2
        cases ps with
        | cons h t =>
          cases t
          rw [Dp.int_of h]
          unfold okRg at hj
          rw [Bool.and_eq_true] at hj
          exact ⟨j, rfl, of_decide_eq_true hj.1, of_decide_eq_true hj.2, k _ G' H' w' x yl_rg⟩
      · cases q2
    · cases q2
theorem P.rng2 {a b : Expr} {fa : M (List D)} {p : Pos} (hg : Gl X "range") (hm : X.mg "range" = none) (ha : PA X [a, b] (tA X.K fa)) (hs : starEach [a, b] X.env = [(false, eval a X.env), (false, eval b X.env)] := by rfl) (hs2 : starEach [b] X.env = [(false, eval b X.env)] := by rfl) :
    PI X tg (.Call (.Name "range" p) [a, b] [] pos) (tI X.K (mA rg2 fa)) :=
  piI (pi_range2 hg hm ha hs hs2) fun σ H Q ⟨sk, G, ρ, s, d, s', w, r, e, k⟩ => by
    obtain ⟨as, s1, q1, q⟩ := mThen_some e
    obtain ⟨q2, rfl⟩ := mLift_some q
    refine ⟨sk, G, ρ, s, as, s', w, r, q1, fun vs G' H' w' x ps => ?_⟩
    unfold rg2 at q2
    split at q2
    · split at q2
      · rename_i i j hj
        cases q2
        cases ps with
        | cons h t =>
          cases t with
          | cons h' t =>
            cases t
            rw [Dp.int_of h, Dp.int_of h']
            unfold okRg at hj
            rw [Bool.and_eq_true, Bool.and_eq_true] at hj
            exact ⟨i, j, rfl, ⟨of_decide_eq_true hj.1.1, of_decide_eq_true hj.1.2, of_decide_eq_true hj.2.1, of_decide_eq_true hj.2.2⟩, k _ G' H' w' x yl_rg⟩
      · cases q2
    · cases q2
end
/-! ### for, while -/
def forL (p : Pat) (body : M Out) : List D → M Out
  | [] => sNx
  | x :: xs => fun ρ s => match bnd p x ρ s with
    | none => none
    | some (ρ1, s1) => match body ρ1 s1 with
      | some (.nx ρ2, s2) => forL p body xs ρ2 s2
      | some (.ct ρ2, s2) => forL p body xs ρ2 s2
      | some (.bk ρ2, s2) => some (.nx ρ2, s2)
      | r => r
def sFor (it : M (List D)) (p : Pat) (body : M Out) : M Out := fun ρ s => match it ρ s with
  | some (xs, s1) => forL p body xs ρ s1
  | none => none
def whL (c : M Bool) (body : M Out) : Nat → M Out
  | 0 => fun _ _ => none
  | n + 1 => fun ρ s => match c ρ s with
    | some (true, s1) => (match body ρ s1 with
      | some (.nx ρ2, s2) => whL c body n ρ2 s2
      | some (.ct ρ2, s2) => whL c body n ρ2 s2
      | some (.bk ρ2, s2) => some (.nx ρ2, s2)
      | r => r)
    | some (false, s1) => some (.nx ρ, s1)
    | none => none
/-- turns: how many may be, by the state -/
def sWh (turns : Env → S → Nat) (c : M Bool) (body : M Out) : M Out := fun ρ s => whL c body (turns ρ s) ρ s
theorem SR.grow {K : PySem.W.Frag} {sk : Option Addr} {G0 H0 G H G' H' : Hp} {σ : L2.St} {ρ : Env} {s : S} (r : SR K sk G0 H0 G H σ ρ s) (g : Grow G H G' H') : SR K sk G0 H0 G' H' σ ρ s := r.on (g.vw r.vw) (g.ex sk)
/-- a loop's own base: what is held there stays -/
theorem SR.rebase {K : PySem.W.Frag} {sk : Option Addr} {G0 H0 G H : Hp} {σ : L2.St} {ρ : Env} {s : S} (r : SR K sk G0 H0 G H σ ρ s) : ∃ Hb, SR K sk G Hb G H σ ρ s ∧ (∀ G' H', Ex sk G Hb G' H' → Ex sk G0 H0 G' H') ∧ ∀ a, Hb a = none → H0 a = none := by
  classical
  let own : Addr → Prop := fun a => ∃ (i : Nat) (ds : List D), ρ[i]? = some (some (Cell.ow ds)) ∧ σ[i]? = some (some (V.ref a))
  let Hb : Hp := fun a => if own a then none else H a
  have hb : ∀ a o, Hb a = some o → ¬ own a ∧ H a = some o := fun a o e => by
    have e' : (if own a then none else H a) = some o := e
    split at e'
    · cases e'
    · exact ⟨by assumption, e'⟩
  have hn : ∀ a, Hb a = none → H0 a = none := fun a e => by
    have e' : (if own a then none else H a) = none := e
    split at e'
    · rename_i ho
      obtain ⟨i, ds, h1, h2⟩ := ho
      exact r.yo i ds a h1 h2
    · exact r.ex.th a e'
  refine ⟨Hb, ⟨r.vw, r.er, ⟨.refl, fun a o e _ => (hb a o e).2, fun _ _ e => .inl e, fun a e => ?_⟩, fun i ds a h1 h2 => ?_⟩, fun G' H' x => ⟨r.ex.gs.trans x.gs, fun a o e n => ?_, fun a o e => ?_, fun a e => hn a (x.th a e)⟩, hn⟩
  · show (if own a then none else H a) = none
    split
    · rfl
    · exact e
  · show (if own a then none else H a) = none
    rw [if_pos ⟨i, ds, h1, h2⟩]
  · refine x.hs a o ?_ n
    show (if own a then none else H a) = some o
    rw [if_neg (fun ⟨i, ds, h1, h2⟩ => by rw [r.yo i ds a h1 h2] at e; cases e)]
    exact r.ex.hs a o e n
  · rcases x.nw a o e with z | z
    · exact r.ex.nw a o z
    · exact .inr (hn a z)
theorem SR.back {K : PySem.W.Frag} {sk : Option Addr} {G0 H0 G Hb G' H' : Hp} {σ : L2.St} {ρ : Env} {s : S} (hx : ∀ G' H', Ex sk G Hb G' H' → Ex sk G0 H0 G' H') (hn : ∀ a, Hb a = none → H0 a = none) (r : SR K sk G Hb G' H' σ ρ s) : SR K sk G0 H0 G' H' σ ρ s :=
  ⟨r.vw, r.er, hx _ _ r.ex, fun i ds a h1 h2 => hn a (r.yo i ds a h1 h2)⟩
theorem Post.back {K : PySem.W.Frag} {sk : Option Addr} {G0 H0 G Hb : Hp} {E : Ends} {s' : S} {o : Out} (hx : ∀ G' H', Ex sk G Hb G' H' → Ex sk G0 H0 G' H') (hn : ∀ a, Hb a = none → H0 a = none) (k : Post K sk G0 H0 E s' o) : Post K sk G Hb E s' o := by
  cases o with
  | nx ρ => exact fun σ' G' H' r => k σ' G' H' (r.back hx hn)
  | bk ρ => exact fun σ' G' H' r => k σ' G' H' (r.back hx hn)
  | ct ρ => exact fun σ' G' H' r => k σ' G' H' (r.back hx hn)
  | rt d => exact fun v G' H' w x q => k v G' H' w (hx _ _ x) q
  | rl d => exact fun p vs G' H' w x hp np hl gp dl => k p vs G' H' w (hx _ _ x) (hn p hp) np hl gp dl
section
variable {X : Cx} {tg : Expr} {pos : Pos}
theorem P.for {iter : Expr} {body : List Stmt} {it : M (List D)} {p : Pat} {fb : M Out} (hp : PassesOwn (model X.prog X.w) X.A X.env X.xe) (hc : X.calm = true) (hi : PI X tg iter (tI X.K it)) (hg : PG X tg (tG X.K p)) (hb : PSs X body (tS X.K fb))
    (hs : ∀ x, foldedSetIterable iter X.env x = pure x := by intro _; rfl) : PS X (.For tg iter body [] pos) (tS X.K (sFor it p fb)) := by
  refine psI (ps_for hp hc hi hg hb hs) fun E σ H ⟨sk, G0, H0, G, ρ, s, o, s', r, e, k⟩ => ?_
  unfold sFor at e
  split at e
  · rename_i xs s1 e1
    refine ⟨sk, G, ρ, s, xs, s1, r.vw, r.er, e1, fun J G1 H1 w1 x1 y => ?_⟩
    obtain ⟨Hb, rb, hx, hn⟩ := (r.on w1 x1).rebase
    have kb := k.back hx hn
    refine ⟨fun i m σ H => m = xs.length - i ∧ i ≤ xs.length ∧ ∃ G ρ t, SR X.K sk G1 Hb G H σ ρ t ∧ forL p fb (xs.drop i) ρ t = some (o, s'), ⟨_, rfl, Nat.zero_le _, G1, ρ, s1, rb, e⟩, ?_⟩
    rintro i m σ2 H2 ⟨rfl, hi, G2, ρ2, t2, r2, e2⟩
    have l2 : Le G1 G2 := r2.ex.gs
    by_cases hlt : i < xs.length
    · right
      rw [List.drop_eq_getElem_cons hlt] at e2
      have hx : xs[i]? = some xs[i] := List.getElem?_eq_getElem hlt
      obtain ⟨go, yl⟩ := y.item G2 H2 l2 r2.vw.sub i _ hx
      refine ⟨go, fun σ' H' => ∃ G ρ t, SR X.K sk G1 Hb G H' σ' ρ t ∧ forL p fb (xs.drop (i + 1)) ρ t = some (o, s'), fun σ' H' q => ⟨_, by omega, rfl, hlt, q⟩, fun v H3 yv => ?_⟩
      obtain ⟨G3, g3, d3⟩ := yl v H3 yv
      unfold forL at e2
      split at e2
      · cases e2
      · rename_i ρ3 t3 e3
        refine ⟨sk, G1, Hb, G3, ρ2, t2, xs[i], ρ3, t3, r2.grow g3, .inl d3, e3, fun σ4 G4 H4 l4 _ r4 => ?_⟩
        cases q : fb ρ3 t3 with
        | none => rw [q] at e2; cases e2
        | some r =>
          obtain ⟨o5, t5⟩ := r
          rw [q] at e2
          refine ⟨sk, G1, Hb, G4, ρ3, t3, o5, t5, r4, q, ?_⟩
          cases o5 with
          | nx ρ5 => exact fun σ' G' H' r' => ⟨G', ρ5, t5, r', e2⟩
          | ct ρ5 => exact fun σ' G' H' r' => ⟨G', ρ5, t5, r', e2⟩
          | bk ρ5 =>
            cases e2
            exact kb
          | rt d =>
            cases e2
            exact kb
          | rl d =>
            cases e2
            exact kb
    · have hl : i = xs.length := by omega
      subst hl
      left
      rw [List.drop_length] at e2
      cases e2
      exact ⟨y.stop G2 H2 l2 r2.vw.sub, kb σ2 G2 H2 r2⟩
  · cases e
theorem P.while {c : Expr} {body : List Stmt} {fc : M Bool} {fb : M Out} (turns : Env → S → Nat) (hp : PassesOwn (model X.prog X.w) X.A X.env X.xe) (hc : PT X c (tQ X.K fc)) (hb : PSs X body (tS X.K fb)) : PS X (.While c body [] pos) (tS X.K (sWh turns fc fb)) := by
  refine psI (ps_while hp hc hb) fun E σ H ⟨sk, G0, H0, G, ρ, s, o, s', r, e, k⟩ => ?_
  unfold sWh at e
  refine ⟨fun m σ H => ∃ G ρ t, SR X.K sk G0 H0 G H σ ρ t ∧ whL fc fb m ρ t = some (o, s'), ⟨turns ρ s, G, ρ, s, r, e⟩, ?_⟩
  rintro m σ2 H2 ⟨G2, ρ2, t2, r2, e2⟩
  cases m with
  | zero => cases e2
  | succ n =>
    unfold whL at e2
    cases q : fc ρ2 t2 with
    | none => rw [q] at e2; cases e2
    | some b =>
      obtain ⟨b, t3⟩ := b
      rw [q] at e2
      refine ⟨sk, G2, ρ2, t2, b, t3, r2.vw, r2.er, q, fun G3 H3 w3 x3 => ?_⟩
      cases b with
      | false =>
        cases e2
        exact k σ2 G3 H3 (r2.on w3 x3)
      | true =>
        refine ⟨fun σ H => ∃ G ρ t, SR X.K sk G0 H0 G H σ ρ t ∧ whL fc fb n ρ t = some (o, s'), fun σ' H' q => ⟨n, Nat.lt_succ_self _, q⟩, ?_⟩
        cases q5 : fb ρ2 t3 with
        | none => simp only [q5] at e2; cases e2
        | some r5 =>
          obtain ⟨o5, t5⟩ := r5
          simp only [q5] at e2
          refine ⟨sk, G0, H0, G3, ρ2, t3, o5, t5, r2.on w3 x3, q5, ?_⟩
          cases o5 with
          | nx ρ5 => exact fun σ' G' H' r' => ⟨G', ρ5, t5, r', e2⟩
          | ct ρ5 => exact fun σ' G' H' r' => ⟨G', ρ5, t5, r', e2⟩
          | bk ρ5 =>
            cases e2
            exact k
          | rt d =>
            cases e2
            exact k
          | rl d =>
            cases e2
            exact k
end
end PL
namespace PL
open PySem PySem.Spec PyProof.Rows L2
/-! ### comprehensions -/
def wipeE (ρ : Env) : List Nat → Env
  | [] => ρ
  | v :: vs => (wipeE ρ vs).set v none
def lcGo (p : Pat) (c : M Bool) (f : M D) (ρ0 : Env) : List D → S → Option (List D × S)
  | [], s => some ([], s)
  | x :: xs, s => match bnd p x ρ0 s with
    | none => none
    | some (ρ1, s1) => match c ρ1 s1 with
      | none => none
      | some (true, s2) => (match f ρ1 s2 with
        | none => none
        | some (d, s3) => if isD d = true then (match lcGo p c f ρ0 xs s3 with
          | some (ds, s4) => some (d :: ds, s4)
          | none => none) else none)
      | some (false, s2) => lcGo p c f ρ0 xs s2
def mLc (it : M (List D)) (vs : List Nat) (p : Pat) (c : M Bool) (f : M D) : M (List D) := fun ρ s => match it ρ s with
  | some (xs, s1) => if xs.length ≤ sizeLine then lcGo p c f (wipeE ρ vs) xs s1 else none
  | none => none
theorem wipe_get {σ : L2.St} {vs : List Nat} {j : Nat} (h : j ∉ vs) : (wipe σ vs)[j]? = σ[j]? := by
  induction vs with
  | nil => rfl
  | cons v vs ih =>
    rw [List.mem_cons, not_or] at h
    unfold wipe
    rw [List.getElem?_set_ne (Ne.symm h.1), ih h.2]
theorem wipe_in {σ : L2.St} {vs : List Nat} {j : Nat} (h : j ∈ vs) : (wipe σ vs)[j]? = if j < σ.length then some none else none := by
  induction vs with
  | nil => cases h
  | cons v vs ih =>
    unfold wipe
    by_cases e : v = j
    · subst e
      by_cases l : v < σ.length
      · rw [List.getElem?_set_self (by rw [wipe_length]; exact l), if_pos l]
      · rw [List.getElem?_eq_none (by rw [List.length_set, wipe_length]; omega), if_neg l]
    · rw [List.getElem?_set_ne e]
      exact ih ((List.mem_cons.mp h).resolve_left (Ne.symm e))
theorem wipe_off {σ σ2 : L2.St} {vs l : List Nat} (hl : ∀ i ∈ l, i ∈ vs) (h : Off l (wipe σ vs) σ2) (hlen : σ2.length = (wipe σ vs).length) : wipe σ2 vs = wipe σ vs := by
  apply List.ext_getElem?
  intro j
  by_cases hj : j ∈ vs
  · rw [wipe_in hj, wipe_in hj, hlen, wipe_length]
  · rw [wipe_get hj, h j (fun z => hj (hl j z))]
theorem wipeE_get {ρ : Env} {vs : List Nat} {i : Nat} {c : Cell} (h : (wipeE ρ vs)[i]? = some (some c)) : ρ[i]? = some (some c) ∧ i ∉ vs := by
  induction vs with
  | nil => exact ⟨h, by simp⟩
  | cons v vs ih =>
    unfold wipeE at h
    rcases get_set h with ⟨_, z, _⟩ | ⟨n, z⟩
    · cases z
    · obtain ⟨a, b⟩ := ih z
      exact ⟨a, by rw [List.mem_cons, not_or]; exact ⟨n, b⟩⟩
theorem wipeE_length {ρ : Env} {vs : List Nat} : (wipeE ρ vs).length = ρ.length := by
  induction vs with
  | nil => rfl
  | cons v vs ih => unfold wipeE; rw [List.length_set, ih]
theorem ER.wipe {K : PySem.W.Frag} {sk : Option Addr} {G H : Hp} {σ : L2.St} {ρ : Env} (r : ER K sk G H σ ρ) (vs : List Nat) : ER K sk G H (L2.wipe σ vs) (wipeE ρ vs) :=
  ⟨by rw [wipe_length, wipeE_length, r.len], fun i d h => by
    obtain ⟨a, b⟩ := wipeE_get h
    rw [wipe_get b]
    exact r.fz i d a, fun i ds h => by
    obtain ⟨a, b⟩ := wipeE_get h
    rw [wipe_get b]
    exact r.ow i ds a, fun i j ds es a n h1 h2 h3 => by
    obtain ⟨a1, b1⟩ := wipeE_get h1
    obtain ⟨a2, b2⟩ := wipeE_get h2
    rw [wipe_get b1] at h3
    rw [wipe_get b2]
    exact r.ne i j ds es a n a1 a2 h3⟩
section
variable {X : Cx} {tg : Expr} {pos : Pos}
theorem SR.init {K : PySem.W.Frag} {sk : Option Addr} {G H : Hp} {σ : L2.St} {ρ : Env} {s : S} (w : Vw K sk G H s) (r : ER K sk G H σ ρ) : ∃ Hb, SR K sk G Hb G H σ ρ s := by
  classical
  let own : Addr → Prop := fun a => ∃ (i : Nat) (ds : List D), ρ[i]? = some (some (Cell.ow ds)) ∧ σ[i]? = some (some (V.ref a))
  let Hb : Hp := fun a => if own a then none else H a
  refine ⟨Hb, w, r, ⟨.refl, fun a o e _ => ?_, fun _ _ e => .inl e, fun a e => ?_⟩, fun i ds a h1 h2 => ?_⟩
  · have e' : (if own a then none else H a) = some o := e
    split at e'
    · cases e'
    · exact e'
  · show (if own a then none else H a) = none
    split
    · rfl
    · exact e
  · show (if own a then none else H a) = none
    rw [if_pos ⟨i, ds, h1, h2⟩]
mutual
theorem bnd_len : ∀ {p : Pat} {d : D} {ρ ρ' : Env} {s s' : S}, bnd p d ρ s = some (ρ', s') → ρ.length = ρ'.length
  | .nm i, d, ρ, ρ', s, s', e => by unfold bnd at e; cases e; simp
  | .tp ps, .tuple ds, ρ, ρ', s, s', e => by unfold bnd at e; exact bnds_len e
  | .sb i k, d, ρ, ρ', s, s', e => by
    unfold bnd at e
    split at e
    · split at e
      · cases e; rfl
      · cases e
    · cases e
  | .tp ps, .none, ρ, ρ', s, s', e => by unfold bnd at e; cases e
  | .tp ps, .bool _, ρ, ρ', s, s', e => by unfold bnd at e; cases e
  | .tp ps, .int _, ρ, ρ', s, s', e => by unfold bnd at e; cases e
  | .tp ps, .str _, ρ, ρ', s, s', e => by unfold bnd at e; cases e
  | .tp ps, .list ds, ρ, ρ', s, s', e => by unfold bnd at e; exact bnds_len e
  | .tp ps, .dict _, ρ, ρ', s, s', e => by unfold bnd at e; cases e
theorem bnds_len : ∀ {ps : List Pat} {ds : List D} {ρ ρ' : Env} {s s' : S}, bnds ps ds ρ s = some (ρ', s') → ρ.length = ρ'.length
  | [], [], ρ, ρ', s, s', e => by unfold bnds at e; cases e; rfl
  | p :: ps, d :: ds, ρ, ρ', s, s', e => by
    unfold bnds at e
    split at e
    · rename_i ρ1 s1 e1
      rw [bnd_len e1, bnds_len e]
    · cases e
  | [], _ :: _, ρ, ρ', s, s', e => by unfold bnds at e; cases e
  | _ :: _, [], ρ, ρ', s, s', e => by unfold bnds at e; cases e
end
theorem tLc_of {K : PySem.W.Frag} {it : M (List D)} {vs : List Nat} {p : Pat} {fc : M Bool} {f : M D} (hv : ∀ i ∈ slo p, i ∈ vs) {σ : L2.St} {H : Hp} {Q : VK} (t : tL K (mLc it vs p fc f) σ H Q) : tLc (tIE K it) (tG K p) (tQ K fc) (tP K f) vs σ H Q := by
  obtain ⟨sk, G, ρ, s, ds, s', w, r, e, k⟩ := t
  have k' := k
  unfold mLc at e
  split at e
  · rename_i xs s1 e1
    split at e
    · rename_i hsz
      refine ⟨sk, G, ρ, s, xs, s1, w, r, e1, fun J G1 H1 w1 x1 y L hL => ?_⟩
      have nL : sk ≠ some L := fun z => by
        obtain ⟨_, ws, h6, _⟩ := w1.sack L z
        rw [h6] at hL; cases hL
      have gL : G1 L = none := by
        cases q : G1 L with
        | none => rfl
        | some u => rw [w1.sub L u q] at hL; cases hL
      refine ⟨fun i m H => m = xs.length - i ∧ i ≤ xs.length ∧ ∃ G t acc ad es, Vw K sk G H t ∧ Ex sk G1 H1 G H ∧ H L = some (.lst acc) ∧ G L = none ∧ acc.length ≤ i ∧ DpAll K G acc ad ∧ lcGo p fc f (wipeE ρ vs) (xs.drop i) t = some (es, s') ∧ ds = ad ++ es,
        ⟨_, rfl, Nat.zero_le _, G1, s1, [], [], ds, ?_, ?_, upd_same, gL, Nat.zero_le _, .nil, e, rfl⟩, ?_⟩
      · refine ⟨fun a o e => by rw [upd_ne (ne_of_none (w1.sub a o e) hL)]; exact w1.sub a o e, fun a e => ?_⟩
        obtain ⟨gn, ws, h6, h7⟩ := w1.sack a e
        exact ⟨gn, ws, by rw [upd_ne (ne_of_none h6 hL)]; exact h6, h7⟩
      · refine ⟨.refl, fun a o e _ => by rw [upd_ne (ne_of_none e hL)]; exact e, fun _ _ e => .inl e, fun a e => ?_⟩
        by_cases z : a = L
        · subst z; exact hL
        · rw [upd_ne z] at e; exact e
      rintro i m H2 ⟨rfl, hi, G2, t2, acc, ad, es, w2, x2, hl2, gl2, al, da, e2, rfl⟩
      by_cases hlt : i < xs.length
      · right
        rw [List.drop_eq_getElem_cons hlt] at e2
        have hx : xs[i]? = some xs[i] := List.getElem?_eq_getElem hlt
        obtain ⟨go, yl⟩ := y.item G2 H2 x2 w2.sub i _ hx
        refine ⟨go, fun H' => ∃ G t acc ad' es', Vw K sk G H' t ∧ Ex sk G1 H1 G H' ∧ H' L = some (.lst acc) ∧ G L = none ∧ acc.length ≤ i + 1 ∧ DpAll K G acc ad' ∧ lcGo p fc f (wipeE ρ vs) (xs.drop (i + 1)) t = some (es', s') ∧ ad ++ es = ad' ++ es', fun H' q => ⟨_, by omega, rfl, hlt, q⟩, fun v H3 yv => ?_⟩
        obtain ⟨G3, g3, d3⟩ := yl v H3 yv
        unfold lcGo at e2
        split at e2
        · cases e2
        · rename_i ρ3 t3 e3
          have e3' : ER K sk G3 H3 (L2.wipe σ vs) (wipeE ρ vs) := (((r.ex x1).ex x2).ex (g3.ex sk)).wipe vs
          obtain ⟨Hb, r3⟩ := SR.init (g3.vw w2) e3'
          refine ⟨sk, G3, Hb, G3, _, t2, xs[i], ρ3, t3, r3, .inl d3, e3, fun σ4 G4 H4 x4 of4 r4 => ⟨?_, ?_⟩⟩
          · exact wipe_off hv of4 (by rw [r4.er.len, ← bnd_len e3, ← e3'.len])
          have x14 : Ex sk G1 H1 G4 H4 := (x2.trans (g3.ex sk)).trans x4
          have x24 : Ex sk G2 H2 G4 H4 := (g3.ex sk).trans x4
          have hl4 : H4 L = some (.lst acc) := x24.hs L _ hl2 nL
          have gl4 : G4 L = none := x24.free hl2 gl2
          cases q : fc ρ3 t3 with
          | none => simp only [q] at e2; cases e2
          | some b =>
            obtain ⟨b, t5⟩ := b
            simp only [q] at e2
            refine ⟨sk, G4, ρ3, t3, b, t5, r4.vw, r4.er, q, fun G5 H5 w5 x5 => ?_⟩
            have x45 := x24.trans x5
            cases b with
            | false =>
              show (if false = true then _ else _)
              rw [if_neg Bool.false_ne_true]
              exact ⟨G5, t5, acc, ad, es, w5, x14.trans x5, x5.hs L _ hl4 nL, x5.free hl4 gl4, by omega, DpAll.up x45.gs _ _ da, e2, rfl⟩
            | true =>
              show (if true = true then _ else _)
              rw [if_pos rfl]
              cases q6 : f ρ3 t5 with
              | none => simp only [q6] at e2; cases e2
              | some r6 =>
                obtain ⟨d6, t6⟩ := r6
                simp only [q6] at e2
                split at e2
                · rename_i hd6
                  split at e2
                  · rename_i es7 t7 e7
                    cases e2
                    refine ⟨sk, G5, ρ3, t5, d6, t6, w5, r4.er.ex x5, q6, fun y6 G6 H6 w6 x6 q7 => ?_⟩
                    have x56 := x5.trans x6
                    have hl6 : H6 L = some (.lst acc) := x56.hs L _ hl4 nL
                    have gl6 : G6 L = none := x56.free hl4 gl4
                    have w8 : Vw K sk G6 (upd H6 L (.lst (acc ++ [y6]))) t6 := ⟨fun a o e => by
                      have n : a ≠ L := fun z => by subst z; rw [gl6] at e; cases e
                      rw [upd_ne n]; exact w6.sub a o e, fun a e => by
                      obtain ⟨gn, ws, h6, h7⟩ := w6.sack a e
                      exact ⟨gn, ws, by rw [upd_ne (fun z => nL (by rw [← z]; exact e))]; exact h6, h7⟩⟩
                    refine ⟨acc, hl6, by omega, G6, t6, acc ++ [y6], ad ++ [d6], es7, w8, ?_, upd_same, gl6, by simp; omega, DpAll.app (DpAll.up (x45.trans x6).gs _ _ da) (.cons (q7.dp hd6) .nil), e7, by simp⟩
                    have x16 := x14.trans x56
                    refine ⟨x16.gs, fun a o e n => ?_, x16.nw, fun a e => ?_⟩
                    · have : a ≠ L := fun z => by subst z; rw [hL] at e; cases e
                      rw [upd_ne this]; exact x16.hs a o e n
                    · by_cases z : a = L
                      · subst z; exact hL
                      · rw [upd_ne z] at e; exact x16.th a e
                  · cases e2
                · cases e2
      · have hl : i = xs.length := by omega
        subst hl
        left
        rw [List.drop_length] at e2
        cases e2
        refine ⟨y.stop G2 H2 x2 w2.sub, ?_⟩
        have x12 := x1.trans x2
        exact k' L acc G2 H2 w2 x12 (x1.th L hL) nL hl2 gl2 (by rw [List.append_nil]; exact da)
    · cases e
  · cases e
theorem P.lc {elt iter : Expr} {ifs : List Expr} {scope : Scope} {own : List (Str × Nat)} {it : M (List D)} {p : Pat} {fc : M Bool} {f : M D} (hc : X.calm = true) (hN : X.N.Nodup) (hi : PI X tg iter (tIE X.K it)) (ok : BlkOk X.N X.env.scope scope own) (hv : ∀ i ∈ slo p, i ∈ own.map (·.2))
    (hg : ∀ (s : Shared) (H : Hp) (C : Addr) (cl : List (Str × Addr)) (fp : List Addr), PG (X.blk s H scope (compEnvC scope cl C X.env) fp) tg (tG X.K p)) (ht : ∀ (s : Shared) (H : Hp) (C : Addr) (cl : List (Str × Addr)) (fp : List Addr), PTs (X.blk s H scope (compEnvC scope cl C X.env) fp) ifs (tQ X.K fc))
    (he : ∀ (s : Shared) (H : Hp) (C : Addr) (cl : List (Str × Addr)) (fp : List Addr), PE (X.blk s H scope (compEnvC scope cl C X.env) fp) elt (tP X.K f)) (hs : ∀ x, foldedSetIterable iter X.env x = pure x := by intro _; rfl) :
    PE X (.ListComp elt [⟨tg, iter, ifs, 0⟩] scope pos) (tL X.K (mLc it (own.map (·.2)) p fc f)) :=
  peI (pe_lc hc hN hi ok hg ht he hs) fun _ _ _ t => tLc_of hv t
theorem P.nif : PTs X [] (tQ X.K (qC true)) := ⟨fun pins s σ H Q I ⟨sk, G, ρ, sS, b, s', w, r, e, k⟩ => by
  cases e
  exact (pts_nil (X := X)).run pins s σ H Q I (k G H w .refl)⟩
theorem P.one_if {c : Expr} {fc : M Bool} (h : PT X c (tQ X.K fc)) : PTs X [c] (tQ X.K fc) := pts_one h
theorem P.ownLc {i : Nat} {y : Str} {py : Pos} {elt iter : Expr} {ifs : List Expr} {scope : Scope} {own : List (Str × Nat)} {spos : Pos} {it : M (List D)} {p : Pat} {fc : M Bool} {f : M D} (hc : X.calm = true) (hN : X.N.Nodup) (hy : X.N[i]? = some y) (hyl : X.env.scope.names.lookup y = some .local)
    (hsw : swapsWith (.ListComp elt [⟨tg, iter, ifs, 0⟩] scope pos) (some (.Name y py)) spos.line X.env = pure true) (hi : PI X tg iter (tIE X.K it)) (ok : BlkOk X.N X.env.scope scope own) (hv : ∀ i ∈ slo p, i ∈ own.map (·.2))
    (hg : ∀ (s : Shared) (H : Hp) (C : Addr) (cl : List (Str × Addr)) (fp : List Addr), PG (X.blk s H scope (compEnvC scope cl C X.env) fp) tg (tG X.K p)) (ht : ∀ (s : Shared) (H : Hp) (C : Addr) (cl : List (Str × Addr)) (fp : List Addr), PTs (X.blk s H scope (compEnvC scope cl C X.env) fp) ifs (tQ X.K fc))
    (he : ∀ (s : Shared) (H : Hp) (C : Addr) (cl : List (Str × Addr)) (fp : List Addr), PE (X.blk s H scope (compEnvC scope cl C X.env) fp) elt (tP X.K f)) (hs : ∀ x, foldedSetIterable iter X.env x = pure x := by intro _; rfl) :
    PS X (.Assign [.Name y py] (.ListComp elt [⟨tg, iter, ifs, 0⟩] scope pos) spos) (tS X.K (sOwn i (mLc it (own.map (·.2)) p fc f))) := by
  refine psI (ps_setLc hc hN hy hyl hsw hi ok hg ht he hs) fun E σ H t => ?_
  have q := tAsgL_of t
  exact tLc_of hv q
end
/-! ### defs and calls -/
abbrev Fn := List D → S → Option (D × S)
def startE (N : Nat) (ds : List D) : Env := ds.map (fun d => some (Cell.fz d)) ++ List.replicate (N - ds.length) none
/-- a def with n parameters and N names -/
def fnM (n N : Nat) (body : M Out) : Fn := fun ds s => if ds.length = n then (match body (startE N ds) s with
  | some (.rt d, s') => some (d, s')
  | some (.nx _, s') => some (.none, s')
  | _ => none) else none
def spF (K : PySem.W.Frag) (F : Fn) : Sp := fun vs H Q _ => ∃ sk G ds s d s', Vw K sk G H s ∧ Paired (Dq K sk G) vs ds ∧ F ds s = some (d, s') ∧ ∀ v G' H', Vw K sk G' H' s' → Ex sk G H G' H' → Dq K sk G' v d → Q v H'
theorem Paired.get {α β : Type} {R : α → β → Prop} : ∀ {xs : List α} {ys : List β} {i : Nat} {y : β}, Paired R xs ys → ys[i]? = some y → ∃ x, xs[i]? = some x ∧ R x y
  | _, _, _, _, .nil, e => by simp at e
  | _, _, 0, _, .cons h t, e => by simp at e; subst e; exact ⟨_, rfl, h⟩
  | _, _, i + 1, _, .cons h t, e => by
    obtain ⟨v, a, b⟩ := Paired.get (i := i) t (by simpa using e)
    exact ⟨v, by simpa using a, b⟩
theorem startE_get {N : Nat} {ds : List D} {i : Nat} {c : Cell} (h : (startE N ds)[i]? = some (some c)) : ∃ d, c = .fz d ∧ ds[i]? = some d := by
  unfold startE at h
  by_cases hi : i < ds.length
  · rw [List.getElem?_append_left (by simpa using hi), List.getElem?_map] at h
    cases q : ds[i]? with
    | none => rw [q] at h; cases h
    | some d => rw [q] at h; cases h; exact ⟨d, rfl, rfl⟩
  · rw [List.getElem?_append_right (by simp; omega)] at h
    have z := List.getElem?_eq_some_iff.mp h
    obtain ⟨hz, e⟩ := z
    rw [List.getElem_replicate] at e
    cases e
theorem start_get {N : List Str} {vs : List V} {i : Nat} {v : V} (h : vs[i]? = some v) : (L2.start N vs)[i]? = some (some v) := by
  have hi : i < vs.length := (List.getElem?_eq_some_iff.mp h).1
  unfold L2.start
  rw [List.getElem?_append_left (by simpa using hi), List.getElem?_map, h]
  rfl
theorem P.fn {P : Program} {w : World} {K : PySem.W.Frag} {mg : Str → Option Value} {base : Heap} {k : Nat} {f : Addr} {nm qu : Str} {pars : Arguments} {bd : List Stmt} {sc : Scope} {dvs : List V} {kws : List (Str × V)} {fd : FuncData} {N ps : List Str} {F : M Out} {n m : Nat}
    (D : FunD K nm qu pars bd sc dvs kws f fd) (S : FnScope N ps sc) (hn : ps.length = n) (hm : N.length = m)
    (body : ∀ (cdv : Value) (A : Around) (outer : List PySem.Env) (s : Shared) (H : Hp) (E : XK), A.guards = some [] → Room k (A.deeper (envOfC qu sc s.heap.objs.size f cdv)) →
      PSs (cxOf CX0 P w K mg base N qu sc f cdv A outer s H E).nox bd (tS K F)) : FnG P w K mg base CX0 (k + 1) f fd ps (spF K (fnM n m F)) := by
  subst hn; subst hm
  refine fnG_of D S (fun vs H Q E ⟨sk, G, ds, s, d, s', w, p, e, k⟩ => ?_) fun cdv A outer s H vs Q E hg hr h => ?_
  · unfold fnM at e
    split at e
    · rw [Paired.length p]; assumption
    · cases e
  · refine ⟨_, PSs.nox (body cdv A outer s H E hg hr), ?_⟩
    obtain ⟨sk, G, ds, s1, d, s', w1, p, e, k1⟩ := h
    unfold fnM at e
    split at e
    · rename_i hl
      have lv : vs.length = ps.length := by rw [Paired.length p]; exact hl
      have r : SR K sk G H G H (L2.start N vs) (startE N.length ds) s1 := by
        refine ⟨w1, ⟨?_, fun i d h => ?_, fun i es h => ?_, fun i j es fs a n h1 h2 h3 => ?_⟩, .refl, fun i es a h1 h2 => ?_⟩
        · unfold L2.start startE; simp [Paired.length p]
        · obtain ⟨d', e1, e2⟩ := startE_get h
          cases e1
          obtain ⟨v, h1, h2⟩ := Paired.get p e2
          exact ⟨v, start_get h1, h2⟩
        · obtain ⟨d', e1, e2⟩ := startE_get h; cases e1
        · obtain ⟨d', e1, e2⟩ := startE_get h1; cases e1
        · obtain ⟨d', e1, e2⟩ := startE_get h1; cases e1
      split at e
      · rename_i d' s2 e1
        cases e
        exact ⟨sk, G, H, G, _, s1, _, _, r, e1, fun v G' H' w' x q => k1 v G' H' w' x q⟩
      · rename_i ρ' s2 e1
        cases e
        exact ⟨sk, G, H, G, _, s1, _, _, r, e1, fun σ' G' H' r' => k1 .non G' H' r'.vw r'.ex (.inl .non)⟩
      · cases e
    · cases e
section
variable {X : Cx} {pos : Pos}
def mF (F : Fn) (a : M (List D)) : M D := fun ρ s => match a ρ s with
  | some (ds, s1) => F ds s1
  | none => none
theorem P.call {k : Nat} {f : Addr} {fd : FuncData} {ps : List Str} {x : Str} {p : Pos} {e : Expr} {es : List Expr} {F : Fn} {fa : M (List D)} (hF : FnG X.prog X.w X.K X.mg X.base CX0 k f fd ps (spF X.K F)) (hgd : X.A.guards = some []) (hr : Room k X.A) (hg : Gl X x) (hm : X.mg x = some (.ref f)) (hk : PySem.W.keepIn X.K (.ref f) = true) (hb : Binds X.K fd ps [])
    (ha : PA X (e :: es) (tA X.K fa)) (hdb : (x == ("__debug__" : Str)) = false := by decide) (he : starEach (e :: es) X.env = (false, eval e X.env) :: starEach es X.env := by rfl) (hpl : (backTo pos (starEach es X.env)).any (·.1) = false := by rfl) :
    PE X (.Call (.Name x p) (e :: es) [] pos) (tP X.K (mF F fa)) := by
  refine peI (pe_callG hF hgd hr hg hm hk hb ha hdb he hpl) fun σ H Q ⟨sk, G, ρ, s, d, s', w, r, e, k⟩ => ?_
  unfold mF at e
  split at e
  · rename_i ds s1 e1
    refine ⟨sk, G, ρ, s, ds, s1, w, r, e1, fun vs G1 H1 w1 x1 p1 => ?_⟩
    show spF X.K F (vs ++ []) H1 Q E0
    rw [List.append_nil]
    exact ⟨sk, G1, ds, s1, d, s', w1, p1, e, fun v G2 H2 w2 x2 q => k v G2 H2 w2 (x1.trans x2) q⟩
  · cases e
/-- a, b = e1, e2 stored from the right -/
def sPar (i j : Nat) (a : M (List D)) : M Out := fun ρ s => match a ρ s with
  | some ([d, e], s1) => some (.nx ((ρ.set i (some (.fz d))).set j (some (.fz e))), s1)
  | _ => none
theorem P.par {i j : Nat} {x y : Str} {a b : Expr} {ta : M (List D)} {px py pt : Pos} {kt k2 pt2} (hc : X.calm = true) (hN : X.N.Nodup) (hi : X.N[i]? = some x) (hj : X.N[j]? = some y) (hij : i ≠ j)
    (hx : X.env.scope.names.lookup x = some .local) (hy : X.env.scope.names.lookup y = some .local) (ha : PA X [a, b] (tA X.K ta))
    (hw : swappedStores [.Tuple [.Name x px, .Name y py] kt pt] (.Tuple [a, b] k2 pt2) X.env = pure (some [x, y]))
    (hs : swapsWithSole [.Tuple [.Name x px, .Name y py] kt pt] (.Tuple [a, b] k2 pt2) pos.line X.env = pure false := by rfl) :
    PS X (.Assign [.Tuple [.Name x px, .Name y py] kt pt] (.Tuple [a, b] k2 pt2) pos) (tS X.K (sPar i j ta)) := by
  refine psI (ps_par hc hN hi hj hij hx hy ha hw hs) fun E σ H ⟨sk, G0, H0, G, ρ, s, o, s', r, e, k⟩ => ?_
  unfold sPar at e
  split at e
  · rename_i d1 d2 s1 e1
    cases e
    refine ⟨sk, G, ρ, s, _, _, r.vw, r.er, e1, fun vs G1 H1 w1 x1 p => ?_⟩
    cases p with
    | cons h1 t =>
      cases t with
      | cons h2 t =>
        cases t
        exact ⟨_, _, rfl, k _ G1 H1 (((r.on w1 x1).setF i h1).setF j h2)⟩
  · cases e
/-- a, b = e1, [..] and a, b = [..], e2 -/
def sParFO (i j : Nat) (a : M D) (b : M (List D)) : M Out := fun ρ s => match a ρ s with
  | some (d, s1) => (match b ρ s1 with
    | some (es, s2) => some (.nx ((ρ.set i (some (.fz d))).set j (some (.ow es))), s2)
    | none => none)
  | none => none
def sParOF (i j : Nat) (a : M (List D)) (b : M D) : M Out := fun ρ s => match a ρ s with
  | some (es, s1) => (match b ρ s1 with
    | some (d, s2) => some (.nx ((ρ.set i (some (.ow es))).set j (some (.fz d))), s2)
    | none => none)
  | none => none
theorem P.parFO {i j : Nat} {x y : Str} {a b : Expr} {fa : M D} {fb : M (List D)} {px py pt : Pos} {kt k2 pt2} (hc : X.calm = true) (hN : X.N.Nodup) (hi : X.N[i]? = some x) (hj : X.N[j]? = some y) (hij : i ≠ j)
    (hx : X.env.scope.names.lookup x = some .local) (hy : X.env.scope.names.lookup y = some .local) (ha : PE X a (tP X.K fa)) (hb : PE X b (tL X.K fb))
    (hw : swappedStores [.Tuple [.Name x px, .Name y py] kt pt] (.Tuple [a, b] k2 pt2) X.env = pure (some [x, y]))
    (hs : swapsWithSole [.Tuple [.Name x px, .Name y py] kt pt] (.Tuple [a, b] k2 pt2) pos.line X.env = pure false := by rfl)
    (h1 : starEach (a :: [b]) X.env = (false, eval a X.env) :: starEach [b] X.env := by rfl) (h2 : starEach (b :: []) X.env = (false, eval b X.env) :: starEach [] X.env := by rfl) :
    PS X (.Assign [.Tuple [.Name x px, .Name y py] kt pt] (.Tuple [a, b] k2 pt2) pos) (tS X.K (sParFO i j fa fb)) := by
  refine psI (ps_par hc hN hi hj hij hx hy (pa_cons ha (pa_cons hb pa_nil h2) h1) hw hs) fun E σ H ⟨sk, G0, H0, G, ρ, s, o, s', r, e, k⟩ => ?_
  unfold sParFO at e
  split at e
  · rename_i d s1 e1
    split at e
    · rename_i es s2 e2
      cases e
      refine P.then r.vw r.er e1 fun v G1 H1 w1 x1 r1 q1 => ?_
      refine ⟨sk, G1, ρ, s1, es, _, w1, r1, e2, fun p vs G2 H2 w2 x2 hp np hl gp dl => ?_⟩
      have rr := ((r.on w1 x1).on w2 x2).setF i (q1.up x2.gs)
      refine ⟨_, _, rfl, k _ G2 H2 (rr.setO j hl gp np ?_ dl fun m ds q z => ?_)⟩
      · exact (r.on w1 x1).h0 hp
      · rcases get_set q with ⟨_, z1, _⟩ | ⟨n, z1⟩
        · cases z1
        · rw [List.getElem?_set_ne (Ne.symm n)] at z
          exact r1.nw hp m ds z1 z
    · cases e
  · cases e
theorem P.parOF {i j : Nat} {x y : Str} {a b : Expr} {fa : M (List D)} {fb : M D} {px py pt : Pos} {kt k2 pt2} (hc : X.calm = true) (hN : X.N.Nodup) (hi : X.N[i]? = some x) (hj : X.N[j]? = some y) (hij : i ≠ j)
    (hx : X.env.scope.names.lookup x = some .local) (hy : X.env.scope.names.lookup y = some .local) (ha : PE X a (tL X.K fa)) (hb : PE X b (tP X.K fb))
    (hw : swappedStores [.Tuple [.Name x px, .Name y py] kt pt] (.Tuple [a, b] k2 pt2) X.env = pure (some [x, y]))
    (hs : swapsWithSole [.Tuple [.Name x px, .Name y py] kt pt] (.Tuple [a, b] k2 pt2) pos.line X.env = pure false := by rfl)
    (h1 : starEach (a :: [b]) X.env = (false, eval a X.env) :: starEach [b] X.env := by rfl) (h2 : starEach (b :: []) X.env = (false, eval b X.env) :: starEach [] X.env := by rfl) :
    PS X (.Assign [.Tuple [.Name x px, .Name y py] kt pt] (.Tuple [a, b] k2 pt2) pos) (tS X.K (sParOF i j fa fb)) := by
  refine psI (ps_par hc hN hi hj hij hx hy (pa_cons ha (pa_cons hb pa_nil h2) h1) hw hs) fun E σ H ⟨sk, G0, H0, G, ρ, s, o, s', r, e, k⟩ => ?_
  unfold sParOF at e
  split at e
  · rename_i es s1 e1
    split at e
    · rename_i d s2 e2
      cases e
      refine ⟨sk, G, ρ, s, es, _, r.vw, r.er, e1, fun p vs G1 H1 w1 x1 hp np hl gp dl => ?_⟩
      refine P.then w1 (r.er.ex x1) e2 fun v G2 H2 w2 x2 r2 q2 => ?_
      have rr := ((r.on w1 x1).on w2 x2).setO i (x2.hs p _ hl np) (x2.free hl gp) np (r.h0 hp) (DpAll.up x2.gs _ _ dl) fun m ds q => r.er.nw hp m ds q
      exact ⟨_, _, rfl, k _ G2 H2 (rr.setF j q2)⟩
    · cases e
  · cases e
/-- a, b = e1, [..] by way of a pair (a name of them is captured) -/
theorem P.asgFO {i j : Nat} {x y : Str} {a b : Expr} {fa : M D} {fb : M (List D)} {px py pt : Pos} {kt k2 pt2} (hc : X.calm = true) (hN : X.N.Nodup) (hi : X.N[i]? = some x) (hj : X.N[j]? = some y)
    (hx : Loc X.env.scope x) (hy : Loc X.env.scope y) (ha : PE X a (tP X.K fa)) (hb : PE X b (tL X.K fb))
    (hs : swapsWithSole [.Tuple [.Name x px, .Name y py] kt pt] (.Tuple [a, b] k2 pt2) pos.line X.env = pure false := by rfl) (hw : swappedStores [.Tuple [.Name x px, .Name y py] kt pt] (.Tuple [a, b] k2 pt2) X.env = pure none := by rfl)
    (h0 : (assignEach [.Tuple [.Name x px, .Name y py] kt pt] X.env).map (·.2) = [assign (.Tuple [.Name x px, .Name y py] kt pt) X.env] := by rfl)
    (h1 : starEach (a :: [b]) X.env = (false, eval a X.env) :: starEach [b] X.env := by rfl) (h2 : starEach (b :: []) X.env = (false, eval b X.env) :: starEach [] X.env := by rfl)
    (h3 : (assignEach [.Name x px, .Name y py] X.env).map (·.2) = assign (.Name x px) X.env :: (assignEach [.Name y py] X.env).map (·.2) := by rfl) (h4 : (assignEach [.Name y py] X.env).map (·.2) = assign (.Name y py) X.env :: (assignEach [] X.env).map (·.2) := by rfl)
    (h5 : (assignEach [.Name x px, .Name y py] X.env).length = 2 := by rfl) (h6 : (assignEach [.Name x px, .Name y py] X.env).findIdx? (·.1) = none := by rfl)
    (hfx : X.fn x = true ∨ X.env.scope.names.lookup x = some .local := by first | exact .inl rfl | exact .inr rfl | assumption) (hfy : X.fn y = true ∨ X.env.scope.names.lookup y = some .local := by first | exact .inl rfl | exact .inr rfl | assumption) :
    PS X (.Assign [.Tuple [.Name x px, .Name y py] kt pt] (.Tuple [a, b] k2 pt2) pos) (tS X.K (sParFO i j fa fb)) := by
  refine psI (ps_asg (pe_tup (pa_cons ha (pa_cons hb pa_nil h2) h1)) (pg_tup hc (pgs_cons (pg_name hN hi hx hfx) (pgs_cons (pg_name hN hj hy hfy) pgs_nil h4) h3) h5 h6) hs hw h0) fun E σ H ⟨sk, G0, H0, G, ρ, s, o, s', r, e, k⟩ => ?_
  unfold sParFO at e
  split at e
  · rename_i d s1 e1
    split at e
    · rename_i es s2 e2
      cases e
      refine P.then r.vw r.er e1 fun v G1 H1 w1 x1 r1 q1 => ?_
      refine ⟨sk, G1, ρ, s1, es, _, w1, r1, e2, fun p vs G2 H2 w2 x2 hp np hl gp dl => ?_⟩
      refine ⟨(by show 2 ≤ sizeLine; decide), fun t ht => ?_⟩
      have gt : G2 t = none := by
        cases q : G2 t with
        | none => rfl
        | some u => rw [w2.sub t u q] at ht; cases ht
      have nt : sk ≠ some t := fun z => by
        obtain ⟨_, ws, h6, _⟩ := w2.sack t z
        rw [h6] at ht; cases ht
      have up : ∀ b o, H2 b = some o → upd H2 t (.tup [v, .ref p]) b = some o := fun b o e => by rw [upd_ne (ne_of_none e ht)]; exact e
      have w3 : Vw X.K sk G2 (upd H2 t (.tup [v, .ref p])) _ := ⟨fun b o e => up b o (w2.sub b o e), fun b e => by
        obtain ⟨gn, ws, h6, h7⟩ := w2.sack b e
        exact ⟨gn, ws, up b _ h6, h7⟩⟩
      have x3 : Ex sk G2 H2 G2 (upd H2 t (.tup [v, .ref p])) := ⟨.refl, fun b o e _ => up b o e, fun _ _ e => .inl e, fun b e => by
        by_cases z : b = t
        · subst z; exact ht
        · rw [upd_ne z] at e; exact e⟩
      have rr := (((r.on w1 x1).on w2 x2).on w3 x3).setF i ((q1.up x2.gs).up x3.gs)
      refine ⟨t, [v, .ref p], rfl, SqT.of upd_same, rfl, v, _, rfl, .ref p, _, rfl, rfl, k _ G2 _ (rr.setO j (up p _ hl) gp np ?_ dl fun m ds q z => ?_)⟩
      · exact (r.on w1 x1).h0 hp
      · rcases get_set q with ⟨_, z1, _⟩ | ⟨n, z1⟩
        · cases z1
        · rw [List.getElem?_set_ne (Ne.symm n)] at z
          exact r1.nw hp m ds z1 z
    · cases e
  · cases e
/-- a, b, c = e1, e2, e3 with plain local names: stored from the right -/
theorem ps_par3 {i j l : Nat} {x y z : Str} {a b c : Expr} {ta : TA} {px py pz pt : Pos} {kt k2 pt2} (hc : X.calm = true) (hN : X.N.Nodup) (hi : X.N[i]? = some x) (hj : X.N[j]? = some y) (hl : X.N[l]? = some z) (hij : i ≠ j) (hil : i ≠ l) (hjl : j ≠ l)
    (hx : X.env.scope.names.lookup x = some .local) (hy : X.env.scope.names.lookup y = some .local) (hz : X.env.scope.names.lookup z = some .local) (ha : PA X [a, b, c] ta)
    (hw : swappedStores [.Tuple [.Name x px, .Name y py, .Name z pz] kt pt] (.Tuple [a, b, c] k2 pt2) X.env = pure (some [x, y, z]))
    (hs : swapsWithSole [.Tuple [.Name x px, .Name y py, .Name z pz] kt pt] (.Tuple [a, b, c] k2 pt2) pos.line X.env = pure false := by rfl) :
    PS X (.Assign [.Tuple [.Name x px, .Name y py, .Name z pz] kt pt] (.Tuple [a, b, c] k2 pt2) pos) (fun D σ H => ta σ H fun vs H1 => ∃ v w u, vs = [v, w, u] ∧ D.nx (((σ.set i (some v)).set j (some w)).set l (some u)) H1) := by
  refine ⟨fun pins s σ H D I h => ?_⟩
  rw [exec_Assign_arm]
  refine wpAny_bind (wpAny_standAt ?_)
  rw [hs]
  refine wpAny_bind (wpAny_pure ?_)
  rw [if_neg (by decide)]
  refine wpAny_bind (Tuple_ (thn (ha.run _ pins s σ H _ I h) fun us s1 ⟨vs, H1, I1, r1, q1⟩ => ?_))
  obtain ⟨v, w, u, e1, q1⟩ := q1
  subst e1
  obtain ⟨u1, u2, u3, rfl, rv, rw', ru⟩ : ∃ u1 u2 u3, us = [u1, u2, u3] ∧ RelV v u1 ∧ RelV w u2 ∧ RelV u u3 := by
    cases r1 with
    | cons p q => cases q with
      | cons p' q' => cases q' with
        | cons p'' q'' => cases q''; exact ⟨_, _, _, rfl, p, p', p''⟩
  refine wpAny_newObj_type ?_ (by show 3 ≤ sizeLine; decide)
  have I2 : Inv X pins σ H1 { s1 with heap := s1.heap.push { cls := .type "tuple", data := .seq [u1, u2, u3].toArray } } := I1.kept (t' := s1.toks) fun b o e => Heap.get?_push_of_some _ e
  rw [hw]
  refine wpAny_bind (wpAny_pure ?_)
  show wpAny (model X.prog X.w) X.A (do rule "assign.swapped-stores"; let items ← unpackItems (.ref s1.heap.objs.size) 3 none; assignInOrder [fun v => bindName X.env z v, fun v => bindName X.env y v, fun v => bindName X.env x v] items.reverse; pure Flow.next) _ _ _
  refine wpAny_bind (wpAny_rule (wpAny_bind (unpackItems_tuple (items := #[u1, u2, u3]) (I.ok.hd hc) (IsTup.new s1.heap _) fun h' hx' => ?_)))
  have I3 := I2.kept (h' := h') (t' := s1.toks) fun b o e => hx' b o (Nat.ne_of_lt (Heap.lt_size e)) e
  show wpAny _ _ (assignInOrder [fun v => bindName X.env z v, fun v => bindName X.env y v, fun v => bindName X.env x v] [u3, u2, u1] >>= fun _ => pure Flow.next) _ _ _
  refine wpAny_bind (assignInOrder_cons (wpAny_bindName (store_ok I3 hN hl (.inl hz) ru (fun s2 I4 => ?_) (.inr hz))))
  refine assignInOrder_cons (wpAny_bindName (store_ok I4 hN hj (.inl hy) rw' (fun s3 I5 => ?_) (.inr hy)))
  refine assignInOrder_cons (wpAny_bindName (store_ok I5 hN hi (.inl hx) rv (fun s4 I6 => assignInOrder_nil (wpAny_pure ?_)) (.inr hx)))
  rw [List.set_comm _ _ (Ne.symm hjl), List.set_comm _ _ (Ne.symm hil), List.set_comm _ _ (Ne.symm hij)] at I6
  exact ⟨_, H1, I6, q1⟩
def sPar3 (i j l : Nat) (a : M (List D)) : M Out := fun ρ s => match a ρ s with
  | some ([d, e, f], s1) => some (.nx (((ρ.set i (some (.fz d))).set j (some (.fz e))).set l (some (.fz f))), s1)
  | _ => none
theorem P.par3 {i j l : Nat} {x y z : Str} {a b c : Expr} {ta : M (List D)} {px py pz pt : Pos} {kt k2 pt2} (hc : X.calm = true) (hN : X.N.Nodup) (hi : X.N[i]? = some x) (hj : X.N[j]? = some y) (hl : X.N[l]? = some z) (hij : i ≠ j) (hil : i ≠ l) (hjl : j ≠ l)
    (hx : X.env.scope.names.lookup x = some .local) (hy : X.env.scope.names.lookup y = some .local) (hz : X.env.scope.names.lookup z = some .local) (ha : PA X [a, b, c] (tA X.K ta))
    (hw : swappedStores [.Tuple [.Name x px, .Name y py, .Name z pz] kt pt] (.Tuple [a, b, c] k2 pt2) X.env = pure (some [x, y, z]))
    (hs : swapsWithSole [.Tuple [.Name x px, .Name y py, .Name z pz] kt pt] (.Tuple [a, b, c] k2 pt2) pos.line X.env = pure false := by rfl) :
    PS X (.Assign [.Tuple [.Name x px, .Name y py, .Name z pz] kt pt] (.Tuple [a, b, c] k2 pt2) pos) (tS X.K (sPar3 i j l ta)) := by
  refine psI (ps_par3 hc hN hi hj hl hij hil hjl hx hy hz ha hw hs) fun E σ H ⟨sk, G0, H0, G, ρ, s, o, s', r, e, k⟩ => ?_
  unfold sPar3 at e
  split at e
  · rename_i d1 d2 d3 s1 e1
    cases e
    refine ⟨sk, G, ρ, s, _, _, r.vw, r.er, e1, fun vs G1 H1 w1 x1 p => ?_⟩
    cases p with
    | cons h1 t => cases t with
      | cons h2 t => cases t with
        | cons h3 t =>
          cases t
          exact ⟨_, _, _, rfl, k _ G1 H1 ((((r.on w1 x1).setF i h1).setF j h2).setF l h3)⟩
  · cases e
/-- x += e of a number -/
def aAdd : D → D → Option D
  | .int p, .int q => some (.int (p + q))
  | _, _ => none
def sAug (i : Nat) (f : D → D → Option D) (a : M D) : M Out := fun ρ s => match ρ[i]? with
  | some (some (Cell.fz (.int x))) => (match a ρ s with
    | some (y, s1) => (match f (.int x) y with
      | some z => some (.nx (ρ.set i (some (.fz z))), s1)
      | none => none)
    | none => none)
  | _ => none
theorem P.augAdd {i : Nat} {x : Str} {e : Expr} {f : M D} {pos' : Pos} (hN : X.N.Nodup) (hi : X.N[i]? = some x) (hx : Loc X.env.scope x) (he : PE X e (tP X.K f)) (hf : X.fn x = true ∨ X.env.scope.names.lookup x = some .local := by first | exact .inl rfl | exact .inr rfl | assumption) :
    PS X (.AugAssign (.Name x pos') .Add e pos) (tS X.K (sAug i aAdd f)) := by
  refine psI (ps_aug hN hi hx he ip_add hf) fun E σ H ⟨sk, G0, H0, G, ρ, s, o, s', r, e, k⟩ => ?_
  unfold sAug at e
  split at e
  · rename_i x0 e0
    split at e
    · rename_i y s1 e1
      split at e
      · rename_i z ez
        cases e
        unfold aAdd at ez
        split at ez
        · rename_i p q ep
          cases ep
          cases ez
          obtain ⟨v, h1, h2⟩ := r.er.fz i _ e0
          refine ⟨v, h1, P.then r.vw r.er e1 fun v' G1 H1 w1 x1 r1 q1 => ⟨_, _, Dp.int_of h2, Dp.int_of q1, ?_⟩⟩
          exact k _ G1 H1 ((r.on w1 x1).setF i (.inl (.int _)))
        · cases ez
      · cases e
    · cases e
  · cases e
/-! ### a def that hands back a new list; the sack is made of it -/
abbrev FnL := List D → S → Option (List D × S)
def fnL (n N : Nat) (body : M Out) : FnL := fun ds s => if ds.length = n then (match body (startE N ds) s with
  | some (.rl d, s') => some (d, s')
  | _ => none) else none
def spL (K : PySem.W.Frag) (F : FnL) : Sp := fun vs H Q _ => ∃ sk G ds s es s', Vw K sk G H s ∧ Paired (Dq K sk G) vs ds ∧ F ds s = some (es, s') ∧
  ∀ p xs G' H', Vw K sk G' H' s' → Ex sk G H G' H' → H p = none → sk ≠ some p → H' p = some (.lst xs) → G' p = none → DpAll K G' xs es → Q (.ref p) H'
end
theorem P.fnl {P : Program} {w : World} {K : PySem.W.Frag} {mg : Str → Option Value} {base : Heap} {k : Nat} {f : Addr} {nm qu : Str} {pars : Arguments} {bd : List Stmt} {sc : Scope} {dvs : List V} {kws : List (Str × V)} {fd : FuncData} {N ps : List Str} {F : M Out} {n m : Nat}
    (D : FunD K nm qu pars bd sc dvs kws f fd) (S : FnScope N ps sc) (hn : ps.length = n) (hm : N.length = m)
    (body : ∀ (cdv : Value) (A : Around) (outer : List PySem.Env) (s : Shared) (H : Hp) (E : XK), A.guards = some [] → Room k (A.deeper (envOfC qu sc s.heap.objs.size f cdv)) →
      PSs (cxOf CX0 P w K mg base N qu sc f cdv A outer s H E).nox bd (tS K F)) : FnG P w K mg base CX0 (k + 1) f fd ps (spL K (fnL n m F)) := by
  subst hn; subst hm
  refine fnG_of D S (fun vs H Q E ⟨sk, G, ds, s, d, s', w, p, e, k⟩ => ?_) fun cdv A outer s H vs Q E hg hr h => ?_
  · unfold fnL at e
    split at e
    · rw [Paired.length p]; assumption
    · cases e
  · refine ⟨_, PSs.nox (body cdv A outer s H E hg hr), ?_⟩
    obtain ⟨sk, G, ds, s1, d, s', w1, p, e, k1⟩ := h
    unfold fnL at e
    split at e
    · rename_i hl
      have lv : vs.length = ps.length := by rw [Paired.length p]; exact hl
      have r : SR K sk G H G H (L2.start N vs) (startE N.length ds) s1 := by
        refine ⟨w1, ⟨?_, fun i d h => ?_, fun i es h => ?_, fun i j es fs a n h1 h2 h3 => ?_⟩, .refl, fun i es a h1 h2 => ?_⟩
        · unfold L2.start startE; simp [Paired.length p]
        · obtain ⟨d', e1, e2⟩ := startE_get h
          cases e1
          obtain ⟨v, h1, h2⟩ := Paired.get p e2
          exact ⟨v, start_get h1, h2⟩
        · obtain ⟨d', e1, e2⟩ := startE_get h; cases e1
        · obtain ⟨d', e1, e2⟩ := startE_get h1; cases e1
        · obtain ⟨d', e1, e2⟩ := startE_get h1; cases e1
      split at e
      · rename_i d' s2 e1
        cases e
        exact ⟨sk, G, H, G, _, s1, _, _, r, e1, fun p vs G' H' w' x hp np hl gp dl => k1 p vs G' H' w' x hp np hl gp dl⟩
      · cases e
    · cases e
section
variable {X : Cx} {pos : Pos}
def mFL (F : FnL) (a : M (List D)) : M (List D) := fun ρ s => match a ρ s with
  | some (ds, s1) => F ds s1
  | none => none
theorem P.callL {k : Nat} {f : Addr} {fd : FuncData} {ps : List Str} {x : Str} {p : Pos} {e : Expr} {es : List Expr} {F : FnL} {fa : M (List D)} (hF : FnG X.prog X.w X.K X.mg X.base CX0 k f fd ps (spL X.K F)) (hgd : X.A.guards = some []) (hr : Room k X.A) (hg : Gl X x) (hm : X.mg x = some (.ref f)) (hk : PySem.W.keepIn X.K (.ref f) = true) (hb : Binds X.K fd ps [])
    (ha : PA X (e :: es) (tA X.K fa)) (hdb : (x == ("__debug__" : Str)) = false := by decide) (he : starEach (e :: es) X.env = (false, eval e X.env) :: starEach es X.env := by rfl) (hpl : (backTo pos (starEach es X.env)).any (·.1) = false := by rfl) :
    PE X (.Call (.Name x p) (e :: es) [] pos) (tL X.K (mFL F fa)) := by
  refine peI (pe_callG hF hgd hr hg hm hk hb ha hdb he hpl) fun σ H Q ⟨sk, G, ρ, s, d, s', w, r, e, k⟩ => ?_
  unfold mFL at e
  split at e
  · rename_i ds s1 e1
    refine ⟨sk, G, ρ, s, ds, s1, w, r, e1, fun vs G1 H1 w1 x1 p1 => ?_⟩
    show spL X.K F (vs ++ []) H1 Q E0
    rw [List.append_nil]
    exact ⟨sk, G1, ds, s1, d, s', w1, p1, e, fun p xs G2 H2 w2 x2 hp np hl gp dl => k p xs G2 H2 w2 (x1.trans x2) (x1.th p hp) np hl gp dl⟩
  · cases e
/-- f(new list), the new list being the sack -/
def mSack (F : Fn) (a : M (List D)) : M D := fun ρ s => match a ρ s with
  | some (ks, s1) => (match F [SACK] ks with
    | some (d, _) => if isD d = true then some (d, s1) else none
    | none => none)
  | none => none
theorem P.callS {k : Nat} {f : Addr} {fd : FuncData} {ps : List Str} {x : Str} {p : Pos} {e : Expr} {F : Fn} {fa : M (List D)} (hF : FnG X.prog X.w X.K X.mg X.base CX0 k f fd ps (spF X.K F)) (hgd : X.A.guards = some []) (hr : Room k X.A) (hg : Gl X x) (hm : X.mg x = some (.ref f)) (hk : PySem.W.keepIn X.K (.ref f) = true) (hb : Binds X.K fd ps [])
    (ha : PE X e (tL X.K fa)) (hdb : (x == ("__debug__" : Str)) = false := by decide) (he : starEach [e] X.env = (false, eval e X.env) :: starEach [] X.env := by rfl) (hpl : (backTo pos (starEach [] X.env)).any (·.1) = false := by rfl) :
    PE X (.Call (.Name x p) [e] [] pos) (tP X.K (mSack F fa)) := by
  refine peI (pe_callG hF hgd hr hg hm hk hb (pa_cons ha pa_nil he) hdb he hpl) fun σ H Q ⟨sk, G, ρ, s, d, s', w, r, e, k⟩ => ?_
  unfold mSack at e
  split at e
  · rename_i ks s1 e1
    split at e
    · rename_i d' s3 e3
      split at e
      · rename_i hd
        cases e
        refine ⟨sk, G, ρ, s, ks, _, w, r, e1, fun q vs G1 H1 w1 x1 hp np hl gp dl => ?_⟩
        refine ⟨some q, G1, [SACK], ks, d, s3, ⟨w1.sub, fun a ea => ?_⟩, .cons (.inr ⟨rfl, q, rfl, rfl⟩) .nil, e3, fun v G2 H2 w2 x2 qv => ?_⟩
        · cases ea
          exact ⟨gp, vs, hl, dl⟩
        · refine k v G2 H2 ⟨w2.sub, fun a ea => ?_⟩ ⟨x1.gs.trans x2.gs, fun a o h n => ?_, fun a o h => ?_, fun a h => x1.th a (x2.th a h)⟩ (.inl (qv.dp hd))
          · obtain ⟨gn, ws, h6, h7⟩ := w1.sack a ea
            have hne : some q ≠ some a := fun z => np (by rw [ea]; exact z.symm)
            exact ⟨x2.free h6 gn, ws, x2.hs a _ h6 hne, DpAll.up x2.gs _ _ h7⟩
          · refine x2.hs a o (x1.hs a o h n) fun z => ?_
            cases z
            rw [hp] at h; cases h
          · rcases x2.nw a o h with z | z
            · exact x1.nw a o z
            · exact .inr (x1.th a z)
      · cases e
    · cases e
  · cases e
end
end PL
namespace PL
open PySem PySem.Spec PyProof.Rows L2
theorem isD_up {K : PySem.W.Frag} {sk : Option Addr} {G H : Hp} {v : V} {d : D} (l : Le G H) (h : Dq K sk G v d) (n : isD d = true) : Dp K H v d := Dp.up l _ _ (h.dp n)
/-! ### operators -/
def dAdd : D → D → Option D
  | .int i, .int j => some (.int (i + j))
  | .tuple a, .tuple b => if a.length + b.length ≤ sizeLine then some (.tuple (a ++ b)) else none
  | .list a, .list b => if a.length + b.length ≤ sizeLine then some (.list (a ++ b)) else none
  | .str x, .str y => if x.length + y.length ≤ sizeLine then some (.str (x ++ y)) else none
  | _, _ => none
def dSub : D → D → Option D
  | .int i, .int j => some (.int (i - j))
  | _, _ => none
def dMul : D → D → Option D
  | .int i, .int j => if i.natAbs.log2 + j.natAbs.log2 < 1000000 then some (.int (i * j)) else none
  | _, _ => none
def dDiv : D → D → Option D
  | .int i, .int j => if 0 < j ∧ j.natAbs.log2 < 9000 then some (.int (i / j)) else none
  | _, _ => none
def dMod : D → D → Option D
  | .int i, .int j => if 0 < j then some (.int (i % j)) else none
  | _, _ => none
def dPow : D → D → Option D
  | .int i, .int j => if 0 ≤ j ∧ j ≤ 1000000 ∧ i.natAbs < 2 ^ 64 then some (.int (i ^ j.toNat)) else none
  | _, _ => none
def dShl : D → D → Option D
  | .int i, .int j => if 0 ≤ j ∧ j ≤ 1000000 ∧ i.natAbs < 2 ^ 64 then some (.int (i * 2 ^ j.toNat)) else none
  | _, _ => none
def dNeg : D → Option D
  | .int i => some (.int (-i))
  | _ => none
def dCmp (p : Int → Int → Bool) : D → D → Option D
  | .int i, .int j => some (.bool (p i j))
  | _, _ => none
def okEq (d : D) : Bool := d.plain && decide (d.depth ≤ 64)
def dEq : D → D → Option D := fun a b => if okEq a = true ∧ okEq b = true then some (.bool (PyData.eqv a b)) else none
def dNe : D → D → Option D := fun a b => if okEq a = true ∧ okEq b = true then some (.bool (!PyData.eqv a b)) else none
theorem okEq_isD {d : D} (h : okEq d = true) : isD d = true := by
  cases d <;> first | rfl | cases h
theorem okEq_plain {d : D} (h : okEq d = true) : d.plain = true := (Bool.and_eq_true_iff.mp h).1
theorem okEq_depth {d : D} (h : okEq d = true) : d.depth ≤ 64 := of_decide_eq_true (Bool.and_eq_true_iff.mp h).2
def rEqP (K : PySem.W.Frag) : R2 := fun x y H Q => ∃ d e, Dp K H x d ∧ Dp K H y e ∧ okEq d = true ∧ okEq e = true ∧ Q (.bl (PyData.eqv d e)) H
def rNeP (K : PySem.W.Frag) : R2 := fun x y H Q => ∃ d e, Dp K H x d ∧ Dp K H y e ∧ okEq d = true ∧ okEq e = true ∧ Q (.bl (!PyData.eqv d e)) H
theorem op_eqP {X : Cx} (hu : X.A.units + 64 < cLine) : OpR X (compareOp .Eq) (rEqP X.K) := by
  intro pins s σ H x y v u Q I rx ry h
  obtain ⟨d, e, hd, he, sd, se, q⟩ := h
  obtain ⟨as, r1⟩ := Dp.reads I d x v hd rx
  obtain ⟨bs, r2⟩ := Dp.reads I e y u he ry
  have h1 := okEq_depth sd
  have h2 : min d.depth e.depth ≤ d.depth := Nat.min_le_left _ _
  exact SeqAt.eq_plain r1 r2 (okEq_plain sd) (okEq_plain se) (by omega) ⟨.bl _, H, I, rfl, q⟩
theorem op_neP {X : Cx} (hu : X.A.units + 64 < cLine) : OpR X (compareOp .NotEq) (rNeP X.K) := by
  intro pins s σ H x y v u Q I rx ry h
  obtain ⟨d, e, hd, he, sd, se, q⟩ := h
  obtain ⟨as, r1⟩ := Dp.reads I d x v hd rx
  obtain ⟨bs, r2⟩ := Dp.reads I e y u he ry
  have h1 := okEq_depth sd
  have h2 : min d.depth e.depth ≤ d.depth := Nat.min_le_left _ _
  exact SeqAt.ne_plain r1 r2 (okEq_plain sd) (okEq_plain se) (by omega) ⟨.bl _, H, I, rfl, q⟩
/-- x in a row of data -/
def inOf : D → Option (List D)
  | .list ds => some ds
  | .tuple ds => some ds
  | _ => none
def rInP (K : PySem.W.Frag) : R2 := fun x y H Q => ∃ d e ds, Dp K H x d ∧ Dp K H y e ∧ inOf e = some ds ∧ okEq d = true ∧ PyData.plainAll ds = true ∧ Q (.bl (ds.any fun z => PyData.eqv z d)) H
def rNotInP (K : PySem.W.Frag) : R2 := fun x y H Q => ∃ d e ds, Dp K H x d ∧ Dp K H y e ∧ inOf e = some ds ∧ okEq d = true ∧ PyData.plainAll ds = true ∧ Q (.bl (!ds.any fun z => PyData.eqv z d)) H
theorem op_inP {X : Cx} (hu : X.A.units + 65 < cLine) : OpR X (compareOp .In) (rInP X.K) := by
  intro pins s σ H x y v u Q I rx ry h
  obtain ⟨d, e, ds, hd, he, hs, sd, se, q⟩ := h
  obtain ⟨as, r1⟩ := Dp.reads I d x v hd rx
  obtain ⟨bs, r2⟩ := Dp.reads I e y u he ry
  have h1 := okEq_depth sd
  have h2 : min (PyData.depthAll ds) d.depth ≤ d.depth := Nat.min_le_right _ _
  unfold inOf at hs
  split at hs
  · cases hs; exact SeqAt.in_list_data r2 r1 se (okEq_plain sd) (by omega) ⟨.bl _, H, I, rfl, q⟩
  · cases hs; exact SeqAt.in_tuple_data r2 r1 se (okEq_plain sd) (by omega) ⟨.bl _, H, I, rfl, q⟩
  · cases hs
theorem op_notInP {X : Cx} (hu : X.A.units + 65 < cLine) : OpR X (compareOp .NotIn) (rNotInP X.K) := by
  intro pins s σ H x y v u Q I rx ry h
  obtain ⟨d, e, ds, hd, he, hs, sd, se, q⟩ := h
  obtain ⟨as, r1⟩ := Dp.reads I d x v hd rx
  obtain ⟨bs, r2⟩ := Dp.reads I e y u he ry
  have h1 := okEq_depth sd
  have h2 : min (PyData.depthAll ds) d.depth ≤ d.depth := Nat.min_le_right _ _
  unfold inOf at hs
  split at hs
  · cases hs; exact SeqAt.notIn_list_data r2 r1 se (okEq_plain sd) (by omega) ⟨.bl _, H, I, rfl, q⟩
  · cases hs; exact SeqAt.notIn_tuple_data r2 r1 se (okEq_plain sd) (by omega) ⟨.bl _, H, I, rfl, q⟩
  · cases hs
def isNone : D → Bool
  | .none => true
  | _ => false
def dIsN : D → D → Option D
  | a, .none => if isD a = true then some (.bool (isNone a)) else none
  | _, _ => none
def dNotN : D → D → Option D
  | a, .none => if isD a = true then some (.bool (!isNone a)) else none
  | _, _ => none
def dIsB : D → D → Option D
  | .bool a, .bool b => some (.bool (decide (a = b)))
  | _, _ => none
def dIsNB : D → D → Option D
  | .bool a, .bool b => some (.bool (!decide (a = b)))
  | _, _ => none
section
variable {X : Cx}
theorem w2_I0 {K : PySem.W.Frag} {g : Int → Int → V} {f : D → D → Option D} (hf : ∀ a b d, f a b = some d → ∃ i j, a = .int i ∧ b = .int j ∧ ∀ G, Dp K G (g i j) d) : W2 K (rI0 g) f := fun x y a b d sk G H Q l ha hb e k => by
  obtain ⟨i, j, rfl, rfl, h⟩ := hf a b d e
  exact ⟨i, j, Dp.int_of ha, Dp.int_of hb, k _ G H (.refl l) (h G)⟩
theorem w2_I {K : PySem.W.Frag} {C : Int → Int → Prop} {g : Int → Int → V} {f : D → D → Option D} (hf : ∀ a b d, f a b = some d → ∃ i j, a = .int i ∧ b = .int j ∧ C i j ∧ ∀ G, Dp K G (g i j) d) : W2 K (rI C g) f := fun x y a b d sk G H Q l ha hb e k => by
  obtain ⟨i, j, rfl, rfl, c, h⟩ := hf a b d e
  exact ⟨i, j, Dp.int_of ha, Dp.int_of hb, c, k _ G H (.refl l) (h G)⟩
theorem w2_cmp {K : PySem.W.Frag} {p : Int → Int → Bool} : W2 K (rI0 fun i j => .bl (p i j)) (dCmp p) := w2_I0 fun a b d e => by
  unfold dCmp at e
  split at e
  · cases e; exact ⟨_, _, rfl, rfl, fun G => .bl _⟩
  · cases e
theorem w_sub {K : PySem.W.Frag} : W2 K (rI0 fun i j => .int (i - j)) dSub := w2_I0 fun a b d e => by
  unfold dSub at e
  split at e
  · cases e; exact ⟨_, _, rfl, rfl, fun G => .int _⟩
  · cases e
theorem w_mul {K : PySem.W.Frag} : W2 K (rI CMulW fun i j => .int (i * j)) dMul := w2_I fun a b d e => by
  unfold dMul at e
  split at e
  · split at e
    · rename_i h; cases e; exact ⟨_, _, rfl, rfl, h, fun G => .int _⟩
    · cases e
  · cases e
theorem w_div {K : PySem.W.Frag} : W2 K (rI CDivW fun i j => .int (i / j)) dDiv := w2_I fun a b d e => by
  unfold dDiv at e
  split at e
  · split at e
    · rename_i h; cases e; exact ⟨_, _, rfl, rfl, h, fun G => .int _⟩
    · cases e
  · cases e
theorem w_mod {K : PySem.W.Frag} : W2 K (rI (fun _ j => 0 < j) fun i j => .int (i % j)) dMod := w2_I fun a b d e => by
  unfold dMod at e
  split at e
  · split at e
    · rename_i h; cases e; exact ⟨_, _, rfl, rfl, h, fun G => .int _⟩
    · cases e
  · cases e
theorem w_pow {K : PySem.W.Frag} : W2 K (rI CPow fun i j => .int (i ^ j.toNat)) dPow := w2_I fun a b d e => by
  unfold dPow at e
  split at e
  · split at e
    · rename_i h; cases e; exact ⟨_, _, rfl, rfl, h, fun G => .int _⟩
    · cases e
  · cases e
theorem w_shl {K : PySem.W.Frag} : W2 K (rI CPow fun i j => .int (i * 2 ^ j.toNat)) dShl := w2_I fun a b d e => by
  unfold dShl at e
  split at e
  · split at e
    · rename_i h; cases e; exact ⟨_, _, rfl, rfl, h, fun G => .int _⟩
    · cases e
  · cases e
theorem w_neg {K : PySem.W.Frag} : W1 K (rU fun i => .int (-i)) dNeg := fun x a d sk G H Q l ha e k => by
  unfold dNeg at e
  split at e
  · cases e; exact ⟨_, Dp.int_of ha, k _ G H (.refl l) (.int _)⟩
  · cases e
theorem w_eq {K : PySem.W.Frag} : W2 K (rEqP K) dEq := fun x y a b d sk G H Q l ha hb e k => by
  unfold dEq at e
  split at e
  · rename_i h
    cases e
    exact ⟨a, b, isD_up l ha (okEq_isD h.1), isD_up l hb (okEq_isD h.2), h.1, h.2, k _ G H (.refl l) (.bl _)⟩
  · cases e
theorem w_ne {K : PySem.W.Frag} : W2 K (rNeP K) dNe := fun x y a b d sk G H Q l ha hb e k => by
  unfold dNe at e
  split at e
  · rename_i h
    cases e
    exact ⟨a, b, isD_up l ha (okEq_isD h.1), isD_up l hb (okEq_isD h.2), h.1, h.2, k _ G H (.refl l) (.bl _)⟩
  · cases e
theorem isNone_eq {K : PySem.W.Frag} {sk : Option Addr} {G : Hp} {x : V} {a : D} (h : Dq K sk G x a) (n : isD a = true) : decide (x = .non) = isNone a := by
  have h' := h.dp n
  cases h' <;> first | rfl | exact decide_eq_false (by intro e; cases e)
theorem w_isN {K : PySem.W.Frag} : W2 K (fun x y H Q => y = .non ∧ Q (.bl (decide (x = .non))) H) dIsN := fun x y a b d sk G H Q l ha hb e k => by
  unfold dIsN at e
  split at e
  · split at e
    · rename_i h
      cases e
      have hb' := hb.dp rfl
      cases hb'
      rw [isNone_eq ha h]
      exact ⟨rfl, k _ G H (.refl l) (.bl _)⟩
    · cases e
  · cases e
theorem w_notN {K : PySem.W.Frag} : W2 K (fun x y H Q => y = .non ∧ Q (.bl (!decide (x = .non))) H) dNotN := fun x y a b d sk G H Q l ha hb e k => by
  unfold dNotN at e
  split at e
  · split at e
    · rename_i h
      cases e
      have hb' := hb.dp rfl
      cases hb'
      rw [isNone_eq ha h]
      exact ⟨rfl, k _ G H (.refl l) (.bl _)⟩
    · cases e
  · cases e
theorem w_isB {K : PySem.W.Frag} : W2 K (fun x y H Q => ∃ a b, x = .bl a ∧ y = .bl b ∧ Q (.bl (decide (a = b))) H) dIsB := fun x y a b d sk G H Q l ha hb e k => by
  unfold dIsB at e
  split at e
  · cases e
    exact ⟨_, _, Dp.bl_of ha, Dp.bl_of hb, k _ G H (.refl l) (.bl _)⟩
  · cases e
theorem w_isNB {K : PySem.W.Frag} : W2 K (fun x y H Q => ∃ a b, x = .bl a ∧ y = .bl b ∧ Q (.bl (!decide (a = b))) H) dIsNB := fun x y a b d sk G H Q l ha hb e k => by
  unfold dIsNB at e
  split at e
  · cases e
    exact ⟨_, _, Dp.bl_of ha, Dp.bl_of hb, k _ G H (.refl l) (.bl _)⟩
  · cases e
/-- list + list, each of them any that is read -/
def rCatL (K : PySem.W.Frag) : R2 := fun x y H Q => ∃ l b xs zs, x = .ref l ∧ y = .ref b ∧ SqL K H l xs ∧ SqL K H b zs ∧ xs.length + zs.length ≤ sizeLine ∧ ∀ p, H p = none → Q (.ref p) (upd H p (.lst (xs ++ zs)))
theorem op_catL : OpR X (binaryOp .Add) (rCatL X.K) := by
  intro pins s σ H x y v u Q I rx ry h
  obtain ⟨l, b, xs, zs, rfl, rfl, hH, hB, hz, q⟩ := h
  cases rx
  cases ry
  obtain ⟨its, r, ⟨⟨c1, d1, dt1, sl1⟩, n, e, hc, hd, hdt⟩, _⟩ := I.list hH
  obtain ⟨its2, r2, ⟨⟨c2, d2, dt2, sl2⟩, n2, e2, hc2, hd2, hdt2⟩, _⟩ := I.list hB
  simp only at hc hd hdt hc2 hd2 hdt2
  subst hc hd hdt hc2 hd2 hdt2
  have ee : its.toArray ++ its2.toArray = (its ++ its2).toArray := by simp
  have hsz : its.toArray.size + its2.toArray.size ≤ sizeLine := by rw [List.size_toArray, List.size_toArray, ← r.length, ← r2.length]; exact hz
  refine concat_meets ⟨_, e, rfl⟩ ⟨_, e2, rfl⟩ noFill_list_add seq_list_add PySem.F.slot_list_add PySem.F.entry_list_add (PySem.F.args_list_add_2 _ _) (list_addW l b its.toArray its2.toArray n n2 _ _ sl1 sl2 hsz) ⟨e, e2, ?_⟩
  rw [ee]
  exact ⟨.ref _, _, I.lnew (t' := s.toks) (r.append r2) (by rw [List.length_append]; omega), rfl, q _ I.fresh⟩
def rAdd2 (K : PySem.W.Frag) : R2 := fun x y H Q => rI0 (fun i j => .int (i + j)) x y H Q ∨ rCatA K x y H Q ∨ rCatL K x y H Q ∨ (∃ i j, x = .str i ∧ y = .str j ∧ i.length + j.length ≤ sizeLine ∧ Q (.str (i ++ j)) H)
theorem op_addA : OpR X (binaryOp .Add) (rAdd2 X.K) := OpR.or op_add (OpR.or op_catA (OpR.or op_catL op_add_str))
theorem DpAll.nil_iff {K : PySem.W.Frag} {G : Hp} {vs : List V} {ds : List D} (h : DpAll K G vs ds) : vs = [] ↔ ds = [] := by cases h <;> simp
theorem w_add {K : PySem.W.Frag} : W2 K (rAdd2 K) dAdd := fun x y a b d sk G H Q l ha hb e k => by
  unfold dAdd at e
  split at e
  · cases e
    exact .inl ⟨_, _, Dp.int_of ha, Dp.int_of hb, k _ G H (.refl l) (.int _)⟩
  · split at e
    · rename_i hz
      cases e
      obtain ⟨p, xs, rfl, h1, h2⟩ := Dp.tup_of ha
      obtain ⟨q, ys, rfl, h3, h4⟩ := Dp.tup_of hb
      refine .inr (.inl ⟨p, q, xs, ys, rfl, rfl, SqT.up l h1, SqT.up l h3, by rw [DpAll.length h2, DpAll.length h4]; exact hz, fun z => ?_, fun z1 z2 => ?_, fun z1 z2 r hr => ?_⟩)
      · rw [(DpAll.nil_iff h2).mp z] at k
        exact k _ G H (.refl l) (.tup h3 (by simpa using h4))
      · rw [(DpAll.nil_iff h4).mp z2] at k
        exact k _ G H (.refl l) (.tup h1 (by simpa using h2))
      · have g := Grow.new l hr (.tup (xs ++ ys))
        exact k _ _ _ g (.tup (SqT.of upd_same) (DpAll.up g.gs _ _ (DpAll.app h2 h4)))
    · cases e
  · split at e
    · rename_i hz
      cases e
      obtain ⟨p, xs, rfl, h1, h2⟩ := Dp.lst_of ha
      obtain ⟨q, ys, rfl, h3, h4⟩ := Dp.lst_of hb
      refine .inr (.inr (.inl ⟨p, q, xs, ys, rfl, rfl, SqL.up l h1, SqL.up l h3, by rw [DpAll.length h2, DpAll.length h4]; exact hz, fun r hr => ?_⟩))
      have g := Grow.new l hr (.lst (xs ++ ys))
      exact k _ _ _ g (.lst (SqL.of upd_same) (DpAll.up g.gs _ _ (DpAll.app h2 h4)))
    · cases e
  · split at e
    · rename_i hz
      cases e
      exact .inr (.inr (.inr ⟨_, _, Dp.str_of ha, Dp.str_of hb, hz, k _ G H (.refl l) (.str _)⟩))
    · cases e
  · cases e
/-! ### items, slices -/
def dIx : D → D → Option D
  | .list xs, .int i => atI xs i
  | .tuple xs, .int i => atI xs i
  | .str z, .int i => if z.length ≤ sizeLine then (match atI z.cps.toList i with
    | some c => some (.str ⟨#[c]⟩)
    | none => none) else none
  | _, _ => none
theorem w_ix {K : PySem.W.Frag} : W2 K (rIx K) dIx := fun x y a b d sk G H Q l ha hb e k => by
  unfold dIx at e
  split at e
  · obtain ⟨p, xs, rfl, h1, h2⟩ := Dp.lst_of ha
    obtain ⟨v, h3, h4⟩ := DpAll.atI h2 e
    exact .inl ⟨p, xs, _, v, rfl, Dp.int_of hb, SqL.up l h1, h3, k v G H (.refl l) h4⟩
  · obtain ⟨p, xs, rfl, h1, h2⟩ := Dp.tup_of ha
    obtain ⟨v, h3, h4⟩ := DpAll.atI h2 e
    exact .inr (.inl ⟨p, xs, _, v, rfl, Dp.int_of hb, SqT.up l h1, h3, k v G H (.refl l) h4⟩)
  · split at e
    · rename_i hz
      split at e
      · rename_i c hc
        cases e
        exact .inr (.inr ⟨_, _, c, Dp.str_of ha, Dp.int_of hb, hz, hc, k _ G H (.refl l) (.str _)⟩)
      · cases e
    · cases e
  · cases e
def cutD (xs : List D) (lo hi : Option Int) : List D := (xs.drop (HT.sIx xs.length 0 lo)).take (HT.sIx xs.length xs.length hi - HT.sIx xs.length 0 lo)
theorem DpAll.cut {K : PySem.W.Frag} {G : Hp} {vs : List V} {ds : List D} (h : DpAll K G vs ds) (lo hi : Option Int) : DpAll K G (cutV vs lo hi) (cutD ds lo hi) := by
  unfold cutV cutD
  rw [DpAll.length h]
  exact DpAll.take _ (DpAll.drop _ h)
/-! slices -/
def lOf (x : Option (List D)) : Option (List D) := x
abbrev MO := M (Option Int)
def tOo (K : PySem.W.Frag) (F : MO) : TO := fun σ H Q => ∃ sk G ρ s b s', Vw K sk G H s ∧ ER K sk G H σ ρ ∧ F ρ s = some (b, s') ∧ ∀ G' H', Vw K sk G' H' s' → Ex sk G H G' H' → Q b H'
def oNo : MO := fun _ s => some (none, s)
def oSome (a : M D) : MO := mThen a fun x => mLift (match x with
  | .int i => some (some i)
  | _ => none)
theorem poI {e : Option Expr} {t t' : TO} (h : PO X e t) (i : ∀ σ H Q, t' σ H Q → t σ H Q) : PO X e t' := ⟨fun pins s σ H Q I w => h.run pins s σ H Q I (i _ _ _ w)⟩
theorem P.ono : PO X none (tOo X.K oNo) := poI po_none fun σ H Q ⟨sk, G, ρ, s, b, s', w, r, e, k⟩ => by
  cases e
  exact k G H w .refl
theorem P.osome {e : Expr} {f : M D} (h : PE X e (tP X.K f)) : PO X (some e) (tOo X.K (oSome f)) := poI (po_some h) fun σ H Q ⟨sk, G, ρ, s, b, s', w, r, e, k⟩ => by
  obtain ⟨a, s1, q1, q⟩ := mThen_some e
  obtain ⟨q2, rfl⟩ := mLift_some q
  split at q2
  · cases q2
    exact P.then w r q1 fun v G' H' w' x r' q => ⟨_, Dp.int_of q, k G' H' w' x⟩
  · cases q2
def dSl : D → Option Int → Option Int → Option D
  | .list xs, lo, hi => some (.list (cutD xs lo hi))
  | .tuple xs, lo, hi => some (.tuple (cutD xs lo hi))
  | _, _, _ => none
def mSl (a : M D) (lo hi : MO) : M D := mThen a fun x => mThen lo fun l => mThen hi fun h => mLift (dSl x l h)
theorem cut_all (xs : List V) (lo hi : Option Int) (h : HT.sIx xs.length 0 lo = 0 ∧ HT.sIx xs.length xs.length hi = xs.length) : cutV xs lo hi = xs := by
  unfold cutV
  rw [h.1, h.2]
  simp
theorem P.sl {e : Expr} {lo hi : Option Expr} {f : M D} {fl fh : MO} {p2 pos : Pos} (he : PE X e (tP X.K f)) (hl : PO X lo (tOo X.K fl)) (hu : PO X hi (tOo X.K fh)) : PE X (.Subscript e (.Slice lo hi none p2) pos) (tP X.K (mSl f fl fh)) := by
  refine peI (pe_slice (SlR.or sl_list sl_tupA) he hl hu) fun σ H Q ⟨sk, G, ρ, s, d, s', w, r, e, k⟩ => ?_
  obtain ⟨a, s1, q1, q⟩ := mThen_some e
  obtain ⟨l, s2, q2, q⟩ := mThen_some q
  obtain ⟨u, s3, q3, q⟩ := mThen_some q
  obtain ⟨q4, rfl⟩ := mLift_some q
  refine P.then w r q1 fun v G1 H1 w1 x1 r1 qv => ?_
  refine ⟨sk, G1, ρ, s1, l, s2, w1, r1, q2, fun G2 H2 w2 x2 => ?_⟩
  refine ⟨sk, G2, ρ, s2, u, s', w2, r1.ex x2, q3, fun G3 H3 w3 x3 => ?_⟩
  have x := x2.trans x3
  unfold dSl at q4
  split at q4
  · cases q4
    obtain ⟨p, xs, rfl, h1, h2⟩ := Dp.lst_of qv
    refine .inl ⟨p, xs, rfl, SqL.up w3.sub (SqL.up x.gs h1), fun q hq => ?_⟩
    have g := Grow.new w3.sub hq (.lst (cutV xs l u))
    exact k _ _ _ (g.vw w3) ((x1.trans x).trans (g.ex sk)) (.inl (.lst (SqL.of upd_same) (DpAll.up (x.gs.trans g.gs) _ _ (DpAll.cut h2 l u))))
  · cases q4
    obtain ⟨p, xs, rfl, h1, h2⟩ := Dp.tup_of qv
    refine .inr ⟨p, xs, rfl, SqT.up w3.sub (SqT.up x.gs h1), fun z => ?_, fun z q hq => ?_⟩
    · have c := DpAll.cut h2 l u
      rw [cut_all xs l u z] at c
      exact k _ _ _ w3 (x1.trans x) (.inl (.tup (SqT.up x.gs h1) (DpAll.up x.gs _ _ c)))
    · have g := Grow.new w3.sub hq (.tup (cutV xs l u))
      exact k _ _ _ (g.vw w3) ((x1.trans x).trans (g.ex sk)) (.inl (.tup (SqT.of upd_same) (DpAll.up (x.gs.trans g.gs) _ _ (DpAll.cut h2 l u))))
  · cases q4
/-! displays -/
def isDs (ds : List D) : Bool := ds.all isD
def mTup (a : M (List D)) : M D := mThen a fun ds => mLift (if ds.length ≤ sizeLine ∧ isDs ds = true then some (.tuple ds) else none)
theorem dall_of {K : PySem.W.Frag} {sk : Option Addr} {G : Hp} : ∀ {vs : List V} {ds : List D}, Paired (Dq K sk G) vs ds → isDs ds = true → DpAll K G vs ds
  | _, _, .nil, _ => .nil
  | _, _, .cons h t, e => by
    unfold isDs at e
    rw [List.all_cons, Bool.and_eq_true] at e
    exact .cons (h.dp e.1) (dall_of t e.2)
theorem P.tup {es : List Expr} {f : M (List D)} {x1} {pos : Pos} (h : PA X es (tA X.K f)) : PE X (.Tuple es x1 pos) (tP X.K (mTup f)) :=
  peI (pe_tup h) fun σ H Q ⟨sk, G, ρ, s, d, s', w, r, e, k⟩ => by
    obtain ⟨ds, s1, q1, q⟩ := mThen_some e
    obtain ⟨q2, rfl⟩ := mLift_some q
    split at q2
    · rename_i hc
      cases q2
      refine ⟨sk, G, ρ, s, ds, s', w, r, q1, fun vs G' H' w' x ps => ?_⟩
      have dl := dall_of ps hc.2
      refine ⟨by rw [DpAll.length dl]; exact hc.1, fun p hp => ?_⟩
      have g := Grow.new w'.sub hp (.tup vs)
      exact k _ _ _ (g.vw w') (x.trans (g.ex sk)) (.inl (.tup (SqT.of upd_same) (DpAll.up g.gs _ _ dl)))
    · cases q2
def mLst (a : M (List D)) : M (List D) := mThen a fun ds => mLift (if ds.length ≤ sizeLine ∧ isDs ds = true then some ds else none)
theorem P.list {es : List Expr} {f : M (List D)} {pos : Pos} (h : PA X es (tA X.K f)) : PE X (.List es pos) (tL X.K (mLst f)) := by
  have h2 : PA X es (tA X.K (mLst f)) := paI h fun σ H Q ⟨sk, G, ρ, s, d, s', w, r, e, k⟩ => by
    obtain ⟨ds, s1, q1, q⟩ := mThen_some e
    obtain ⟨q2, rfl⟩ := mLift_some q
    split at q2
    · cases q2
      exact ⟨sk, G, ρ, s, _, s', w, r, q1, k⟩
    · cases q2
  refine P.lst h2 (fun ρ s ds s' e => ?_) fun ρ s ds s' e => ?_
  · obtain ⟨ds1, s1, q1, q⟩ := mThen_some e
    obtain ⟨q2, rfl⟩ := mLift_some q
    split at q2
    · rename_i hc; cases q2; exact hc.1
    · cases q2
  · obtain ⟨ds1, s1, q1, q⟩ := mThen_some e
    obtain ⟨q2, rfl⟩ := mLift_some q
    split at q2
    · rename_i hc; cases q2; exact hc.2
    · cases q2
/-! ### built-ins -/
def bLen : List D → Option D
  | [.list xs] => some (.int xs.length)
  | [.tuple xs] => some (.int xs.length)
  | [.str z] => if z.length ≤ sizeLine then some (.int z.length) else none
  | _ => none
def rLen (K : PySem.W.Frag) : List V → Hp → VK → Prop := fun xs H Q => (∃ p ys, xs = [.ref p] ∧ (SqL K H p ys ∨ SqT K H p ys) ∧ Q (.int ys.length) H) ∨ (∃ z, xs = [.str z] ∧ z.length ≤ sizeLine ∧ Q (.int z.length) H)
theorem call_lenA : CallR X (.builtin "len") (rLen X.K) := CallR.or call_len_seq call_len_str
theorem one_of {α β : Type} {R : α → β → Prop} {xs : List α} {y : β} (h : Paired R xs [y]) : ∃ x, xs = [x] ∧ R x y := by
  cases h with
  | cons a t => cases t; exact ⟨_, rfl, a⟩
theorem two_of {α β : Type} {R : α → β → Prop} {xs : List α} {y z : β} (h : Paired R xs [y, z]) : ∃ x u, xs = [x, u] ∧ R x y ∧ R u z := by
  cases h with
  | cons a t =>
    obtain ⟨u, rfl, b⟩ := one_of t
    exact ⟨_, _, rfl, a, b⟩
theorem three_of {α β : Type} {R : α → β → Prop} {xs : List α} {y z q : β} (h : Paired R xs [y, z, q]) : ∃ x u v, xs = [x, u, v] ∧ R x y ∧ R u z ∧ R v q := by
  cases h with
  | cons a t =>
    obtain ⟨u, v, rfl, b, c⟩ := two_of t
    exact ⟨_, _, _, rfl, a, b, c⟩
theorem w_len {K : PySem.W.Frag} : WC K (rLen K) bLen := fun xs as d sk G H Q l ps e k => by
  unfold bLen at e
  split at e
  · cases e
    obtain ⟨x, rfl, h⟩ := one_of ps
    obtain ⟨p, ys, rfl, h1, h2⟩ := Dp.lst_of h
    rw [← DpAll.length h2] at k
    exact .inl ⟨p, ys, rfl, .inl (SqL.up l h1), k _ G H (.refl l) (.int _)⟩
  · cases e
    obtain ⟨x, rfl, h⟩ := one_of ps
    obtain ⟨p, ys, rfl, h1, h2⟩ := Dp.tup_of h
    rw [← DpAll.length h2] at k
    exact .inl ⟨p, ys, rfl, .inr (SqT.up l h1), k _ G H (.refl l) (.int _)⟩
  · split at e
    · rename_i hz
      cases e
      obtain ⟨x, rfl, h⟩ := one_of ps
      exact .inr ⟨_, by rw [Dp.str_of h], hz, k _ G H (.refl l) (.int _)⟩
    · cases e
  · cases e
def bAbs : List D → Option D
  | [.int i] => some (.int (if i < 0 then -i else i))
  | _ => none
theorem w_abs {K : PySem.W.Frag} : WC K (fun xs H Q => ∃ i, xs = [.int i] ∧ Q (.int (if i < 0 then -i else i)) H) bAbs := fun xs as d sk G H Q l ps e k => by
  unfold bAbs at e
  split at e
  · cases e
    obtain ⟨x, rfl, h⟩ := one_of ps
    exact ⟨_, by rw [Dp.int_of h], k _ G H (.refl l) (.int _)⟩
  · cases e
def bInt : List D → Option D
  | [.int i] => some (.int i)
  | [.bool k] => some (.int (if k then 1 else 0))
  | _ => none
theorem w_int {K : PySem.W.Frag} : WC K (fun xs H Q => (∃ i, xs = [.int i] ∧ Q (.int i) H) ∨ ∃ k, xs = [.bl k] ∧ Q (.int (if k then 1 else 0)) H) bInt := fun xs as d sk G H Q l ps e k => by
  unfold bInt at e
  split at e
  · cases e
    obtain ⟨x, rfl, h⟩ := one_of ps
    exact .inl ⟨_, by rw [Dp.int_of h], k _ G H (.refl l) (.int _)⟩
  · cases e
    obtain ⟨x, rfl, h⟩ := one_of ps
    exact .inr ⟨_, by rw [Dp.bl_of h], k _ G H (.refl l) (.int _)⟩
  · cases e
def bDivmod : List D → Option D
  | [.int i, .int j] => if 0 < j ∧ j < 1073741824 then some (.tuple [.int (i / j), .int (i % j)]) else none
  | _ => none
theorem w_divmod {K : PySem.W.Frag} : WC K (fun xs H Q => ∃ i j, xs = [.int i, .int j] ∧ CDiv i j ∧ ∀ p, H p = none → Q (.ref p) (upd H p (.tup [.int (i / j), .int (i % j)]))) bDivmod := fun xs as d sk G H Q l ps e k => by
  unfold bDivmod at e
  split at e
  · split at e
    · rename_i hc
      cases e
      obtain ⟨x, u, rfl, h, h2⟩ := two_of ps
      refine ⟨_, _, by rw [Dp.int_of h, Dp.int_of h2], hc, fun p hp => ?_⟩
      exact k _ _ _ (Grow.new l hp _) (.tup (SqT.of upd_same) (.cons (.int _) (.cons (.int _) .nil)))
    · cases e
  · cases e
def bMin : List D → Option D
  | [.int i, .int j] => some (.int (if j < i then j else i))
  | _ => none
def bMax : List D → Option D
  | [.int i, .int j] => some (.int (if j > i then j else i))
  | _ => none
theorem w_min {K : PySem.W.Frag} : WC K (fun xs H Q => ∃ i j, xs = [.int i, .int j] ∧ Q (.int (if j < i then j else i)) H) bMin := fun xs as d sk G H Q l ps e k => by
  unfold bMin at e
  split at e
  · cases e
    obtain ⟨x, u, rfl, h, h2⟩ := two_of ps
    exact ⟨_, _, by rw [Dp.int_of h, Dp.int_of h2], k _ G H (.refl l) (.int _)⟩
  · cases e
theorem w_max {K : PySem.W.Frag} : WC K (fun xs H Q => ∃ i j, xs = [.int i, .int j] ∧ Q (.int (if j > i then j else i)) H) bMax := fun xs as d sk G H Q l ps e k => by
  unfold bMax at e
  split at e
  · cases e
    obtain ⟨x, u, rfl, h, h2⟩ := two_of ps
    exact ⟨_, _, by rw [Dp.int_of h, Dp.int_of h2], k _ G H (.refl l) (.int _)⟩
  · cases e
def bMin3 : List D → Option D
  | [.int a, .int b, .int c] => some (.int (if b < a then (if c < b then c else b) else (if c < a then c else a)))
  | _ => none
theorem call_min3 (hc : X.calm = true) : CallR X (.builtin "min") (fun xs H Q => ∃ a b c, xs = [.int a, .int b, .int c] ∧ Q (.int (if b < a then (if c < b then c else b) else (if c < a then c else a))) H) := by
  intro pins s σ H xs us Q I r h
  obtain ⟨a, b, c, rfl, q⟩ := h
  obtain ⟨x, y, z, rfl, ⟨t, rfl⟩, ⟨u, rfl⟩, ⟨v, rfl⟩⟩ : ∃ x y z, us = [x, y, z] ∧ RelV (.int a) x ∧ RelV (.int b) y ∧ RelV (.int c) z := by
    cases r with
    | cons h1 r => cases r with
      | cons h2 r => cases r with
        | cons h3 r => cases r; exact ⟨_, _, _, rfl, h1, h2, h3⟩
  refine min_three_ints (I.ok.hd hc) fun h' tk k => ⟨_, H, I.kept k, ?_, q⟩
  by_cases h1 : b < a
  · rw [if_pos h1, if_pos h1]
    by_cases h2 : c < b
    · rw [if_pos h2, if_pos h2]; exact ⟨_, rfl⟩
    · rw [if_neg h2, if_neg h2]; exact ⟨_, rfl⟩
  · rw [if_neg h1, if_neg h1]
    by_cases h2 : c < a
    · rw [if_pos h2, if_pos h2]; exact ⟨_, rfl⟩
    · rw [if_neg h2, if_neg h2]; exact ⟨_, rfl⟩
theorem w_min3 {K : PySem.W.Frag} : WC K (fun xs H Q => ∃ a b c, xs = [.int a, .int b, .int c] ∧ Q (.int (if b < a then (if c < b then c else b) else (if c < a then c else a))) H) bMin3 := fun xs as d sk G H Q l ps e k => by
  unfold bMin3 at e
  split at e
  · cases e
    obtain ⟨x, u, v, rfl, h, h2, h3⟩ := three_of ps
    exact ⟨_, _, _, by rw [Dp.int_of h, Dp.int_of h2, Dp.int_of h3], k _ G H (.refl l) (.int _)⟩
  · cases e
/-- lists of ints, of bools -/
def intsOf : List D → Option (List Int)
  | [] => some []
  | .int i :: ds => (intsOf ds).map (i :: ·)
  | _ :: _ => none
def boolsOf : List D → Option (List Bool)
  | [] => some []
  | .bool i :: ds => (boolsOf ds).map (i :: ·)
  | _ :: _ => none
theorem ints_of {K : PySem.W.Frag} {G : Hp} : ∀ {vs : List V} {ds : List D} {ns : List Int}, DpAll K G vs ds → intsOf ds = some ns → vs = ns.map V.int
  | _, [], _, h, e => by cases h; cases e; rfl
  | _, d :: ds, ns, h, e => by
    cases h with
    | cons a t =>
      cases d with
      | int i =>
        unfold intsOf at e
        cases q : intsOf ds with
        | none => rw [q] at e; cases e
        | some ms =>
          rw [q] at e
          cases e
          cases a
          rw [ints_of t q]
          rfl
      | _ => cases e
theorem bools_of {K : PySem.W.Frag} {G : Hp} : ∀ {vs : List V} {ds : List D} {ns : List Bool}, DpAll K G vs ds → boolsOf ds = some ns → vs = ns.map V.bl
  | _, [], _, h, e => by cases h; cases e; rfl
  | _, d :: ds, ns, h, e => by
    cases h with
    | cons a t =>
      cases d with
      | bool i =>
        unfold boolsOf at e
        cases q : boolsOf ds with
        | none => rw [q] at e; cases e
        | some ms =>
          rw [q] at e
          cases e
          cases a
          rw [bools_of t q]
          rfl
      | _ => cases e
def bAll : List D → Option D
  | [.list ds] => (boolsOf ds).map fun bs => .bool (bs.all id)
  | _ => none
def bAny : List D → Option D
  | [.list ds] => (boolsOf ds).map fun bs => .bool (bs.any id)
  | _ => none
theorem w_all {K : PySem.W.Frag} : WC K (rAll K) bAll := fun xs as d sk G H Q l ps e k => by
  unfold bAll at e
  split at e
  · rename_i ds
    cases q : boolsOf ds with
    | none => rw [q] at e; cases e
    | some bs =>
      rw [q] at e; cases e
      obtain ⟨x, rfl, h⟩ := one_of ps
      obtain ⟨p, ys, rfl, h1, h2⟩ := Dp.lst_of h
      have e2 := bools_of h2 q
      subst e2
      exact ⟨p, bs, rfl, SqL.up l h1, k _ G H (.refl l) (.bl _)⟩
  · cases e
theorem w_any {K : PySem.W.Frag} : WC K (rAny K) bAny := fun xs as d sk G H Q l ps e k => by
  unfold bAny at e
  split at e
  · rename_i ds
    cases q : boolsOf ds with
    | none => rw [q] at e; cases e
    | some bs =>
      rw [q] at e; cases e
      obtain ⟨x, rfl, h⟩ := one_of ps
      obtain ⟨p, ys, rfl, h1, h2⟩ := Dp.lst_of h
      have e2 := bools_of h2 q
      subst e2
      exact ⟨p, bs, rfl, SqL.up l h1, k _ G H (.refl l) (.bl _)⟩
  · cases e
def bSum : List D → Option D
  | [.list ds] => (intsOf ds).map fun ns => .int ns.sum
  | _ => none
theorem w_sum {K : PySem.W.Frag} : WC K (rSum K) bSum := fun xs as d sk G H Q l ps e k => by
  unfold bSum at e
  split at e
  · rename_i ds
    cases q : intsOf ds with
    | none => rw [q] at e; cases e
    | some bs =>
      rw [q] at e; cases e
      obtain ⟨x, rfl, h⟩ := one_of ps
      obtain ⟨p, ys, rfl, h1, h2⟩ := Dp.lst_of h
      have e2 := ints_of h2 q
      subst e2
      exact ⟨p, bs, rfl, SqL.up l h1, k _ G H (.refl l) (.int _)⟩
  · cases e
def minL : Int → List Int → Int
  | m, [] => m
  | m, x :: xs => minL (if x < m then x else m) xs
theorem minL_spec : ∀ (xs : List Int) (m : Int), (minL m xs = m ∨ minL m xs ∈ xs) ∧ minL m xs ≤ m ∧ ∀ y ∈ xs, minL m xs ≤ y
  | [], m => ⟨.inl rfl, Int.le_refl _, fun y h => by cases h⟩
  | x :: xs, m => by
    obtain ⟨a, b, c⟩ := minL_spec xs (if x < m then x else m)
    unfold minL
    by_cases h : x < m
    · rw [if_pos h] at a b c ⊢
      refine ⟨.inr ?_, by omega, fun y hy => ?_⟩
      · rcases a with a | a
        · rw [a]; exact List.mem_cons_self
        · exact List.mem_cons_of_mem _ a
      · rcases List.mem_cons.mp hy with rfl | hy
        · exact b
        · exact c y hy
    · rw [if_neg h] at a b c ⊢
      refine ⟨?_, b, fun y hy => ?_⟩
      · rcases a with a | a
        · exact .inl a
        · exact .inr (List.mem_cons_of_mem _ a)
      · rcases List.mem_cons.mp hy with rfl | hy
        · omega
        · exact c y hy
def bMinL : List D → Option D
  | [.list ds] => (intsOf ds).bind fun ns => match ns with
    | [] => none
    | m :: xs => some (.int (minL m xs))
  | _ => none
theorem w_minL {K : PySem.W.Frag} : WC K (rMin K) bMinL := fun xs as d sk G H Q l ps e k => by
  unfold bMinL at e
  split at e
  · rename_i ds
    cases q : intsOf ds with
    | none => rw [q] at e; cases e
    | some bs =>
      rw [q] at e
      cases bs with
      | nil => cases e
      | cons m bs =>
        cases e
        obtain ⟨x, rfl, h⟩ := one_of ps
        obtain ⟨p, ys, rfl, h1, h2⟩ := Dp.lst_of h
        have e2 := ints_of h2 q
        subst e2
        refine ⟨p, m :: bs, rfl, SqL.up l h1, by simp, fun z hz hl => ?_⟩
        obtain ⟨a, b, c⟩ := minL_spec bs m
        have e3 : z = minL m bs := by
          have h5 : z ≤ minL m bs := by
            rcases a with a | a
            · rw [a]; exact hl m List.mem_cons_self
            · exact hl _ (List.mem_cons_of_mem _ a)
          have h6 : minL m bs ≤ z := by
            rcases List.mem_cons.mp hz with rfl | hz
            · exact b
            · exact c z hz
          omega
        rw [e3]
        exact k _ G H (.refl l) (.int _)
  · cases e
end
end PL
namespace PySem.W
open PySem PySem.Spec PyProof.Rows
theorem pl_args3 (a b c : Value) : argsOk "math.gcd" ⟨[a, b, c], []⟩ := by unfold argsOk; kernel_rfl
theorem pl_run3 (a : Int) (t : Tok) (b : Int) (u : Tok) (c : Int) (v : Tok) :
    Gives (Builtin.«math.gcd» ⟨[.int a t, .int b u, .int c v], []⟩) (.int (((((Nat.gcd 0 a.natAbs).gcd b.natAbs).gcd c.natAbs : Nat) : Int))) :=
  .of_wp fun M A E s Q h => by obtain ⟨hp, g, d, tk, os⟩ := s; wp_walk; exact ⟨_, rfl, h⟩
theorem pl_gcd3 {prog : Program} {w : World} {A : Around} {E : Value → Shared → Prop} {s : Shared} {Q : Value → Shared → Prop} {a b c : Int} {t u v : Tok}
    (h : Q (.int ((((a.natAbs.gcd b.natAbs).gcd c.natAbs : Nat) : Int)) s.toks) { s with toks := s.toks + 1 }) : wpAny (model prog w) A (call (.builtin "math.gcd") [.int a t, .int b u, .int c v]) Q E s := by
  have g := pl_run3 a t b u c v
  rw [Nat.gcd_zero_left] at g
  exact call_function_meets MGF.kind_gcd MGF.plain_gcd MGF.entry_gcd (pl_args3 _ _ _) g.meets h
end PySem.W
namespace PL
open PySem PySem.Spec PyProof.Rows L2
section
variable {X : Cx} {pos : Pos}
/-! ### isinstance -/
def tyN : D → String
  | .none => "NoneType"
  | .bool _ => "bool"
  | .int _ => "int"
  | .str _ => "str"
  | .list _ => "list"
  | .tuple _ => "tuple"
  | .dict _ => "dict"
def isT (T : String) : D → Bool
  | .none => T == "NoneType"
  | .bool _ => T == "bool" || T == "int"
  | .int _ => T == "int"
  | .str _ => T == "str"
  | .list _ => T == "list"
  | .tuple _ => T == "tuple"
  | .dict _ => T == "dict"
def dIs (T : String) : D → Option D := fun d => if isD d = true then some (.bool (isT T d)) else none
def okT (T : String) : Bool := ["NoneType", "bool", "int", "str", "list", "tuple"].all fun a => kitB a T == some (if a == "bool" then T == "bool" || T == "int" else T == a)
theorem okT_int : okT "int" = true := by decide +kernel
theorem okT_bool : okT "bool" = true := by decide +kernel
theorem okT_tuple : okT "tuple" = true := by decide +kernel
theorem okT_list : okT "list" = true := by decide +kernel
theorem okT_str : okT "str" = true := by decide +kernel
theorem tyx_of {K : PySem.W.Frag} {H : Hp} {v : V} {d : D} (h : Dp K H v d) : TyX K H v (.type (tyN d)) := by
  cases h with
  | non => exact .base .non
  | bl b => exact .base (.bl b)
  | int i => exact .base (.int i)
  | str x => exact .base (.str x)
  | lst hs _ =>
    rcases hs with (h | ⟨o, h⟩) | ⟨o, its, n, hk, hc, _⟩
    · exact .base (.lst h)
    · exact .base (.frz h)
    · exact .kList hk hc
  | tup hs _ =>
    rcases hs with (h | ⟨o, h⟩) | ⟨o, its, n, hk, hc, _⟩
    · exact .base (.tup h)
    · exact .fTuple h
    · exact .kTuple hk hc
theorem kit_isT {T : String} (h : okT T = true) {d : D} (n : isD d = true) : kitB (tyN d) T = some (isT T d) := by
  unfold okT at h
  simp only [List.all_cons, List.all_nil, Bool.and_eq_true, Bool.and_true, beq_iff_eq] at h
  obtain ⟨h1, h2, h3, h4, h5, h6⟩ := h
  cases d with
  | none => exact h1
  | bool b => exact h2
  | int i => exact h3
  | str x => exact h4
  | list x => exact h5
  | tuple x => exact h6
  | dict x => cases n
theorem P.isi {a : Expr} {f : M D} {T : Str} {TT : String} {p p2 : Pos} (hg : Gl X "isinstance") (hm : X.mg "isinstance" = none) (ha : PE X a (tP X.K f)) (hg2 : Gl X T) (hm2 : X.mg T = none) (hv : bootBuiltins T = some (.type TT)) (ok : okT TT = true) (hn : T ≠ "__name__" := by decide) (hd : (T == ("__debug__" : Str)) = false := by decide)
    (hs : starEach [a, .Name T p2] X.env = (false, eval a X.env) :: starEach [.Name T p2] X.env := by rfl) (hpl : (backTo pos (starEach [.Name T p2] X.env)).any (·.1) = false := by rfl) :
    PE X (.Call (.Name "isinstance" p) [a, .Name T p2] [] pos) (tP X.K (m1 (dIs TT) f)) := by
  refine peI (pe_callB call_isi hg hm (by decide +kernel) (pa_cons ha (pa_cons (pe_bltn (v := .ty TT) hg2 hm2 hv rfl hn hd) pa_nil) hs) (he := hs) (hpl := hpl)) fun σ H Q ⟨sk, G, ρ, s, d, s', w, r, e, k⟩ => ?_
  obtain ⟨x, s1, q1, q⟩ := mThen_some e
  obtain ⟨q2, rfl⟩ := mLift_some q
  unfold dIs at q2
  split at q2
  · rename_i hx
    cases q2
    refine P.then w r q1 fun v G' H' w' x' r' q => ?_
    exact ⟨v, .ty TT, .type (tyN x), .type TT, isT TT x, rfl, .ty _, tyx_of (isD_up w'.sub q hx), kit_ty (kit_isT ok hx), k _ G' H' w' x' (.inl (.bl _))⟩
  · cases q2
/-! ### repr -/
def bRepr : List D → Option D
  | [d] => if isD d = true ∧ d.showable = true ∧ d.depth ≤ 60 ∧ d.shown.length ≤ sizeLine then some (.str d.shown) else none
  | _ => none
theorem w_repr {K : PySem.W.Frag} : WC K (rRepr K) bRepr := fun xs as d sk G H Q l ps e k => by
  unfold bRepr at e
  split at e
  · split at e
    · rename_i hc
      cases e
      obtain ⟨x, rfl, h⟩ := one_of ps
      exact ⟨x, _, rfl, .inl (isD_up l h hc.1), hc.2.1, hc.2.2.1, hc.2.2.2, k _ G H (.refl l) (.str _)⟩
    · cases e
  · cases e
/-! ### math -/
def gcdI (a b : Int) : Int := ((a.natAbs.gcd b.natAbs : Nat) : Int)
def gcdI3 (a b c : Int) : Int := (((a.natAbs.gcd b.natAbs).gcd c.natAbs : Nat) : Int)
def bGcd : List D → Option D
  | [.int a, .int b] => some (.int (gcdI a b))
  | [.int a, .int b, .int c] => some (.int (gcdI3 a b c))
  | _ => none
def rGcdA : List V → Hp → VK → Prop := fun vs H Q => rGcd vs H Q ∨ ∃ a b c : Int, vs = [.int a, .int b, .int c] ∧ Q (.int (gcdI3 a b c)) H
theorem cr_gcdA : CallR X (.builtin "math.gcd") rGcdA := CallR.or cr_gcd fun pins s σ H vs us Q I r h => by
  obtain ⟨a, b, c, rfl, q⟩ := h
  cases r with
  | cons r1 r => cases r with
    | cons r2 r => cases r with
      | cons r3 r =>
        cases r
        obtain ⟨t, rfl⟩ := r1
        obtain ⟨u, rfl⟩ := r2
        obtain ⟨v, rfl⟩ := r3
        exact PySem.W.pl_gcd3 ⟨.int _, H, I.tok _, ⟨_, rfl⟩, q⟩
theorem w_gcd {K : PySem.W.Frag} : WC K rGcdA bGcd := fun xs as d sk G H Q l ps e k => by
  unfold bGcd at e
  split at e
  · cases e
    obtain ⟨x, u, rfl, h, h2⟩ := two_of ps
    exact .inl ⟨_, _, by rw [Dp.int_of h, Dp.int_of h2], k _ G H (.refl l) (.int _)⟩
  · cases e
    obtain ⟨x, u, v, rfl, h, h2, h3⟩ := three_of ps
    exact .inr ⟨_, _, _, by rw [Dp.int_of h, Dp.int_of h2, Dp.int_of h3], k _ G H (.refl l) (.int _)⟩
  · cases e
theorem P.callG {id : String} {x : Str} {p : Pos} {e : Expr} {es : List Expr} {r : List V → Hp → VK → Prop} {f : List D → Option D} {fa : M (List D)} (hc : CallR X (.builtin id) r) (h : WC X.K r f) (hg : Gl X x) (hm : X.mg x = some (.builtin id)) (ha : PA X (e :: es) (tA X.K fa)) (hdb : (x == ("__debug__" : Str)) = false := by decide) (he : starEach (e :: es) X.env = (false, eval e X.env) :: starEach es X.env := by rfl) (hpl : (backTo pos (starEach es X.env)).any (·.1) = false := by rfl) :
    PE X (.Call (.Name x p) (e :: es) [] pos) (tP X.K (mCall f fa)) :=
  peI (pe_callBfun hc hg hm ha hdb he hpl) fun _ _ _ t => tCB_of h t
/-! ### list(..), tuple(..) -/
def bTuple : List D → Option D
  | [.list xs] => some (.tuple xs)
  | [.tuple xs] => some (.tuple xs)
  | _ => none
theorem w_tuple {K : PySem.W.Frag} : WC K (fun xs H Q => ∃ p ys, xs = [.ref p] ∧ ((SqL K H p ys ∧ ∀ l, H l = none → Q (.ref l) (upd H l (.tup ys))) ∨ (SqT K H p ys ∧ Q (.ref p) H))) bTuple := fun xs as d sk G H Q l ps e k => by
  unfold bTuple at e
  split at e
  · cases e
    obtain ⟨x, rfl, h⟩ := one_of ps
    obtain ⟨p, ys, rfl, h1, h2⟩ := Dp.lst_of h
    refine ⟨p, ys, rfl, .inl ⟨SqL.up l h1, fun q hq => ?_⟩⟩
    have g := Grow.new l hq (.tup ys)
    exact k _ _ _ g (.tup (SqT.of upd_same) (DpAll.up g.gs _ _ h2))
  · cases e
    obtain ⟨x, rfl, h⟩ := one_of ps
    obtain ⟨p, ys, rfl, h1, h2⟩ := Dp.tup_of h
    exact ⟨p, ys, rfl, .inr ⟨SqT.up l h1, k _ G H (.refl l) (.tup h1 h2)⟩⟩
  · cases e
def bList : List D → Option D
  | [.list xs] => some (.list xs)
  | [.tuple xs] => some (.list xs)
  | _ => none
theorem w_list {K : PySem.W.Frag} : WC K (fun xs H Q => ∃ p ys, xs = [.ref p] ∧ (SqL K H p ys ∨ SqT K H p ys) ∧ ∀ l, H l = none → Q (.ref l) (upd H l (.lst ys))) bList := fun xs as d sk G H Q l ps e k => by
  unfold bList at e
  split at e
  · cases e
    obtain ⟨x, rfl, h⟩ := one_of ps
    obtain ⟨p, ys, rfl, h1, h2⟩ := Dp.lst_of h
    refine ⟨p, ys, rfl, .inl (SqL.up l h1), fun q hq => ?_⟩
    have g := Grow.new l hq (.lst ys)
    exact k _ _ _ g (.lst (SqL.of upd_same) (DpAll.up g.gs _ _ h2))
  · cases e
    obtain ⟨x, rfl, h⟩ := one_of ps
    obtain ⟨p, ys, rfl, h1, h2⟩ := Dp.tup_of h
    refine ⟨p, ys, rfl, .inr (SqT.up l h1), fun q hq => ?_⟩
    have g := Grow.new l hq (.lst ys)
    exact k _ _ _ g (.lst (SqL.of upd_same) (DpAll.up g.gs _ _ h2))
  · cases e
/-! ### a module's constant -/
theorem P.glob {x : Str} {v : V} {u : Value} {d : D} (hg : Gl X x) (hm : X.mg x = some u) (r : RelV v u) (q : ∀ G, Dp X.K G v d) (hd : (x == ("__debug__" : Str)) = false := by decide) : PE X (.Name x pos) (tP X.K (mC d)) :=
  P.c (pe_glob hg hm r hd) q
/-- a module's constant is worth d -/
def Cst (K : PySem.W.Frag) (mg : Str → Option Value) (x : Str) (d : D) : Prop := ∃ v u, mg x = some u ∧ RelV v u ∧ ∀ G, Dp K G v d
theorem P.cst {x : Str} {d : D} (hg : Gl X x) (c : Cst X.K X.mg x d) (hd : (x == ("__debug__" : Str)) = false := by decide) : PE X (.Name x pos) (tP X.K (mC d)) := by
  obtain ⟨v, u, h1, h2, h3⟩ := c
  exact P.glob hg h1 h2 h3 hd
/-! ### in, not in -/
def dIn : D → D → Option D := fun d e => match inOf e with
  | some ds => if okEq d = true ∧ PyData.plainAll ds = true then some (.bool (ds.any fun z => PyData.eqv z d)) else none
  | none => none
def dNotIn : D → D → Option D := fun d e => match inOf e with
  | some ds => if okEq d = true ∧ PyData.plainAll ds = true then some (.bool (!ds.any fun z => PyData.eqv z d)) else none
  | none => none
theorem inOf_isD {e : D} {ds : List D} (h : inOf e = some ds) : isD e = true := by
  cases e <;> first | rfl | cases h
theorem w_in {K : PySem.W.Frag} : W2 K (rInP K) dIn := fun x y a b d sk G H Q l ha hb e k => by
  unfold dIn at e
  split at e
  · rename_i ds hs
    split at e
    · rename_i h
      cases e
      exact ⟨a, b, ds, isD_up l ha (okEq_isD h.1), isD_up l hb (inOf_isD hs), hs, h.1, h.2, k _ G H (.refl l) (.bl _)⟩
    · cases e
  · cases e
theorem w_notIn {K : PySem.W.Frag} : W2 K (rNotInP K) dNotIn := fun x y a b d sk G H Q l ha hb e k => by
  unfold dNotIn at e
  split at e
  · rename_i ds hs
    split at e
    · rename_i h
      cases e
      exact ⟨a, b, ds, isD_up l ha (okEq_isD h.1), isD_up l hb (inOf_isD hs), hs, h.1, h.2, k _ G H (.refl l) (.bl _)⟩
    · cases e
  · cases e
/-! ### a call by names alone -/
/-- the keywords' values -/
def tK (K : PySem.W.Frag) (F : M (List D)) : TA := tA K F
theorem pkI {kws : List Keyword} {t t' : TA} (h : PK X kws t) (i : ∀ σ H Q, t' σ H Q → t σ H Q) : PK X kws t' := ⟨fun pos pins s σ H Q I w => h.run pos pins s σ H Q I (i _ _ _ w)⟩
theorem P.knil : PK X [] (tA X.K aNil) := pkI pk_nil fun σ H Q ⟨sk, G, ρ, s, d, s', w, e, q, k⟩ => by
  cases q
  exact k [] G H w .refl .nil
theorem P.kcons {e : Expr} {nm : Option Str} {kpos : Pos} {kws : List Keyword} {f : M D} {g : M (List D)} (ha : PE X e (tP X.K f)) (hr : PK X kws (tA X.K g)) : PK X (⟨nm, e, kpos⟩ :: kws) (tA X.K (aCons f g)) :=
  pkI (pk_cons ha hr) fun σ H Q ⟨sk, G, ρ, s, d, s', w, e, q, k⟩ => by
    obtain ⟨a, s1, q1, q⟩ := mThen_some q
    obtain ⟨b, s2, q2, q⟩ := mThen_some q
    obtain ⟨q3, rfl⟩ := mLift_some q
    cases q3
    refine P.then w e q1 fun x G1 H1 w1 x1 e1 dx => ?_
    exact ⟨sk, G1, ρ, s1, b, s', w1, e1, q2, fun vs G' H' w' x' ps => k _ G' H' w' (x1.trans x') (.cons (dx.up x'.gs) ps)⟩
/-- values in the order perm -/
def reord {α : Type} (perm : List Nat) (xs : List α) : List α := perm.filterMap fun i => xs[i]?
theorem Paired.reord {α β : Type} {R : α → β → Prop} {xs : List α} {ys : List β} (h : Paired R xs ys) : ∀ perm : List Nat, Paired R (reord perm xs) (reord perm ys)
  | [] => .nil
  | i :: p => by
    have ih := Paired.reord h p
    unfold PL.reord at ih ⊢
    rw [List.filterMap_cons, List.filterMap_cons]
    cases q : ys[i]? with
    | none =>
      have : xs[i]? = none := by
        rw [List.getElem?_eq_none_iff] at q ⊢
        rw [Paired.length h]; exact q
      rw [this]
      exact ih
    | some y =>
      obtain ⟨x, e, r⟩ := Paired.get h q
      rw [e]
      exact .cons r ih
def mFK (F : Fn) (perm : List Nat) (a : M (List D)) : M D := fun ρ s => match a ρ s with
  | some (ds, s1) => F (reord perm ds) s1
  | none => none
theorem P.callK {k : Nat} {f : Addr} {fd : FuncData} {ps ks : List Str} {x : Str} {p : Pos} {kws : List Keyword} {F : Fn} {fa : M (List D)} (perm : List Nat) (hF : FnG X.prog X.w X.K X.mg X.base CX0 k f fd ps (spF X.K F)) (hgd : X.A.guards = some []) (hr : Room k X.A) (hg : Gl X x) (hm : X.mg x = some (.ref f)) (hk : PySem.W.keepIn X.K (.ref f) = true)
    (hb : ∀ (s : Shared) (ws : List Value), ws.length = ks.length → BindsTo s fd ⟨[], ks.zip ws⟩ (ps.zip (reord perm ws)))
    (hkw : PK X kws (tA X.K fa)) (hlen : ∀ ρ s ds s', fa ρ s = some (ds, s') → ds.length = ks.length) (hall : (backToKw pos (keywordEach kws X.env)).all (·.1.isSome) = true := by rfl) (hks : (backToKw pos (keywordEach kws X.env)).filterMap (·.1) = ks := by rfl)
    (hdb : (x == ("__debug__" : Str)) = false := by decide)
    (hpl : ((backTo pos (starEach [] X.env)).any (·.1) || (backToKw pos (keywordEach kws X.env)).any (·.1.isNone)) = false := by rfl) :
    PE X (.Call (.Name x p) [] kws pos) (tP X.K (mFK F perm fa)) := by
  refine ⟨fun pins s σ H Q I ⟨sk, G, ρ, sS, d, s', w, r, e, k⟩ => ?_⟩
  unfold mFK at e
  split at e
  · rename_i ds s1 e1
    have hl := hlen _ _ _ _ e1
    refine wpAny_Call_Name_kw (ld_glob I hg hm ?_ hdb)
    refine PySem.W.callWith_KW0 (first := []) (h₀ := X.base) I.ok.mod.kin hk hall ?_ hpl
    refine thn (hkw.run pos pins s σ H (fun zs H2 => zs.length = ks.length ∧ spF X.K F (reord perm zs) H2 Q E0) I ⟨sk, G, ρ, sS, ds, s1, w, r, e1, fun vs G1 H1 w1 x1 p1 => ⟨by rw [Paired.length p1]; exact hl, ?_⟩⟩) fun ws s2 ⟨zs, H2, I2, rz, hz, q2⟩ => ⟨I2.kIn, ?_⟩
    · exact ⟨sk, G1, _, s1, d, s', w1, Paired.reord p1 perm, e, fun v G2 H2 w2 x2 q => k v G2 H2 w2 (x1.trans x2) q⟩
    · rw [hks]
      have rr : Vals (reord perm zs) (reord perm ws) := Paired.reord rz perm
      refine wpAny_call (codeAny_mono (hF.run X.A X.stack s2 H2 ⟨[], ks.zip ws⟩ (reord perm ws) (reord perm zs) Q E0 hgd hr I2.env0 (hb s2 ws (by rw [← rz.length]; exact hz)) rr q2) fun r s' hq => ?_)
      cases r with
      | error e => exact hq.elim
      | ok fl =>
        cases fl with
        | ret u => exact I2.after hq
        | next => exact hq.elim
        | brk => exact hq.elim
        | cont => exact hq.elim
  · cases e
end
end PL
namespace PL
open PySem PySem.Spec PyProof.Rows L2
abbrev FnP (K : PySem.W.Frag) (x : Str) (st : Stmt) (f : Addr) (fd : FuncData) : Prop := FunD K x x (defArgs st) (defBody st) (defScope st) [] [] f fd
section
variable {X : Cx} {tg : Expr} {pos : Pos}
theorem P.v (i : Nat) {x : Str} (hN : X.N[i]? = some x := by rfl) (hv : Vis X.env.scope x := by first | exact Or.inl rfl | exact Or.inr (Or.inl rfl) | exact Or.inr (Or.inr rfl)) (hd : (x == ("__debug__" : Str)) = false := by decide) (hcd : (x == ("__classdict__" : Str)) = false := by decide) : PE X (.Name x pos) (tP X.K (mVar i)) := P.var hN hv hd hcd
theorem P.lenOv (i : Nat) {x : Str} {p p1 : Pos} (hg : Gl X "len") (hm : X.mg "len" = none) (hN : X.N[i]? = some x := by rfl) (hv : Vis X.env.scope x := by first | exact Or.inl rfl | exact Or.inr (Or.inl rfl) | exact Or.inr (Or.inr rfl)) (hd : (x == ("__debug__" : Str)) = false := by decide) (hcd : (x == ("__classdict__" : Str)) = false := by decide) :
    PE X (.Call (.Name "len" p) [.Name x p1] [] pos) (tP X.K (mLenO i)) := P.lenO hN hv hg hm hd hcd
theorem P.iterOv (i : Nat) {x : Str} {p1 : Pos} (hN : X.N[i]? = some x := by rfl) (hv : Vis X.env.scope x := by first | exact Or.inl rfl | exact Or.inr (Or.inl rfl) | exact Or.inr (Or.inr rfl)) (hd : (x == ("__debug__" : Str)) = false := by decide) (hcd : (x == ("__classdict__" : Str)) = false := by decide) : PI X tg (.Name x p1) (tIE X.K (mItO i)) := P.iterO hN hv hd hcd
theorem P.ixOv (i : Nat) {x : Str} {b : Expr} {f : M D} {p1 : Pos} (hb : PE X b (tP X.K f)) (hN : X.N[i]? = some x := by rfl) (hv : Vis X.env.scope x := by first | exact Or.inl rfl | exact Or.inr (Or.inl rfl) | exact Or.inr (Or.inr rfl)) (hs : PlainIx b := by exact fun _ _ => rfl) (hd : (x == ("__debug__" : Str)) = false := by decide) (hcd : (x == ("__classdict__" : Str)) = false := by decide) :
    PE X (.Subscript (.Name x p1) b pos) (tP X.K (mIxO i f)) := P.ixO hN hv hb hs hd hcd
theorem P.skv (i : Nat) {k : Nat} {x : Str} {j} {p1 p2 : Pos} (hN : X.N[i]? = some x := by rfl) (hv : Vis X.env.scope x := by first | exact Or.inl rfl | exact Or.inr (Or.inl rfl) | exact Or.inr (Or.inr rfl)) (hd : (x == ("__debug__" : Str)) = false := by decide) (hcd : (x == ("__classdict__" : Str)) = false := by decide) (hs : PlainIx (.Constant (.int (k : Nat)) j p2) := by exact fun _ _ => rfl) :
    PE X (.Subscript (.Name x p1) (.Constant (.int (k : Nat)) j p2) pos) (tP X.K (mSk i k)) := P.sk hN hv hd hcd hs
theorem P.gsubv (i : Nat) {k : Nat} {x : Str} {j} {p1 p2 : Pos} (hN : X.N[i]? = some x := by rfl) (hv : Vis X.env.scope x := by first | exact Or.inl rfl | exact Or.inr (Or.inl rfl) | exact Or.inr (Or.inr rfl)) (hd : (x == ("__debug__" : Str)) = false := by decide) (hcd : (x == ("__classdict__" : Str)) = false := by decide)
    (ha : ∀ v, assign (.Subscript (.Name x p1) (.Constant (.int (k : Nat)) j p2) pos) X.env v = (do
      let ov ← holding [v] (eval (.Name x p1) X.env)
      let iv ← holding [v, ov] (eval (.Constant (.int (k : Nat)) j p2) X.env)
      standAt pos
      holding [v, ov, iv] (setItem ov iv v)
      release [v, ov, iv] []) := by intro _; rfl) : PG X (.Subscript (.Name x p1) (.Constant (.int (k : Nat)) j p2) pos) (tG X.K (.sb i k)) := P.gsub hN hv hd hcd ha
theorem P.appv (i : Nat) {x : Str} {e : Expr} {f : M D} {p1 apos cpos : Pos} (he : PE X e (tP X.K f)) (hN : X.N[i]? = some x := by rfl) (hv : Vis X.env.scope x := by first | exact Or.inl rfl | exact Or.inr (Or.inl rfl) | exact Or.inr (Or.inr rfl)) (hd : (x == ("__debug__" : Str)) = false := by decide) (hcd : (x == ("__classdict__" : Str)) = false := by decide)
    (hbase : attributeBase (.Name x p1) "append" X.env (eval (.Name x p1) X.env) = eval (.Name x p1) X.env := by rfl)
    (hfew : ((backTo cpos (starEach [e] X.env)).all (fun x => !x.1) && (backToKw cpos (keywordEach [] X.env)).all (fun x => x.1.isSome)
      && decide (([e] : List Expr).length + ([] : List Keyword).length + (if ([] : List Keyword).isEmpty then 0 else 1) < 30)) = true := by rfl)
    (hline : (apos.endLine == cpos.line) = true := by rfl) (hs : starEach [e] X.env = (false, eval e X.env) :: starEach [] X.env := by rfl) (hplain : (backTo cpos (starEach [] X.env)).any (·.1) = false := by rfl)
    (hsw : swapsWith (.Call (.Attribute (.Name x p1) "append" apos) [e] [] cpos) none pos.line X.env = pure false := by rfl) :
    PS X (.Expr (.Call (.Attribute (.Name x p1) "append" apos) [e] [] cpos) pos) (tS X.K (sApp i f)) := P.app hN hv he hd hcd hbase hfew hline hs hplain hsw
theorem P.popv (i : Nat) {x : Str} {p1 apos cpos : Pos} (hN : X.N[i]? = some x := by rfl) (hv : Vis X.env.scope x := by first | exact Or.inl rfl | exact Or.inr (Or.inl rfl) | exact Or.inr (Or.inr rfl)) (hd : (x == ("__debug__" : Str)) = false := by decide) (hcd : (x == ("__classdict__" : Str)) = false := by decide)
    (hbase : attributeBase (.Name x p1) "pop" X.env (eval (.Name x p1) X.env) = eval (.Name x p1) X.env := by rfl) (hline : (apos.endLine == cpos.line) = true := by rfl)
    (hsw : swapsWith (.Call (.Attribute (.Name x p1) "pop" apos) [] [] cpos) none pos.line X.env = pure false := by rfl) :
    PS X (.Expr (.Call (.Attribute (.Name x p1) "pop" apos) [] [] cpos) pos) (tS X.K (sPop i)) := P.pop hN hv hd hcd hbase hline hsw
end
theorem acs1 {a : M D} {ρ : PL.Env} {s s' : S} {ds : List D} (h : aCons a aNil ρ s = some (ds, s')) : ds.length = 1 := by
  obtain ⟨x, s1, q1, q⟩ := mThen_some h
  obtain ⟨y, s2, q2, q⟩ := mThen_some q
  obtain ⟨q3, rfl⟩ := mLift_some q
  cases q3; cases q2; rfl
theorem acsS {a : M D} {r : M (List D)} {n : Nat} (hr : ∀ {ρ : PL.Env} {s s' : S} {ds : List D}, r ρ s = some (ds, s') → ds.length = n) {ρ : PL.Env} {s s' : S} {ds : List D} (h : aCons a r ρ s = some (ds, s')) : ds.length = n + 1 := by
  obtain ⟨x, s1, q1, q⟩ := mThen_some h
  obtain ⟨y, s2, q2, q⟩ := mThen_some q
  obtain ⟨q3, rfl⟩ := mLift_some q
  cases q3
  simp [hr q2]
theorem acs2 {a b : M D} {ρ : PL.Env} {s s' : S} {ds : List D} (h : aCons a (aCons b aNil) ρ s = some (ds, s')) : ds.length = 2 := acsS acs1 h
theorem acs3 {a b c : M D} {ρ : PL.Env} {s s' : S} {ds : List D} (h : aCons a (aCons b (aCons c aNil)) ρ s = some (ds, s')) : ds.length = 3 := acsS acs2 h
theorem acs4 {a b c d : M D} {ρ : PL.Env} {s s' : S} {ds : List D} (h : aCons a (aCons b (aCons c (aCons d aNil))) ρ s = some (ds, s')) : ds.length = 4 := acsS acs3 h
end PL
namespace PL
open PySem PySem.Spec PyProof.Rows L2
/-! ### constants that the top has left -/
def flatB : Value → D → Bool
  | .none, .none => true
  | .bool a, .bool b => a == b
  | .int i _, .int j => i == j
  | .str x _, .str y => x == y
  | _, _ => false
def flatsB : List Value → List D → Bool
  | [], [] => true
  | v :: vs, d :: ds => flatB v d && flatsB vs ds
  | _, _ => false
/-- a flat value, a tuple of such -/
def cst1 (K : PySem.W.Frag) : Value → D → Bool
  | .ref a, .tuple ds => match K.lookup a with
    | some o => (match o.cls with
      | .type T => T == "tuple"
      | _ => false) && (match o.data with
      | .seq its _ => decide (its.size < 1000) && flatsB its.toList ds
      | _ => false)
    | none => false
  | v, d => flatB v d
def cst2s (K : PySem.W.Frag) : List Value → List D → Bool
  | [], [] => true
  | v :: vs, d :: ds => cst1 K v d && cst2s K vs ds
  | _, _ => false
def cst2 (K : PySem.W.Frag) : Value → D → Bool
  | .ref a, .tuple ds => match K.lookup a with
    | some o => (match o.cls with
      | .type T => T == "tuple"
      | _ => false) && (match o.data with
      | .seq its _ => decide (its.size < 1000) && cst2s K its.toList ds
      | _ => false)
    | none => false
  | v, d => flatB v d
def cstB (K : PySem.W.Frag) (x : Str) (d : D) : Bool := match PySem.W.nsIn K mainGlobals x with
  | some (some u) => cst2 K u d
  | _ => false
theorem flat_ok {K : PySem.W.Frag} : ∀ {u : Value} {d : D}, flatB u d = true → ∃ v, RelV v u ∧ ∀ G, Dp K G v d := by
  intro u d h
  unfold flatB at h
  split at h
  · exact ⟨.non, rfl, fun _ => .non⟩
  · rename_i a b
    have e : a = b := by simpa using h
    subst e
    exact ⟨.bl a, rfl, fun _ => .bl _⟩
  · rename_i i t j
    have e : i = j := by simpa using h
    subst e
    exact ⟨.int i, ⟨t, rfl⟩, fun _ => .int _⟩
  · rename_i x t y
    have e : x = y := eq_of_beq h
    subst e
    exact ⟨.str x, ⟨t, rfl⟩, fun _ => .str _⟩
  · cases h
theorem flats_ok {K : PySem.W.Frag} : ∀ {us : List Value} {ds : List D}, flatsB us ds = true → ∃ vs, Vals vs us ∧ ∀ G, DpAll K G vs ds
  | [], [], _ => ⟨[], .nil, fun _ => .nil⟩
  | u :: us, d :: ds, h => by
    unfold flatsB at h
    rw [Bool.and_eq_true] at h
    obtain ⟨v, r, q⟩ := flat_ok (K := K) h.1
    obtain ⟨vs, rs, qs⟩ := flats_ok (K := K) h.2
    exact ⟨v :: vs, .cons r rs, fun G => .cons (q G) (qs G)⟩
  | [], _ :: _, h => by cases h
  | _ :: _, [], h => by cases h
theorem big1000 {n : Nat} (h : n < 1000) : n ≤ sizeLine := by rw [sizeLine_eq]; omega
theorem tup_at {K : PySem.W.Frag} {a : Addr} {o : Obj} {its : Array Value} {n : Nat} {vs : List V} {ds : List D} (hk : K.lookup a = some o) (hc : (match o.cls with
      | .type T => T == "tuple"
      | _ => false) = true) (hd : o.data = .seq its n) (hz : its.size < 1000) (r : Vals vs its.toList) (q : ∀ G, DpAll K G vs ds) (G : Hp) : Dp K G (.ref a) (.tuple ds) := by
  refine .tup (xs := vs) (.inr ⟨o, its, n, hk, ?_, hd, big1000 hz, r⟩) (q G)
  split at hc
  · rename_i T e
    rw [e]
    rw [eq_of_beq hc]
  · cases hc
theorem cst1_ok {K : PySem.W.Frag} {u : Value} {d : D} (h : cst1 K u d = true) : ∃ v, RelV v u ∧ ∀ G, Dp K G v d := by
  unfold cst1 at h
  split at h
  · rename_i a ds
    split at h
    · rename_i o ho
      rw [Bool.and_eq_true] at h
      obtain ⟨h1, h2⟩ := h
      split at h2
      · rename_i its n hd
        rw [Bool.and_eq_true] at h2
        obtain ⟨vs, r, q⟩ := flats_ok (K := K) h2.2
        exact ⟨.ref a, rfl, tup_at ho h1 hd (of_decide_eq_true h2.1) r q⟩
      · cases h2
    · cases h
  · exact flat_ok h
theorem cst2s_ok {K : PySem.W.Frag} : ∀ {us : List Value} {ds : List D}, cst2s K us ds = true → ∃ vs, Vals vs us ∧ ∀ G, DpAll K G vs ds
  | [], [], _ => ⟨[], .nil, fun _ => .nil⟩
  | u :: us, d :: ds, h => by
    unfold cst2s at h
    rw [Bool.and_eq_true] at h
    obtain ⟨v, r, q⟩ := cst1_ok (K := K) h.1
    obtain ⟨vs, rs, qs⟩ := cst2s_ok (K := K) h.2
    exact ⟨v :: vs, .cons r rs, fun G => .cons (q G) (qs G)⟩
  | [], _ :: _, h => by cases h
  | _ :: _, [], h => by cases h
theorem cst2_ok {K : PySem.W.Frag} {u : Value} {d : D} (h : cst2 K u d = true) : ∃ v, RelV v u ∧ ∀ G, Dp K G v d := by
  unfold cst2 at h
  split at h
  · rename_i a ds
    split at h
    · rename_i o ho
      rw [Bool.and_eq_true] at h
      obtain ⟨h1, h2⟩ := h
      split at h2
      · rename_i its n hd
        rw [Bool.and_eq_true] at h2
        obtain ⟨vs, r, q⟩ := cst2s_ok (K := K) h2.2
        exact ⟨.ref a, rfl, tup_at ho h1 hd (of_decide_eq_true h2.1) r q⟩
      · cases h2
    · cases h
  · exact flat_ok h
theorem cst_ok {K : PySem.W.Frag} {h : Heap} {mg : Str → Option Value} (X : K.In h) (G : h.Ns mainGlobals mg) {x : Str} {d : D} (e : cstB K x d = true) : Cst K mg x d := by
  unfold cstB at e
  split at e
  · rename_i u hu
    obtain ⟨v, r, q⟩ := cst2_ok e
    exact ⟨v, u, PySem.W.mg_of X G hu, r, q⟩
  · cases e
/-- the law's promise: the script is data -/
theorem spF_law {K : PySem.W.Frag} {F : Fn} (hF : ∀ ns : List Int, ns.length ≤ 63 → (∀ z ∈ ns, Builtin.Int.intBits z ≤ 1048576) → ∃ s', F [.list (ns.map PyData.int)] [] = some (.bool true, s')) (H : Hp) (a : Addr) (ns : List Int) (hl : ns.length ≤ 63) (hb : ∀ z ∈ ns, Builtin.Int.intBits z ≤ 1048576) (hS : SqL K H a (ns.map V.int)) :
    spF K F [.ref a] H (fun v _ => v = .bl true) E0 := by
  obtain ⟨s', e⟩ := hF ns hl hb
  refine ⟨none, H, [.list (ns.map PyData.int)], [], _, s', ⟨.refl, fun _ z => by cases z⟩, .cons (.inl (.lst hS ?_)) .nil, e, fun v G' H' w x q => ?_⟩
  · clear hS hb hl e
    induction ns with
    | nil => exact .nil
    | cons n ns ih => exact .cons (.int n) ih
  · exact Dp.bl_of q
end PL
/-! tuples of whole numbers, of any sign, in their order: sorted of a list, sorted of a set -/
namespace PLS
open PySem PyProof.Rows
def lexL : List Int → List Int → Bool
  | _, [] => false
  | [], _ :: _ => true
  | x :: xs, y :: ys => if x = y then lexL xs ys else decide (x < y)
theorem lexL_irr : ∀ x : List Int, lexL x x = false
  | [] => rfl
  | x :: xs => by
    unfold lexL
    rw [if_pos rfl]
    exact lexL_irr xs
theorem lexL_tri : ∀ x y : List Int, lexL x y = true ∨ x = y ∨ lexL y x = true
  | [], [] => .inr (.inl rfl)
  | [], _ :: _ => .inl rfl
  | _ :: _, [] => .inr (.inr rfl)
  | x :: xs, y :: ys => by
    unfold lexL
    by_cases h : x = y
    · subst h
      rw [if_pos rfl]
      rcases lexL_tri xs ys with a | a | a
      · exact .inl a
      · exact .inr (.inl (by rw [a]))
      · exact .inr (.inr (by rw [if_pos rfl]; exact a))
    · rw [if_neg h, if_neg (Ne.symm h), decide_eq_true_eq, decide_eq_true_eq]
      omega
theorem lexL_tr : ∀ x y z : List Int, lexL x y = true → lexL y z = true → lexL x z = true
  | _, [], _, h, _ => by unfold lexL at h; cases h
  | _, _ :: _, [], _, h => by unfold lexL at h; cases h
  | [], _ :: _, _ :: _, _, _ => rfl
  | x :: xs, y :: ys, z :: zs, h1, h2 => by
    unfold lexL at *
    by_cases a : x = y
    · subst a
      rw [if_pos rfl] at h1
      by_cases b : x = z
      · subst b
        rw [if_pos rfl] at h2 ⊢
        exact lexL_tr xs ys zs h1 h2
      · rw [if_neg b] at h2 ⊢
        exact h2
    · rw [if_neg a, decide_eq_true_eq] at h1
      by_cases b : y = z
      · subst b
        rw [if_neg a, decide_eq_true_eq]
        exact h1
      · rw [if_neg b, decide_eq_true_eq] at h2
        rw [if_neg (by omega), decide_eq_true_eq]
        omega
theorem lexL_asym {x y : List Int} (h : lexL x y = true) : lexL y x = false := by
  cases q : lexL y x with
  | false => rfl
  | true =>
    have := lexL_tr _ _ _ h q
    rw [lexL_irr] at this
    cases this
theorem swo_key (k : Value → List Int) : SrtO.Swo fun v u => lexL (k v) (k u) := by
  refine ⟨fun _ _ h => lexL_asym h, fun x y z h1 h2 => ?_⟩
  cases q : lexL (k z) (k x) with
  | false => rfl
  | true =>
    rcases lexL_tri (k y) (k x) with a | a | a
    · rw [h1] at a; cases a
    · rw [a] at h2; rw [q] at h2; cases h2
    · have := lexL_tr _ _ _ q a
      rw [h2] at this; cases this
section
variable {prog : Program} {w : World} {A : Around} {s : Shared}
theorem kat_ints {Q : Bool → Shared → Prop} : ∀ {xs ys : List Value} {ns ms : List Int}, IntsAre xs ns → IntsAre ys ms → ∀ (i : Nat) (fin : Bool), fin = decide (xs.length < ys.length) → Q (lexL ns ms) s → PySem.W.KatLex prog w A true fin Q (xs.zip ys) i s
  | _, _, _, _, .nil, .nil, i, fin, e, h => by
    have e' : fin = false := e
    rw [e']
    exact PySem.W.kat_nil h
  | _, _, _, _, .nil, .cons m u r, i, fin, e, h => by
    have e' : fin = true := by rw [e]; simp
    rw [e']
    exact PySem.W.kat_nil h
  | _, _, _, _, .cons n t r, .nil, i, fin, e, h => by
    have e' : fin = false := by rw [e]; simp
    rw [e']
    exact PySem.W.kat_nil h
  | _, _, _, _, .cons (ns := ns) (vs := xs) n t r, .cons (ns := ms) (vs := ys) m u r', i, fin, e, h => by
    show PySem.W.KatLex prog w A true fin Q ((.int n t, .int m u) :: xs.zip ys) i s
    have ef : fin = decide (xs.length < ys.length) := by
      rw [e]
      simp
    refine PySem.W.kat_cons (SeqAt.EqAt.int_int n t m u prog w _ _ ?_)
    refine PySem.W.kat_go (fun e1 => ?_) (fun e1 => ?_)
    · have en : n = m := by simpa using e1
      subst en
      have h' : Q (lexL ns ms) s := by
        unfold lexL at h
        rw [if_pos rfl] at h
        exact h
      exact PySem.W.kat_yes (kat_ints r r' (i + 1) fin ef h')
    · have en : ¬ n = m := by simpa using e1
      have h' : Q (decide (n < m)) s := by
        unfold lexL at h
        rw [if_neg en] at h
        exact h
      refine PySem.W.kat_no ?_
      cases i with
      | zero => exact oneLt_int h'
      | succ i =>
        have z : (true && (i + 1 == 0)) = false := rfl
        rw [z]
        exact PySem.W.kat_one _ _ (PyProof.Rows.lt_int h')
theorem tups_cmp {vs : List Value} {k : Value → List Int} (hp : ∀ v ∈ vs, TS.TupInts s.heap v (k v)) : SrtO.Cmp prog w A s (tuples' true) (fun p => p.1 ∈ vs) (SrtO.lt2 fun v u => lexL (k v) (k u)) := by
  intro p q hm hm'
  obtain ⟨a, xs, e1, ⟨o, ho, hc, n, hd⟩, i1⟩ := hp _ hm
  obtain ⟨b, ys, e2, ⟨o', ho', hc', n', hd'⟩, i2⟩ := hp _ hm'
  rw [e1, e2]
  refine PySem.W.kat_lt ho hd ho' hd' (kat_ints i1 i2 0 _ (by simp) ?_)
  exact ⟨rfl, rfl⟩
theorem heads_of {h : Heap} : ∀ {vs : List Value}, (∀ v ∈ vs, ∃ ns, TS.TupInts h v ns ∧ ns ≠ []) → ∃ fs : List Value, PySem.W.KatTups h vs fs ∧ fs.length = vs.length ∧ ∀ f ∈ fs, ∃ x t, f = Value.int x t
  | [], _ => ⟨[], PySem.W.KatTups.nil, rfl, fun _ hm => by simp at hm⟩
  | v :: vs, hp => by
    obtain ⟨fs, h1, h2, h3⟩ := heads_of (vs := vs) fun u hm => hp u (List.mem_cons_of_mem _ hm)
    obtain ⟨ns, ⟨a, xs, rfl, ⟨o, ho, hc, n, hd⟩, i⟩, hn⟩ := hp v List.mem_cons_self
    have : ∃ x t rest, xs.toList = Value.int x t :: rest := by
      generalize xs.toList = l at i
      cases i with
      | nil => exact absurd rfl hn
      | cons x t r => exact ⟨_, _, _, rfl⟩
    obtain ⟨x, t, rest, ex⟩ := this
    have e0 : xs[0]? = some (Value.int x t) := by
      rw [← Array.getElem?_toList, ex]
      rfl
    refine ⟨.int x t :: fs, PySem.W.KatTups.cons ho hc hd e0 h1, by rw [List.length_cons, List.length_cons, h2], fun f hm => ?_⟩
    rcases List.mem_cons.mp hm with z | z
    · exact ⟨x, t, z⟩
    · exact h3 f z
theorem tups_sortable {a : Addr} {vs : List Value} {k : Value → List Int} (h0 : 0 < vs.length) (hp : ∀ v ∈ vs, TS.TupInts s.heap v (k v) ∧ k v ≠ []) (ha : ∀ o, s.heap.get? a = some o → o.cls ≠ .type "tuple") : SrtO.SortableO prog w A s a vs fun v u => lexL (k v) (k u) := by
  intro h' keep
  have hp' : ∀ v ∈ vs, TS.TupInts h' v (k v) := fun v hm => (hp v hm).1.keeps fun b o e c => keep b o (fun z => ha o (by rw [← z]; exact e) c) e
  obtain ⟨fs, h1, h2, h3⟩ := heads_of fun v hm => ⟨_, hp' v hm, (hp v hm).2⟩
  refine ⟨tuples' true, fun Q E hq => ?_, tups_cmp hp'⟩
  refine PySem.W.kat_kind (T := .type "int") h1 (by omega) (fun f hm => ?_) (by rfl) ?_
  · obtain ⟨x, t, rfl⟩ := h3 f hm
    exact PySem.W.Looks.now
  · have e : (Value.type "int" != Value.type "tuple") = true := by first | decide +kernel | rfl | decide
    rw [e]
    exact hq
end
end PLS
namespace PL
open PySem PySem.Spec PyProof.Rows L2 PLS
section
variable {X : Cx}
/-- sorted(xs), xs a list of tuples of whole numbers -/
def rSrt (K : PySem.W.Frag) : List V → Hp → VK → Prop := fun vs H Q => ∃ (a : Addr) (xs : List V), vs = [V.ref a] ∧ SqL K H a xs ∧ (∀ x ∈ xs, ∃ ns, TupI K H x ns ∧ ns ≠ []) ∧
  ∀ (ys : List V) (p : Addr), ys.Perm xs → ys.Pairwise (fun x y => ∀ n m, TupI K H x n → TupI K H y m → lexL m n = false) → H p = none → Q (.ref p) (upd H p (.lst ys))
theorem cr_srt : CallR X (.builtin "sorted") (rSrt X.K) := by
  intro pins s σ H vs us Q I r h
  obtain ⟨a, xs, rfl, hs, hx, q⟩ := h
  obtain ⟨its, rv, hl, hz⟩ := I.list hs
  rw [Vals.ref1 r]
  obtain ⟨e1, e2⟩ := refs_back rv fun x m => by
    obtain ⟨ns, ⟨t, e, _⟩, _⟩ := hx x m
    exact ⟨t, e⟩
  have raw : ∀ v ∈ its, TS.TupInts s.heap v (TS.intsOf s.heap v) ∧ TS.intsOf s.heap v ≠ [] := fun v hv => by
    obtain ⟨t, rfl⟩ := e2 v hv
    have hm : V.ref t ∈ xs := by rw [e1]; exact List.mem_map.mpr ⟨_, hv, rfl⟩
    obtain ⟨ns, ⟨t', e, ht⟩, hn⟩ := hx _ hm
    cases e
    have z := tupI_raw I ht
    rw [z.ints]
    exact ⟨z, hn⟩
  refine SrtO.sorted_ord (swo_key (TS.intsOf s.heap)) hl.isList (by rw [← rv.length]; exact hz) (fun h2 h₁ b hb kk => ?_) fun out h1 h2 => ?_
  · refine tups_sortable (s := { s with heap := h₁ }) (by omega) (fun v hm => ⟨(raw v hm).1.keeps fun c o e _ => (kk c o e).2, (raw v hm).2⟩) fun o e c => ?_
    have e' : some o = some (seqObj "list" its.toArray 0) := e.symm.trans hb
    cases e'
    exact absurd (Value.type.inj c) (by decide)
  · have h3 : ∀ u ∈ out, ∃ a, u = Value.ref a := fun u hu => e2 u (h2.perm.mem_iff.mp hu)
    obtain ⟨ep, hep⟩ := sortedAll_at s.heap its out.toArray
    have hp : (out.map backV).Perm xs := by rw [e1]; exact h2.perm.map backV
    refine ⟨.ref _, upd H (s.heap.objs.size + 1) (.lst (out.map backV)), I.laid (t' := s.toks) (fun _ _ => sortedAll_old) (Nat.le_succ _) ⟨by rw [hp.length_eq]; exact hz, out, ep, vals_back h3, hep⟩, rfl, q _ _ hp ?_ (I.hok.fresh (Nat.le_succ _))⟩
    rw [List.pairwise_map]
    refine h1.imp_of_mem fun {u v} hu hv huv n m hn hm => ?_
    obtain ⟨t, rfl⟩ := h3 u hu
    obtain ⟨t', rfl⟩ := h3 v hv
    obtain ⟨t2, et, ht⟩ := hn
    obtain ⟨t3, et', ht'⟩ := hm
    cases et; cases et'
    have i1 := (tupI_raw I ht).ints
    have i2 := (tupI_raw I ht').ints
    rw [← i1, ← i2]
    exact huv
/-- sorted(set), a set of tuples of whole numbers -/
def rSrtS (K : PySem.W.Frag) (P : Program) (w : World) : List V → Hp → VK → Prop := fun vs H Q => ∃ (a : Addr) (L : List (Addr × List Int)), vs = [V.ref a] ∧ H a = some (SetTO P w a L) ∧ (∀ p ∈ L, SqT K H p.1 (p.2.map V.int) ∧ p.2 ≠ []) ∧
  ∀ (L' : List (Addr × List Int)) (p : Addr), L'.Perm L → (L.map (·.2)).Nodup → L'.Pairwise (fun q r => lexL r.2 q.2 = false) → H p = none → Q (.ref p) (upd H p (.lst (L'.map fun q => V.ref q.1)))
theorem back_rows : ∀ (L : List (Addr × List Int)) {vs : List Value}, (∀ v ∈ vs, ∃ q ∈ L, v = Value.ref q.1) → ∃ L1 : List (Addr × List Int), vs = L1.map (fun q => Value.ref q.1) ∧ ∀ q ∈ L1, q ∈ L
  | L, [], _ => ⟨[], rfl, fun _ h => by cases h⟩
  | L, v :: vs, h => by
    obtain ⟨q, hq, e⟩ := h v List.mem_cons_self
    obtain ⟨M, e1, hs⟩ := back_rows L fun u hu => h u (List.mem_cons_of_mem _ hu)
    refine ⟨q :: M, by rw [e, e1]; rfl, fun r hr => ?_⟩
    cases hr with
    | head => exact hq
    | tail _ z => exact hs r z
theorem cr_srtS (hc : X.calm = true) : CallR X (.builtin "sorted") (rSrtS X.K X.prog X.w) := by
  intro pins s σ H vs us Q I r h
  obtain ⟨a, L, rfl, ha, hk, q⟩ := h
  have R0 : SetT0 X.prog X.w s.heap a L := (I.hok a _ ha).1
  obtain ⟨es, ep, t, R⟩ := R0.full fun p hp => I.isT (hk p hp).1
  rw [Vals.ref1 r]
  obtain ⟨o, ho, hex, hd⟩ := R.ob
  have hfew := R.few
  have hsz := R.size
  have rows : es.toList.map (·.2) = L.map fun q => Value.ref q.1 := by
    rw [R.rows]
    unfold rowsOf
    rw [List.map_map] <;> rfl
  refine Calls.call_function_entry kind_sorted plain_sorted entry_sorted (args_sorted1 _) ?_
  unfold Builtin.«sorted»
  refine wpAny_bind (m := checkCount "sorted" 1 1 _) (wpAny_pure (wpAny_bind (collect_set (A := X.A.in1) (I.ok.hd hc) ⟨o, ho, hex.1, hd⟩ R.fits (by unfold scanBound; omega) R.tab.ris R.led fun s1 ws k1 hz g1 o1 pm => ?_)))
  rw [rows] at pm
  have hlen : ws.length = L.length := by rw [pm.length_eq, List.length_map]
  have small : ws.length ≤ sizeLine := by rw [hlen, sizeLine_eq]; omega
  refine wpAny_bind (wpAny_newList ?_ small)
  have top : (s1.heap.push (seqObj "list" ws.toArray 0)).get? s1.heap.objs.size = some (seqObj "list" ws.toArray 0) := Heap.get?_push_size _ rfl
  generalize hh1 : s1.heap.push (seqObj "list" ws.toArray 0) = h1 at top
  have keep1 : ∀ b u, s.heap.get? b = some u → h1.get? b = some u := fun b u e => by rw [← hh1]; exact Heap.get?_push_of_some _ (k1 b u e)
  have raw : ∀ p ∈ L, TS.TupInts h1 (.ref p.1) p.2 := fun p hp => (tupI_raw I (hk p hp).1).keeps fun b u e _ => keep1 b u e
  have each : ∀ v ∈ ws, ∃ p ∈ L, v = Value.ref p.1 := fun v hv => by
    obtain ⟨p, hp, e⟩ := List.mem_map.mp (pm.mem_iff.mp hv)
    exact ⟨p, hp, e.symm⟩
  have sortable : 2 ≤ ws.length → SrtO.SortableO X.prog X.w X.A.in1.in1 { s1 with heap := h1 } s1.heap.objs.size ws fun v u => lexL (TS.intsOf h1 v) (TS.intsOf h1 u) := fun h2 => by
    refine tups_sortable (s := { s1 with heap := h1 }) (by omega) (fun v hv => ?_) fun u e c => ?_
    · obtain ⟨p, hp, rfl⟩ := each v hv
      have z := raw p hp
      rw [z.ints]
      exact ⟨z, (hk p hp).2⟩
    · have e' : some u = some (seqObj "list" ws.toArray 0) := e.symm.trans top
      cases e'
      exact absurd (Value.type.inj c) (by decide)
  refine wpAny_bind (wpAny_holding (wpAny_call_entry (s := { s1 with heap := h1 }) slot_list_sort ⟨_, top, rfl⟩ entry_list_sort (SrtO.list_sort_ord (swo_key (TS.intsOf h1)) top small sortable fun out so sb => ⟨_, rfl, ?_⟩) (args_list_sort _)))
  obtain ⟨c, hcc⟩ := sortedHeap_at (vs := ws) (out := out.toArray) top
  obtain ⟨L', e', hs'⟩ := back_rows L fun v hv => each v (sb.perm.mem_iff.mp hv)
  have inj : ∀ p ∈ L, ∀ r ∈ L, p.1 = r.1 → p = r := fun p hp r hr e => by
    have z1 := R.tup p hp
    have z2 := R.tup r hr
    rw [e] at z1
    exact Prod.ext e (z1.inj z2)
  have nL : L.Nodup := nodup_of_map R.nd
  have nref : (L.map fun q => Value.ref q.1).Nodup := List.pairwise_map.mpr (List.Pairwise.imp_of_mem (fun {p r} hp hr ne e => ne (inj p hp r hr (Value.ref.inj e))) nL)
  have pref : (L'.map fun q => Value.ref q.1).Perm (L.map fun q => Value.ref q.1) := by rw [← e']; exact sb.perm.trans pm
  have nL' : L'.Nodup := nodup_of_map (pref.nodup_iff.mpr nref)
  have pL : L'.Perm L := (List.perm_ext_iff_of_nodup nL' nL).mpr fun p => ⟨hs' p, fun hp => by
    obtain ⟨r, hr, e⟩ := List.mem_map.mp (pref.mem_iff.mpr (List.mem_map.mpr ⟨p, hp, rfl⟩))
    rw [← inj r (hs' r hr) p hp (Value.ref.inj e)]
    exact hr⟩
  have pw : L'.Pairwise (fun p r => lexL r.2 p.2 = false) := by
    rw [e'] at so
    refine List.Pairwise.imp_of_mem (fun {p r} hp hr hle => ?_) (List.pairwise_map.mp so)
    rw [← (raw p (hs' p hp)).ints, ← (raw r (hs' r hr)).ints]
    exact hle
  have news : ∀ b u, s.heap.get? b = some u → (sortedHeap h1 s1.heap.objs.size ws out.toArray).get? b = some u := fun b u e => by
    have z := k1 b u e
    have lt := Heap.lt_size z
    rw [sortedHeap_old (Nat.ne_of_lt lt) (by rw [← hh1, size_push']; exact Nat.lt_succ_of_lt lt)]
    exact keep1 b u e
  have hn : H s1.heap.objs.size = none := I.hok.fresh hz
  have hv : Vals (L'.map fun q => V.ref q.1) out := by rw [e']; exact vals_of_refs L'
  have fin : ∀ s2 : Shared, s2.heap = sortedHeap h1 s1.heap.objs.size ws out.toArray → s2.gens = s.gens → s2.os = s.os → EP X pins σ Q (.ref s1.heap.objs.size) s2 := fun s2 eh eg eo => by
    have J : Inv X pins σ (upd H s1.heap.objs.size (.lst (L'.map fun q => V.ref q.1))) s2 :=
      I.call' (ch := []) eo (Un.laid (by rw [eh]; exact news) hz hn) (I.hok.laid (by rw [eh]; exact news) hz ⟨by rw [List.length_map, pL.length_eq, sizeLine_eq]; omega, out, c, hv, by rw [eh]; exact hcc⟩) (by rw [eg]; exact I.bare) (fun _ z => nomatch z)
    exact ⟨.ref _, _, J, rfl, q L' _ pL R.nd pw hn⟩
  exact wpAny_pure ⟨_, rfl, fin _ rfl g1 o1⟩
end
end PL
/-! a set of tuples of whole numbers made by a comprehension -/
namespace PL
open PySem PySem.Spec PyProof.Rows L2 PLS PpSet
section
variable {X : Cx}
theorem addT {pins : List (Addr × Obj)} {σ : L2.St} {H : Hp} {s : Shared} {E : Value → Shared → Prop} {D c : Addr} {L : List (Addr × List Int)} {k : List Int} {Q : Value → Shared → Prop} (I : Inv X pins σ H s) (hD : H D = some (SetTO X.prog X.w D L))
    (hk : SqT X.K H c (k.map V.int)) (hL : ∀ p ∈ L, SqT X.K H p.1 (p.2.map V.int)) (hu : X.A.units + 64 < cLine) (few : L.length + 1 < 64)
    (h : ∀ L' s', (k ∈ L.map (·.2) → L' = L) → (k ∉ L.map (·.2) → L'.Perm ((c, k) :: L)) → Inv X pins σ (upd H D (SetTO X.prog X.w D L')) s' → Q .none s') : wpAny (model X.prog X.w) X.A (call (.builtin "set.add") [.ref D, .ref c]) Q E s := by
  have R0 : SetT0 X.prog X.w s.heap D L := (I.hok D _ hD).1
  obtain ⟨es, ep, t, R⟩ := R0.full fun p hp => I.isT (hL p hp)
  obtain ⟨o, ho, hex, hd⟩ := R.ob
  have ty : s.TypeIs (.ref D) "set" := ⟨o, ho, hex.1⟩
  refine wpAny_call_entry F.slot_set_add ty F.entry_set_add ?_ (F.args_set_add_2 _ _)
  unfold Builtin.«set.add» Builtin.Frozenset.oneOther
  simp only [List.isEmpty_nil, bind_assoc]
  unfold Builtin.Frozenset.addrOf setAdd
  refine wpAny_bind (wpAny_pure ?_)
  try dsimp only
  refine wpAny_bind (wpAny_pure ?_)
  try dsimp only
  refine wpAny_bind (wpAny_holding (wpAny_bind (wpAny_pyHash_tuple (by show X.A.units + 1 < cLine; omega) (I.isT hk) ?_)))
  refine add_at (s := { s with toks := s.toks + (k.length + 1) }) R (I.isT hk) (by show X.A.units + 1 < cLine; omega) few fun b h' L' es' ep' t' sb R' c1 c2 => ?_
  show wpAny _ _ (ret Value.none) _ _ _
  obtain ⟨o', ho', _⟩ := R'.ob
  exact wpAny_pure ⟨_, rfl, h L' _ c1 c2 (I.write (e := D) (t' := s.toks + (k.length + 1)) (by rw [hD]; trivial) (.inl rfl) (fun b u hb hu => (sb.2 b hb).trans hu) ⟨o', ho'⟩ (setTO_new R'.t0))⟩
end
/-- {elt for target in iter if ..}, elt a tuple of whole numbers; D is the new set -/
def tSt (X : Cx) (wi : TI) (g : TG) (tt : TT) (te : TE) (vs : List Nat) : TE := fun σ H Q => wi σ H fun J H1 => ∀ D, H1 D = none → ∃ W : Nat → Nat → Hp → Prop, (∃ m, W 0 m (upd H1 D (SetTO X.prog X.w D []))) ∧ ∀ i m H, W i m H →
  (J.stop i H ∧ Q (.ref D) H) ∨ (J.go i H ∧ ∃ Nx : Hp → Prop, (∀ H', Nx H' → ∃ m', m' < m ∧ W (i + 1) m' H') ∧ ∀ x H', J.yld i H x H' → g x (L2.wipe σ vs) H' fun σ2 H2 => L2.wipe σ2 vs = L2.wipe σ vs ∧ tt σ2 H2 fun b H3 =>
    if b = true then te σ2 H3 fun y H4 => ∃ (c : Addr) (k : List Int) (L : List (Addr × List Int)), y = .ref c ∧ SqT X.K H4 c (k.map V.int) ∧ H4 D = some (SetTO X.prog X.w D L) ∧ (∀ p ∈ L, SqT X.K H4 p.1 (p.2.map V.int)) ∧ L.length + 1 < 64 ∧
      ∀ L', (k ∈ L.map (·.2) → L' = L) → (k ∉ L.map (·.2) → L'.Perm ((c, k) :: L)) → Nx (upd H4 D (SetTO X.prog X.w D L'))
    else Nx H3)
section
variable {X : Cx}
theorem st_core {pins : List (Addr × Obj)} {s : Shared} {σ : L2.St} {H : Hp} {Q : VK} {elt tg iter : Expr} {ifs : List Expr} {scope : Scope} {own : List (PySem.Str × Nat)} {pos pos' : Pos} {wi : TI} {g : TG} {tt : TT} {te : TE} {use : Option (Value → Sem Unit)} {Qf : Value → Shared → Prop}
    (hc : X.calm = true) (hu : X.A.units + 64 < cLine) (hN : X.N.Nodup) (I : Inv X pins σ H s) (hi : PI X tg iter wi) (ok : BlkOk X.N X.env.scope scope own)
    (hg : ∀ (s : Shared) (H : Hp) (C : Addr) (cl : List (PySem.Str × Addr)) (fp : List Addr), PG (X.blk s H scope (compEnvC scope cl C X.env) fp) tg g)
    (ht : ∀ (s : Shared) (H : Hp) (C : Addr) (cl : List (PySem.Str × Addr)) (fp : List Addr), PTs (X.blk s H scope (compEnvC scope cl C X.env) fp) ifs tt)
    (he : ∀ (s : Shared) (H : Hp) (C : Addr) (cl : List (PySem.Str × Addr)) (fp : List Addr), PE (X.blk s H scope (compEnvC scope cl C X.env) fp) elt te) (hs : ∀ x, foldedSetIterable iter X.env x = pure x)
    (h : tSt X wi g tt te (own.map (·.2)) σ H Q)
    (back : ∀ D C s' m H', Inv X pins σ H' s' → Q (.ref D) H' → s'.heap.Ns C m → FpOk X pins H' C → compPost (model X.prog X.w) X.A X.xe use Qf (.ref D) C (.ok .next) s') :
    wpAny (model X.prog X.w) X.A (comprehension (.SetComp elt [⟨tg, iter, ifs, 0⟩] scope pos) scope X.env pos' (newSet (.type "set")) false (eval iter X.env) use) Qf X.xe s := by
  have frees : ∀ y ∈ scope.names, y.2 = .free → ∃ c, X.env.cells.lookup y.1 = some c := fun y hy e => (ok.free y hy e).elim (fun k => I.ok.has _ (.inl k)) fun k => I.ok.has _ (.inr k)
  refine wpAny_comprehension_free (use := use) rfl hs (closure_ok frees) ok.kind (fun y hy e => by rw [ok.uniq y hy, e]) (thn (hi.run pins s σ H _ I h) fun xv s1 hx => thn hx fun itv s2 h2 => ?_)
  obtain ⟨it, fp, tn, J, H2, rfl, I2, T, st2, f2, q⟩ := h2
  refine newSet_ok (newEnv_comp ?_)
  obtain ⟨D, hD⟩ : ∃ D, D = s2.heap.objs.size := ⟨_, rfl⟩
  have hDn : H2 D = none := I2.hok.fresh (Nat.le_of_eq hD.symm)
  obtain ⟨W, ⟨m0, w0⟩, turn⟩ := q D hDn
  rw [← hD]
  have old : ∀ b o, s2.heap.get? b = some o → (s2.heap.push { cls := .type "set", dict := none, data := .set #[] 0 (.fresh 0 0 (!X.w.params.followText "set-order")) }).get? b = some o := fun b o e => Heap.get?_push_of_some _ e
  have born : (s2.heap.push { cls := .type "set", dict := none, data := .set #[] 0 (.fresh 0 0 (!X.w.params.followText "set-order")) }).get? D = some { cls := .type "set", dict := none, data := .set #[] 0 (.fresh 0 0 (!X.w.params.followText "set-order")) } := by rw [hD]; exact Heap.get?_push_size _ rfl
  have size3 : (s2.heap.push { cls := .type "set", dict := none, data := .set #[] 0 (.fresh 0 0 (!X.w.params.followText "set-order")) }).objs.size = s2.heap.objs.size + 1 := by rw [Heap.size_push]
  generalize s2.heap.push { cls := .type "set", dict := none, data := .set #[] 0 (.fresh 0 0 (!X.w.params.followText "set-order")) } = h3 at old born size3 ⊢
  obtain ⟨s3, es3⟩ : ∃ s3 : Shared, s3 = { s2 with heap := h3 } := ⟨_, rfl⟩
  have e3 : s3.heap = h3 := by rw [es3]
  have I3 : Inv X pins σ (upd H2 D (SetTO X.prog X.w D [])) s3 := by
    rw [es3]
    exact I2.laid (t' := s2.toks) old (Nat.le_of_eq hD.symm) (setTO_new (setTR_fresh born).t0)
  have young : ∀ b ∈ fp, b < s2.heap.objs.size := fun b hb => let ⟨o, e, _⟩ := T.obj _ _ st2 b hb; Heap.lt_size e
  have f3 : ∀ b ∈ fp, FpOk X pins (upd H2 D (SetTO X.prog X.w D [])) b ∧ b < s3.heap.objs.size := fun b hb => by
    have lt := young b hb
    refine ⟨⟨?_, (f2 b hb).2⟩, by rw [e3, size3]; exact Nat.lt_succ_of_lt lt⟩
    rw [upd_ne (by rw [hD]; exact Nat.ne_of_lt lt)]
    exact (f2 b hb).1
  have st3 : tn 0 s3.heap := T.keep _ _ _ st2 fun b _ o e => by rw [e3]; exact old b o e
  obtain ⟨H3, eH3⟩ : ∃ H3, H3 = upd H2 D (SetTO X.prog X.w D []) := ⟨_, rfl⟩
  rw [← eH3] at I3 f3 w0
  have I4 := block_start I3 ok hN f3
  have pg := hg s3 H3 s3.heap.objs.size (cellsFrom (s3.heap.objs.size + 1) scope.names (cloFrom X.env.cells scope.names [])) fp
  have pt := ht s3 H3 s3.heap.objs.size (cellsFrom (s3.heap.objs.size + 1) scope.names (cloFrom X.env.cells scope.names [])) fp
  have pe := he s3 H3 s3.heap.objs.size (cellsFrom (s3.heap.objs.size + 1) scope.names (cloFrom X.env.cells scope.names [])) fp
  have nfp : ∀ b ∈ fp, H3 b = none := fun b hb => (f3 b hb).1.1
  have entry : ∀ (P : Prop), (codeAny (model X.prog X.w) X.A (.compStart (.SetComp elt [⟨tg, iter, ifs, 0⟩] scope pos) 0 (.ref it) (.ref D) (compEnvC scope (cellsFrom (s3.heap.objs.size + 1) scope.names (cloFrom X.env.cells scope.names [])) s3.heap.objs.size X.env)) (compPost (model X.prog X.w) X.A X.xe use Qf (.ref D) s3.heap.objs.size) { s3 with heap := pushCells (s3.heap.push { cls := .type "dict", data := .dict #[] }) scope.names } → P) → (codeAny (model X.prog X.w) X.A (.compStart (.SetComp elt [⟨tg, iter, ifs, 0⟩] scope pos) 0 (.ref it) (.ref D) (compEnvC scope (cellsFrom (s3.heap.objs.size + 1) scope.names (cloFrom X.env.cells scope.names [])) s3.heap.objs.size X.env)) (compPost (model X.prog X.w) X.A X.xe use Qf (.ref D) s3.heap.objs.size) { s3 with heap := pushCells (s3.heap.push { cls := .type "dict", data := .dict #[] }) scope.names }) → P := fun P f x => f x
  refine entry _ (fun x => ?_) ?_
  · rw [es3] at x
    exact x
  clear entry
  generalize hce : compEnvC scope (cellsFrom (s3.heap.objs.size + 1) scope.names (cloFrom X.env.cells scope.names [])) s3.heap.objs.size X.env = ce at I4 pg pt pe ⊢
  have cL : ce.locals = s3.heap.objs.size := by rw [← hce]; rfl
  generalize hs4 : ({ s3 with heap := pushCells (s3.heap.push { cls := .type "dict", data := .dict #[] }) scope.names } : Shared) = s4 at I4 ⊢
  have st4 : tn 0 s4.heap := T.keep _ _ _ st3 fun b _ o e => by rw [← hs4]; exact pushCells_keeps _ _ _ _ (Heap.get?_push_of_some _ e)
  have stay : ∀ {σ' : L2.St} {H' : Hp} {s' : Shared}, Inv (X.blk s3 H3 scope ce fp) [] σ' H' s' → (∀ b ∈ fp, H' b = none) → ∀ b ∈ fp, FpOk (X.blk s3 H3 scope ce fp) [] H' b := fun {σ' H' s'} J hn b hb =>
    ⟨hn b hb, (J.ok.exf b hb).1, J.ok.exfs b hb, .inl hb, fun x c e => (J.ok.exf b hb).2 x c e, fun p hp => by cases hp⟩
  have loop : codeAny (model X.prog X.w) X.A (.compLoop (.SetComp elt [⟨tg, iter, ifs, 0⟩] scope pos) 0 (.ref it) (.ref D) ce) (compPost (model X.prog X.w) X.A X.xe use Qf (.ref D) s3.heap.objs.size) s4 := by
    refine compLoopS_any (fun n z => ∃ i H', Inv (X.blk s3 H3 scope ce fp) [] (L2.wipe σ (own.map (·.2))) H' z ∧ tn i z.heap ∧ (∀ b ∈ fp, H' b = none) ∧ W i n H') ?_ m0 ⟨0, H3, I4, st4, nfp, w0⟩
    rintro n s5 ⟨i, H5, I5, st5, n5, w5⟩
    rcases turn i n H5 w5 with ⟨stop, qq⟩ | ⟨go, Nx, hNx, step⟩
    · refine thnF (T.done (X.blk s3 H3 scope ce fp) rfl rfl rfl hc i [] s5 _ H5 (fun _ _ => False) I5 (stay I5 n5) st5 stop) fun r s6 ⟨hr, I6⟩ => ?_
      cases hr
      have I7 : Inv X pins σ H5 s6 := I3.call' (ch := fp) I6.os I6.base I6.hok I6.bare fun b hb => ⟨(f3 b hb).1.2.2.2.1, (f3 b hb).1.2.1, (f3 b hb).1.2.2.2.2.1, (f3 b hb).1.2.2.2.2.2⟩
      have free : H5 ce.locals = none := I6.free
      obtain ⟨m, hn, _⟩ := I6.loc
      have hn' : s6.heap.Ns ce.locals m := hn
      rw [cL] at free hn'
      exact back D s3.heap.objs.size s6 m H5 I7 qq hn' (I3.fpOk (Nat.le_refl _) free)
    · refine thnF (T.item (X.blk s3 H3 scope ce fp) rfl rfl rfl hc i [] s5 _ H5 (fun _ _ => False) I5 (stay I5 n5) st5 go) fun r s6 ⟨u, hr, h6⟩ => ?_
      cases hr
      refine thnF h6 fun _ s7 ⟨x, H7, I7, r7, y7, st7, n7⟩ => ?_
      refine thnF (pg.run _ s7 _ H7 x u _ (I7.pinned (stay I7 n7) (T.obj _ _ st7)) r7 (step x H7 y7)) fun _ s8 ⟨σ8, H8, I8, hw8, q8⟩ => ?_
      refine thnF (pt.run _ s8 σ8 H8 _ I8 q8) fun b s9 ⟨H9, I9, q9⟩ => ?_
      have last : ∀ {z : Shared} {H' : Hp}, Inv (X.blk s3 H3 scope ce fp) ([] ++ pinsAt fp s7.heap) σ8 H' z → Nx H' → ∃ m, m < n ∧ ∃ i H', Inv (X.blk s3 H3 scope ce fp) [] (L2.wipe σ (own.map (·.2))) H' z ∧ tn i z.heap ∧ (∀ b ∈ fp, H' b = none) ∧ W i m H' := fun {z H'} J nx => by
        obtain ⟨m', hm, w'⟩ := hNx H' nx
        have pin : ∀ b ∈ fp, ∀ o, s7.heap.get? b = some o → z.heap.get? b = some o ∧ H' b = none := fun b hb o e => by
          have y := J.pin (b, o) (List.mem_append_right _ (List.mem_append_right _ (mem_pinsAt hb e)))
          exact ⟨y.1, y.2.1⟩
        have len : (L2.wipe σ (own.map (·.2))).length = σ8.length := by rw [← hw8, wipe_length]
        refine ⟨m', hm, i + 1, H', (J.unpinned (pins := [])).weak len (fun j v e => by rw [← hw8] at e; exact (wipe_some e).1), T.keep _ _ _ st7 fun b hb o e => (pin b hb o e).1, fun b hb => ?_, w'⟩
        obtain ⟨o, e, _⟩ := T.obj _ _ st7 b hb
        exact (pin b hb o e).2
      cases b with
      | false =>
        simp only [Bool.false_eq_true, if_false] at q9 ⊢
        exact last I9 q9
      | true =>
        simp only [if_true] at q9 ⊢
        refine thnF (pe.run _ s9 σ8 H9 _ I9 q9) fun z s10 ⟨yv, H10, I10, r10, c, k, L, ey, hk, hD10, hL, few, nx⟩ => ?_
        subst ey
        cases (show z = Value.ref c from r10)
        exact addT (X := X.blk s3 H3 scope ce fp) I10 hD10 hk hL hu few fun L' s11 c1 c2 I11 => last I11 (nx L' c1 c2)
  exact codeAny_compStart_set loop (T.self X.A 0 _ _ _ st4 loop)
theorem pe_st {elt tg iter : Expr} {ifs : List Expr} {scope : Scope} {own : List (PySem.Str × Nat)} {pos : Pos} {wi : TI} {g : TG} {tt : TT} {te : TE} (hc : X.calm = true) (hu : X.A.units + 64 < cLine) (hN : X.N.Nodup) (hi : PI X tg iter wi) (ok : BlkOk X.N X.env.scope scope own)
    (hg : ∀ (s : Shared) (H : Hp) (C : Addr) (cl : List (PySem.Str × Addr)) (fp : List Addr), PG (X.blk s H scope (compEnvC scope cl C X.env) fp) tg g)
    (ht : ∀ (s : Shared) (H : Hp) (C : Addr) (cl : List (PySem.Str × Addr)) (fp : List Addr), PTs (X.blk s H scope (compEnvC scope cl C X.env) fp) ifs tt)
    (he : ∀ (s : Shared) (H : Hp) (C : Addr) (cl : List (PySem.Str × Addr)) (fp : List Addr), PE (X.blk s H scope (compEnvC scope cl C X.env) fp) elt te) (hs : ∀ x, foldedSetIterable iter X.env x = pure x := by intro _; rfl) :
    PE X (.SetComp elt [⟨tg, iter, ifs, 0⟩] scope pos) (tSt X wi g tt te (own.map (·.2))) := by
  refine ⟨fun pins s σ H Q I h => ?_⟩
  rw [eval_SetComp]
  refine st_core hc hu hN I hi ok hg ht he hs h fun D C s' m H' J q hn f => ⟨m, hn, fun h'' sb => ?_⟩
  obtain ⟨f0, f1, f2, f3, f4, f5⟩ := f
  exact ⟨.ref D, H', J.turned (t' := s'.toks) (fun b o hb e => (sb.2 b hb).trans e) f0 f1 f3 f4 f5, rfl, q⟩
end
end PL
/-! sorted rows of tuples of whole numbers, as data -/
namespace PL
open PySem PySem.Spec PyProof.Rows L2 PLS
abbrev tD (k : List Int) : D := .tuple (k.map PyData.int)
def isI : D → Bool
  | .int _ => true
  | _ => false
def iD : D → Int
  | .int i => i
  | _ => 0
/-- a tuple of whole numbers, not empty -/
def isTD : D → Bool
  | .tuple ds => ds.all isI && !ds.isEmpty
  | _ => false
def bkD : D → List Int
  | .tuple ds => ds.map iD
  | _ => []
theorem iD_back : ∀ {ds : List D}, ds.all isI = true → (ds.map iD).map PyData.int = ds
  | [], _ => rfl
  | d :: ds, h => by
    rw [List.all_cons, Bool.and_eq_true] at h
    rw [List.map_cons, List.map_cons, iD_back h.2]
    cases d <;> first | rfl | cases h.1
theorem tD_of {d : D} (h : isTD d = true) : d = tD (bkD d) ∧ bkD d ≠ [] := by
  cases d <;> first | cases h | skip
  rename_i ds
  unfold isTD at h
  rw [Bool.and_eq_true] at h
  refine ⟨?_, fun z => ?_⟩
  · show PyData.tuple ds = PyData.tuple ((ds.map iD).map PyData.int)
    rw [iD_back h.1]
  · have : ds = [] := List.map_eq_nil_iff.mp z
    subst this
    cases h.2
theorem iD_fro (k : List Int) : (k.map PyData.int).map iD = k := by
  rw [List.map_map]
  have : iD ∘ PyData.int = id := rfl
  rw [this, List.map_id]
theorem bk_tD (k : List Int) : bkD (tD k) = k := iD_fro k
/-! the sorted row -/
def insS (k : List Int) : List (List Int) → List (List Int)
  | [] => [k]
  | y :: ys => if lexL y k = true then y :: insS k ys else k :: y :: ys
def sortS : List (List Int) → List (List Int)
  | [] => []
  | k :: ks => insS k (sortS ks)
def uniqS : List (List Int) → List (List Int)
  | [] => []
  | k :: ks => if k ∈ ks then uniqS ks else k :: uniqS ks
theorem ins_perm (k : List Int) : ∀ ks, (insS k ks).Perm (k :: ks)
  | [] => .refl _
  | y :: ys => by
    unfold insS
    split
    · exact ((ins_perm k ys).cons y).trans (.swap _ _ _)
    · exact .refl _
theorem sort_perm : ∀ ks, (sortS ks).Perm ks
  | [] => .refl _
  | k :: ks => (ins_perm k _).trans ((sort_perm ks).cons k)
abbrev Asc (l : List (List Int)) : Prop := l.Pairwise fun x y => lexL y x = false
theorem ins_asc {k : List Int} : ∀ {ks : List (List Int)}, Asc ks → Asc (insS k ks)
  | [], _ => List.pairwise_singleton _ _
  | y :: ys, h => by
    have h1 := List.pairwise_cons.mp h
    unfold insS
    by_cases q : lexL y k = true
    · rw [if_pos q]
      refine List.pairwise_cons.mpr ⟨fun z hz => ?_, ins_asc h1.2⟩
      rcases List.mem_cons.mp ((ins_perm k ys).mem_iff.mp hz) with e | e
      · subst e; exact lexL_asym q
      · exact h1.1 z e
    · rw [if_neg q]
      refine List.pairwise_cons.mpr ⟨fun z hz => ?_, h⟩
      have q' : lexL y k = false := by cases z2 : lexL y k <;> first | rfl | exact absurd z2 q
      rcases List.mem_cons.mp hz with e | e
      · subst e; exact q'
      · cases q2 : lexL z k with
        | false => rfl
        | true =>
          have a := h1.1 z e
          rcases lexL_tri y k with b | b | b
          · exact absurd b q
          · subst b; rw [a] at q2; cases q2
          · have := lexL_tr _ _ _ q2 b
            rw [a] at this; cases this
theorem sort_asc : ∀ ks, Asc (sortS ks)
  | [] => .nil
  | k :: ks => ins_asc (sort_asc ks)
theorem asc_unique : ∀ {l m : List (List Int)}, l.Perm m → Asc l → Asc m → l = m
  | [], m, p, _, _ => by rw [List.nil_perm.mp p]
  | x :: l, [], p, _, _ => absurd p.length_eq (by simp)
  | x :: l, y :: m, p, h1, h2 => by
    have a := List.pairwise_cons.mp h1
    have b := List.pairwise_cons.mp h2
    have e : x = y := by
      rcases List.mem_cons.mp (p.mem_iff.mp List.mem_cons_self) with e | e
      · exact e
      · rcases List.mem_cons.mp (p.mem_iff.mpr (List.mem_cons_self (a := y))) with e' | e'
        · exact e'.symm
        · have c := b.1 x e
          have d := a.1 y e'
          rcases lexL_tri x y with z | z | z
          · rw [c] at z; cases z
          · exact z
          · rw [d] at z; cases z
    subst e
    rw [asc_unique ((List.perm_cons x).mp p) a.2 b.2]
theorem uniq_mem {k : List Int} : ∀ {ks : List (List Int)}, k ∈ uniqS ks ↔ k ∈ ks
  | [] => .rfl
  | x :: ks => by
    unfold uniqS
    by_cases q : x ∈ ks
    · rw [if_pos q, uniq_mem, List.mem_cons]
      exact ⟨.inr, fun z => z.elim (fun e => by rw [e]; exact q) id⟩
    · rw [if_neg q, List.mem_cons, List.mem_cons, uniq_mem]
theorem uniq_nodup : ∀ ks : List (List Int), (uniqS ks).Nodup
  | [] => .nil
  | x :: ks => by
    unfold uniqS
    by_cases q : x ∈ ks
    · rw [if_pos q]; exact uniq_nodup ks
    · rw [if_neg q]
      exact List.nodup_cons.mpr ⟨fun z => q (uniq_mem.mp z), uniq_nodup ks⟩
/-- sorted(xs) -/
def srtD (ds : List D) : Option (List D) := if ds.all isTD = true ∧ ds.length ≤ sizeLine then some ((sortS (ds.map bkD)).map tD) else none
/-- sorted(set(xs)) -/
def srtU (ds : List D) : Option (List D) := if ds.all isTD = true ∧ ds.length < 64 then some ((sortS (uniqS (ds.map bkD))).map tD) else none
theorem DpAll.perm {K : PySem.W.Frag} {G : Hp} : ∀ {xs ys : List V}, ys.Perm xs → ∀ {ds : List D}, DpAll K G xs ds → ∃ es : List D, es.Perm ds ∧ DpAll K G ys es := by
  intro xs ys p
  induction p with
  | nil => exact fun h => ⟨_, .refl _, h⟩
  | cons x p ih =>
    intro ds h
    cases h with
    | cons a t =>
      obtain ⟨es, q, r⟩ := ih t
      exact ⟨_, q.cons _, .cons a r⟩
  | swap x y l =>
    intro ds h
    cases h with
    | cons a t => cases t with
      | cons b t => exact ⟨_, .swap _ _ _, .cons b (.cons a t)⟩
  | trans p1 p2 ih1 ih2 =>
    intro ds h
    obtain ⟨es, q, r⟩ := ih2 h
    obtain ⟨fs, q2, r2⟩ := ih1 r
    exact ⟨fs, q2.trans q, r2⟩
theorem ints_ofK {k : List Int} : intsOf (k.map PyData.int) = some k := by
  induction k with
  | nil => rfl
  | cons x k ih =>
    show (intsOf (k.map PyData.int)).map (x :: ·) = _
    rw [ih]
    rfl
theorem tup_ints {K : PySem.W.Frag} {G : Hp} {x : V} {k : List Int} (h : Dp K G x (tD k)) : ∃ t, x = .ref t ∧ SqT K G t (k.map V.int) := by
  cases h with
  | tup a b =>
    have e := ints_of b ints_ofK
    subst e
    exact ⟨_, rfl, a⟩
theorem dp_ints {K : PySem.W.Frag} {G : Hp} : ∀ k : List Int, DpAll K G (k.map V.int) (k.map PyData.int)
  | [] => .nil
  | x :: k => .cons (.int x) (dp_ints k)
theorem tup_dp {K : PySem.W.Frag} {G : Hp} {t : Addr} {k : List Int} (h : SqT K G t (k.map V.int)) : Dp K G (.ref t) (tD k) := .tup h (dp_ints k)
theorem all_back {ds : List D} (h : ds.all isTD = true) : ds = (ds.map bkD).map tD := by
  rw [List.map_map]
  have : ∀ d ∈ ds, (tD ∘ bkD) d = d := fun d hd => (tD_of (List.all_eq_true.mp h d hd)).1.symm
  rw [List.map_congr_left this, List.map_id'']
  intro d; rfl
section
variable {X : Cx} {pos : Pos}
def mSrt (F : M (List D)) (g : List D → Option (List D)) : M (List D) := mThen F fun ds => mLift (g ds)
/-- sorted(xs), xs data -/
def mSrtD (f : M D) : M (List D) := mThen f fun x => match x with
  | .list ds => mLift (srtD ds)
  | _ => fun _ _ => none
theorem P.srt {e : Expr} {f : M D} {p : Pos} (he : PE X e (tP X.K f)) (hg : Gl X "sorted") (hm : X.mg "sorted" = none) (hb : bootBuiltins "sorted" = some (.builtin "sorted") := by decide +kernel) (hs : starEach [e] X.env = (false, eval e X.env) :: starEach [] X.env := by rfl) (hpl : (backTo pos (starEach [] X.env)).any (·.1) = false := by rfl) :
    PE X (.Call (.Name "sorted" p) [e] [] pos) (tL X.K (mSrtD f)) := by
  refine peI (pe_callB cr_srt hg hm hb (pa_cons he pa_nil hs) (by decide) (by decide) hs hpl) fun σ H Q ⟨sk, G, ρ, s, ds, s', w, r, e, k⟩ => ?_
  obtain ⟨a, s1, q1, q⟩ := mThen_some e
  refine P.then w r q1 fun v G1 H1 w1 x1 r1 qv => ?_
  cases a with
  | list es =>
    obtain ⟨q2, rfl⟩ := mLift_some q
    unfold srtD at q2
    split at q2
    · rename_i hd
      cases q2
      obtain ⟨a, xs, rfl, h1, h2⟩ := Dp.lst_of qv
      have back := all_back hd.1
      have each : ∀ x ∈ xs, ∃ k, k ≠ [] ∧ Dp X.K G1 x (tD k) ∧ k ∈ es.map bkD := fun x hx => by
        obtain ⟨i, hi⟩ := List.getElem?_of_mem hx
        obtain ⟨d, hd1, hd2⟩ := DpAll.get' h2 hi
        have hm := List.mem_of_getElem? hd1
        obtain ⟨e1, e2⟩ := tD_of (List.all_eq_true.mp hd.1 d hm)
        exact ⟨bkD d, e2, by rw [← e1]; exact hd2, List.mem_map.mpr ⟨d, hm, rfl⟩⟩
      refine ⟨a, xs, rfl, SqL.up w1.sub h1, fun x hx => ?_, fun ys p pm pw hp => ?_⟩
      · obtain ⟨k, k0, kd, _⟩ := each x hx
        obtain ⟨t, rfl, ht⟩ := tup_ints kd
        exact ⟨k, ⟨t, rfl, SqT.up w1.sub ht⟩, k0⟩
      · obtain ⟨fs, pf, df⟩ := DpAll.perm pm h2
        have nsk : sk ≠ some p := fun z => by
          obtain ⟨_, ws, h6, _⟩ := w1.sack p z
          rw [h6] at hp; cases hp
        have gp : G1 p = none := by
          cases q : G1 p with
          | none => rfl
          | some u => rw [w1.sub p u q] at hp; cases hp
        have allf : fs.all isTD = true := List.all_eq_true.mpr fun d hd2 => List.all_eq_true.mp hd.1 d (pf.mem_iff.mp hd2)
        have ef : (sortS (es.map bkD)).map tD = fs := by
          rw [all_back allf]
          congr 1
          refine asc_unique ((sort_perm _).trans (pf.map bkD).symm) (sort_asc _) ?_
          refine List.pairwise_map.mpr ?_
          rw [List.pairwise_iff_getElem]
          intro i j hi hj hij
          have li : i < ys.length := by rw [DpAll.length df]; exact hi
          have lj : j < ys.length := by rw [DpAll.length df]; exact hj
          have z := List.pairwise_iff_getElem.mp pw i j li lj hij
          have gi := DpAll.get df (List.getElem?_eq_getElem hi)
          have gj := DpAll.get df (List.getElem?_eq_getElem hj)
          obtain ⟨vi, ei, di⟩ := gi
          obtain ⟨vj, ej, dj⟩ := gj
          rw [List.getElem?_eq_getElem li] at ei
          rw [List.getElem?_eq_getElem lj] at ej
          cases ei; cases ej
          rw [(tD_of (List.all_eq_true.mp allf _ (List.getElem_mem hi))).1] at di
          rw [(tD_of (List.all_eq_true.mp allf _ (List.getElem_mem hj))).1] at dj
          obtain ⟨t1, e1, h1'⟩ := tup_ints di
          obtain ⟨t2, e2, h2'⟩ := tup_ints dj
          exact z _ _ ⟨t1, e1, SqT.up w1.sub h1'⟩ ⟨t2, e2, SqT.up w1.sub h2'⟩
        rw [ef] at k
        have hpH : H p = none := x1.th p hp
        have hne : ∀ a o, H1 a = some o → a ≠ p := fun a o e z => by rw [z, hp] at e; cases e
        refine k p ys G1 (upd H1 p (.lst ys)) ⟨fun b o e => ?_, fun b e => ?_⟩ ⟨x1.gs, fun b o e n => ?_, x1.nw, fun b e => ?_⟩ hpH nsk upd_same gp df
        · rw [upd_ne (hne b o (w1.sub b o e))]; exact w1.sub b o e
        · obtain ⟨gn, ws, h6, h7⟩ := w1.sack b e
          exact ⟨gn, ws, by rw [upd_ne (hne b _ h6)]; exact h6, h7⟩
        · have z := x1.hs b o e n
          rw [upd_ne (hne b o z)]; exact z
        · by_cases z : b = p
          · subst z; exact hpH
          · rw [upd_ne z] at e; exact x1.th b e
    · cases q2
  | _ => cases q
/-- a new list at p, not among the data -/
theorem vw_new {K : PySem.W.Frag} {sk : Option Addr} {G H G1 H1 : Hp} {s1 : S} {p : Addr} (o : HO) (w1 : Vw K sk G1 H1 s1) (x1 : Ex sk G H G1 H1) (hp : H1 p = none) : sk ≠ some p ∧ G1 p = none ∧ H p = none ∧ Vw K sk G1 (upd H1 p o) s1 ∧ Ex sk G H G1 (upd H1 p o) := by
  have hpH : H p = none := x1.th p hp
  have hne : ∀ a u, H1 a = some u → a ≠ p := fun a u e z => by rw [z, hp] at e; cases e
  refine ⟨fun z => ?_, ?_, hpH, ⟨fun b u e => ?_, fun b e => ?_⟩, ⟨x1.gs, fun b u e n => ?_, x1.nw, fun b e => ?_⟩⟩
  · obtain ⟨_, ws, h6, _⟩ := w1.sack p z
    rw [h6] at hp; cases hp
  · cases q : G1 p with
    | none => rfl
    | some u => rw [w1.sub p u q] at hp; cases hp
  · rw [upd_ne (hne b u (w1.sub b u e))]; exact w1.sub b u e
  · obtain ⟨gn, ws, h6, h7⟩ := w1.sack b e
    exact ⟨gn, ws, by rw [upd_ne (hne b _ h6)]; exact h6, h7⟩
  · have z := x1.hs b u e n
    rw [upd_ne (hne b u z)]; exact z
  · by_cases z : b = p
    · subst z; exact hpH
    · rw [upd_ne z] at e; exact x1.th b e
theorem dp_rows {K : PySem.W.Frag} {G : Hp} : ∀ {L : List (Addr × List Int)}, (∀ p ∈ L, SqT K G p.1 (p.2.map V.int)) → DpAll K G (L.map fun q => V.ref q.1) ((L.map (·.2)).map tD)
  | [], _ => .nil
  | p :: L, h => .cons (tup_dp (h p List.mem_cons_self)) (dp_rows fun q hq => h q (List.mem_cons_of_mem _ hq))
theorem rows_sorted {L' L : List (Addr × List Int)} {ks : List (List Int)} (pm : L'.Perm L) (nd : (L.map (·.2)).Nodup) (hk : ∀ k, k ∈ L.map (·.2) ↔ k ∈ ks) (pw : L'.Pairwise (fun q r => lexL r.2 q.2 = false)) : L'.map (·.2) = sortS (uniqS ks) := by
  refine asc_unique ((pm.map (·.2)).trans (((List.perm_ext_iff_of_nodup nd (uniq_nodup ks)).mpr fun k => ?_).trans (sort_perm _).symm)) (List.pairwise_map.mpr pw) (sort_asc _)
  rw [hk, uniq_mem]
/-- sorted of the set at a -/
theorem srtS_at {sk : Option Addr} {G H G1 H1 : Hp} {s1 : S} {a : Addr} {L : List (Addr × List Int)} {ks : List (List Int)} {Q : VK} (w1 : Vw X.K sk G1 H1 s1) (x1 : Ex sk G H G1 H1) (ha : H1 a = some (SetTO X.prog X.w a L)) (hL : ∀ p ∈ L, SqT X.K G1 p.1 (p.2.map V.int) ∧ p.2 ≠ [])
    (hk : ∀ k, k ∈ L.map (·.2) ↔ k ∈ ks)
    (k : ∀ p vs G' H', Vw X.K sk G' H' s1 → Ex sk G H G' H' → H p = none → sk ≠ some p → H' p = some (.lst vs) → G' p = none → DpAll X.K G' vs ((sortS (uniqS ks)).map tD) → Q (.ref p) H') : rSrtS X.K X.prog X.w [.ref a] H1 Q := by
  refine ⟨a, L, rfl, ha, fun p hp => ⟨SqT.up w1.sub (hL p hp).1, (hL p hp).2⟩, fun L' p pm nd pw hp => ?_⟩
  obtain ⟨n1, n2, n3, n4, n5⟩ := vw_new (.lst (L'.map fun q => V.ref q.1)) w1 x1 hp
  refine k p _ G1 _ n4 n5 n3 n1 upd_same n2 ?_
  rw [← rows_sorted pm nd hk pw]
  exact dp_rows fun q hq => (hL q (pm.mem_iff.mp hq)).1
theorem tSt_of {it : M (List D)} {vs : List Nat} {p : Pat} {fc : M Bool} {f : M D} (hv : ∀ i ∈ slo p, i ∈ vs) {σ : L2.St} {H : Hp} {Q : VK}
    (t : tL X.K (mSrt (mLc it vs p fc f) srtU) σ H Q) : tSt X (tIE X.K it) (tG X.K p) (tQ X.K fc) (tP X.K f) vs σ H fun v H' => rSrtS X.K X.prog X.w [v] H' Q := by
  obtain ⟨sk, G, ρ, s, ds', s', w, r, e0, k⟩ := t
  obtain ⟨ds, s2, e, eu⟩ := mThen_some e0
  obtain ⟨eu, rfl⟩ := mLift_some eu
  unfold srtU at eu
  split at eu
  · rename_i hd
    cases eu
    obtain ⟨hd, h64⟩ := hd
    unfold mLc at e
    split at e
    · rename_i xs s1 e1
      split at e
      · rename_i hsz
        refine ⟨sk, G, ρ, s, xs, s1, w, r, e1, fun J G1 H1 w1 x1 y L hL => ?_⟩
        obtain ⟨nL, gL, _, w1', x1'⟩ := vw_new (SetTO X.prog X.w L []) w1 (Ex.refl (sk := sk) (G := G1) (H := H1)) hL
        refine ⟨fun i m H => m = xs.length - i ∧ i ≤ xs.length ∧ ∃ G t rows ad es, Vw X.K sk G H t ∧ Ex sk G1 H1 G H ∧ H L = some (SetTO X.prog X.w L rows) ∧ G L = none ∧ rows.length ≤ ad.length ∧ (∀ p ∈ rows, SqT X.K G p.1 (p.2.map V.int) ∧ p.2 ≠ []) ∧ (∀ k, k ∈ rows.map (·.2) ↔ k ∈ ad.map bkD) ∧ lcGo p fc f (wipeE ρ vs) (xs.drop i) t = some (es, s') ∧ ds = ad ++ es,
          ⟨_, rfl, Nat.zero_le _, G1, s1, [], [], ds, w1', x1', upd_same, gL, Nat.le_refl _, (fun p hp => by cases hp), (fun k => by simp), e, rfl⟩, ?_⟩
        rintro i m H2 ⟨rfl, hi, G2, t2, rows, ad, es, w2, x2, hl2, gl2, al, dr, da, e2, rfl⟩
        by_cases hlt : i < xs.length
        · right
          rw [List.drop_eq_getElem_cons hlt] at e2
          have hx : xs[i]? = some xs[i] := List.getElem?_eq_getElem hlt
          obtain ⟨go, yl⟩ := y.item G2 H2 x2 w2.sub i _ hx
          refine ⟨go, fun H' => ∃ G t rows ad' es', Vw X.K sk G H' t ∧ Ex sk G1 H1 G H' ∧ H' L = some (SetTO X.prog X.w L rows) ∧ G L = none ∧ rows.length ≤ ad'.length ∧ (∀ p ∈ rows, SqT X.K G p.1 (p.2.map V.int) ∧ p.2 ≠ []) ∧ (∀ k, k ∈ rows.map (·.2) ↔ k ∈ ad'.map bkD) ∧ lcGo p fc f (wipeE ρ vs) (xs.drop (i + 1)) t = some (es', s') ∧ ad ++ es = ad' ++ es', fun H' q => ⟨_, by omega, rfl, hlt, q⟩, fun v H3 yv => ?_⟩
          obtain ⟨G3, g3, d3⟩ := yl v H3 yv
          unfold lcGo at e2
          split at e2
          · cases e2
          · rename_i ρ3 t3 e3
            have e3' : ER X.K sk G3 H3 (L2.wipe σ vs) (wipeE ρ vs) := (((r.ex x1).ex x2).ex (g3.ex sk)).wipe vs
            obtain ⟨Hb, r3⟩ := SR.init (g3.vw w2) e3'
            refine ⟨sk, G3, Hb, G3, _, t2, xs[i], ρ3, t3, r3, .inl d3, e3, fun σ4 G4 H4 x4 of4 r4 => ⟨?_, ?_⟩⟩
            · exact wipe_off hv of4 (by rw [r4.er.len, ← bnd_len e3, ← e3'.len])
            have x14 : Ex sk G1 H1 G4 H4 := (x2.trans (g3.ex sk)).trans x4
            have x24 : Ex sk G2 H2 G4 H4 := (g3.ex sk).trans x4
            have hl4 : H4 L = some (SetTO X.prog X.w L rows) := x24.hs L _ hl2 nL
            have gl4 : G4 L = none := x24.free hl2 gl2
            cases q : fc ρ3 t3 with
            | none => simp only [q] at e2; cases e2
            | some b =>
              obtain ⟨b, t5⟩ := b
              simp only [q] at e2
              refine ⟨sk, G4, ρ3, t3, b, t5, r4.vw, r4.er, q, fun G5 H5 w5 x5 => ?_⟩
              have x45 := x24.trans x5
              have up5 : ∀ p ∈ rows, SqT X.K G5 p.1 (p.2.map V.int) ∧ p.2 ≠ [] := fun p hp => ⟨SqT.up x45.gs (dr p hp).1, (dr p hp).2⟩
              cases b with
              | false =>
                show (if false = true then _ else _)
                rw [if_neg Bool.false_ne_true]
                exact ⟨G5, t5, rows, ad, es, w5, x14.trans x5, x5.hs L _ hl4 nL, x5.free hl4 gl4, al, up5, da, e2, rfl⟩
              | true =>
                show (if true = true then _ else _)
                rw [if_pos rfl]
                cases q6 : f ρ3 t5 with
                | none => simp only [q6] at e2; cases e2
                | some r6 =>
                  obtain ⟨d6, t6⟩ := r6
                  simp only [q6] at e2
                  split at e2
                  · rename_i hd6
                    split at e2
                    · rename_i es7 t7 e7
                      cases e2
                      refine ⟨sk, G5, ρ3, t5, d6, t6, w5, r4.er.ex x5, q6, fun y6 G6 H6 w6 x6 q7 => ?_⟩
                      have x56 := x5.trans x6
                      have x16 := x14.trans x56
                      have hl6 : H6 L = some (SetTO X.prog X.w L rows) := x56.hs L _ hl4 nL
                      have gl6 : G6 L = none := x56.free hl4 gl4
                      have td : isTD d6 = true := List.all_eq_true.mp hd d6 (by simp)
                      obtain ⟨ed6, nd6⟩ := tD_of td
                      have q8 : Dp X.K G6 y6 (tD (bkD d6)) := by rw [← ed6]; exact q7.dp hd6
                      obtain ⟨c, rfl, hcT⟩ := tup_ints q8
                      have up6 : ∀ p ∈ rows, SqT X.K G6 p.1 (p.2.map V.int) ∧ p.2 ≠ [] := fun p hp => ⟨SqT.up x6.gs (up5 p hp).1, (up5 p hp).2⟩
                      have lens : rows.length + 1 < 64 := by
                        have : (ad ++ d6 :: es7).length < 64 := h64
                        rw [List.length_append, List.length_cons] at this
                        omega
                      refine ⟨c, bkD d6, rows, rfl, SqT.up w6.sub hcT, hl6, fun p hp => SqT.up w6.sub (up6 p hp).1, lens, fun rows' c1 c2 => ?_⟩
                      have ups : ∀ b u, H6 b = some u → b ≠ L → upd H6 L (SetTO X.prog X.w L rows') b = some u := fun b u e n => by rw [upd_ne n]; exact e
                      have w8 : Vw X.K sk G6 (upd H6 L (SetTO X.prog X.w L rows')) t6 := ⟨fun a o e => ups a o (w6.sub a o e) fun z => (by subst z; rw [gl6] at e; cases e), fun a e => by
                        obtain ⟨gn, ws, h6, h7⟩ := w6.sack a e
                        exact ⟨gn, ws, ups a _ h6 fun z => nL (by rw [← z]; exact e), h7⟩⟩
                      have x8 : Ex sk G1 H1 G6 (upd H6 L (SetTO X.prog X.w L rows')) := ⟨x16.gs, fun a o e n => ups a o (x16.hs a o e n) fun z => (by subst z; rw [hL] at e; cases e), x16.nw, fun a e => by
                        by_cases z : a = L
                        · subst z; exact hL
                        · rw [upd_ne z] at e; exact x16.th a e⟩
                      rcases Classical.em (bkD d6 ∈ rows.map (·.2)) with m | m
                      · obtain rfl := c1 m
                        refine ⟨G6, t6, _, ad ++ [d6], es7, w8, x8, upd_same, gl6, by rw [List.length_append]; omega, up6, fun k => ?_, e7, by simp⟩
                        rw [da, List.map_append, List.mem_append]
                        exact ⟨.inl, fun z => z.elim id fun z => by
                          rw [List.map_cons, List.map_nil, List.mem_singleton] at z
                          rw [z]; exact (da _).mp m⟩
                      · have pm := c2 m
                        refine ⟨G6, t6, _, ad ++ [d6], es7, w8, x8, upd_same, gl6, by rw [pm.length_eq, List.length_cons, List.length_append, List.length_singleton]; omega, fun p hp => ?_, fun k => ?_, e7, by simp⟩
                        · rcases List.mem_cons.mp (pm.mem_iff.mp hp) with z | z
                          · subst z; exact ⟨hcT, nd6⟩
                          · exact up6 p z
                        · rw [(pm.map (·.2)).mem_iff, List.map_cons, List.mem_cons, da, List.map_append, List.mem_append, List.map_cons, List.map_nil, List.mem_singleton]
                          exact Or.comm
                    · cases e2
                  · cases e2
        · have hl : i = xs.length := by omega
          subst hl
          left
          rw [List.drop_length] at e2
          cases e2
          refine ⟨y.stop G2 H2 x2 w2.sub, ?_⟩
          refine srtS_at w2 (x1.trans x2) hl2 dr da fun p vs G' H' w' x' h1 h2 h3 h4 h5 => ?_
          rw [List.append_nil] at k
          exact k p vs G' H' w' x' h1 h2 h3 h4 h5
      · cases e
    · cases e
  · cases eu
/-- sorted({elt for target in iter if ..}) -/
theorem P.srtSc {tg elt iter : Expr} {ifs : List Expr} {scope : Scope} {own : List (Str × Nat)} {it : M (List D)} {p : Pat} {fc : M Bool} {f : M D} {np cpos : Pos} (hg0 : Gl X "sorted") (hm0 : X.mg "sorted" = none) (hu : X.A.units + 64 < cLine) (hc : X.calm = true) (hN : X.N.Nodup) (hi : PI X tg iter (tIE X.K it)) (ok : BlkOk X.N X.env.scope scope own) (hv : ∀ i ∈ slo p, i ∈ own.map (·.2))
    (hg : ∀ (s : Shared) (H : Hp) (C : Addr) (cl : List (Str × Addr)) (fp : List Addr), PG (X.blk s H scope (compEnvC scope cl C X.env) fp) tg (tG X.K p)) (ht : ∀ (s : Shared) (H : Hp) (C : Addr) (cl : List (Str × Addr)) (fp : List Addr), PTs (X.blk s H scope (compEnvC scope cl C X.env) fp) ifs (tQ X.K fc))
    (he : ∀ (s : Shared) (H : Hp) (C : Addr) (cl : List (Str × Addr)) (fp : List Addr), PE (X.blk s H scope (compEnvC scope cl C X.env) fp) elt (tP X.K f)) (hs : ∀ x, foldedSetIterable iter X.env x = pure x := by intro _; rfl) (hb : bootBuiltins "sorted" = some (.builtin "sorted") := by decide +kernel)
    (hse : starEach [.SetComp elt [⟨tg, iter, ifs, 0⟩] scope cpos] X.env = (false, eval (.SetComp elt [⟨tg, iter, ifs, 0⟩] scope cpos) X.env) :: starEach [] X.env := by rfl) (hpl : (backTo pos (starEach [] X.env)).any (·.1) = false := by rfl) :
    PE X (.Call (.Name "sorted" np) [.SetComp elt [⟨tg, iter, ifs, 0⟩] scope cpos] [] pos) (tL X.K (mSrt (mLc it (own.map (·.2)) p fc f) srtU)) :=
  peI (pe_callB (cr_srtS hc) hg0 hm0 hb (pa_cons (pe_st hc hu hN hi ok hg ht he hs) pa_nil hse) (by decide) (by decide) hse hpl) fun _ _ _ t => tSt_of hv t
end
end PL
/-! enumerate of a tuple; lcm -/
namespace PL
open PySem PySem.Spec PyProof.Rows L2 PLS
theorem meets_enumT (t : Addr) (items : Array Value) :
    Meets (Builtin.«enumerate.__new__» ⟨[.type "enumerate", .ref t], []⟩) (fun _ R s => s.heap.IsTuple t items ∧
      R (.ok (.ret (.ref (s.heap.push { cls := .type "tuple_iterator", data := .fields #[.ref t, .int 0 0] }).objs.size)))
        { s with heap := (s.heap.push { cls := .type "tuple_iterator", data := .fields #[.ref t, .int 0 0] }).push { cls := .type "enumerate", data := .fields #[.none, .bool false, .ref s.heap.objs.size, rawInt 0, .none, .none] } }) :=
  .of_wp fun prog w A R s h => by
    obtain ⟨hp, g, d, tk, os⟩ := s
    obtain ⟨ht, h⟩ := h
    have hsub := sub_enumerate
    have walks : ∀ {A' : Around} {E : Value → Shared → Prop} {Q : Value → Shared → Prop}, Q (.ref hp.objs.size) ⟨hp.push { cls := .type "tuple_iterator", data := .fields #[.ref t, .int 0 0] }, g, d, tk, os⟩ → wpAny (model prog w) A' (pyIter (.ref t)) Q E ⟨hp, g, d, tk, os⟩ := fun q => wpAny_pyIter_tuple (s := ⟨hp, g, d, tk, os⟩) ht q
    wp_walk using walks
    refine wpAny_stack_any fun st => wpAny_pure ?_
    split
    · rename_i c _ _ _ _ _
      cases (c == Value.type "enumerate") <;> (wp_walk using walks; exact ⟨_, rfl, h⟩)
    · wp_walk using walks
      exact ⟨_, rfl, h⟩
theorem call_enumT {prog : Program} {w : World} {A : Around} {E : Value → Shared → Prop} {s : Shared} {t : Addr} {items : Array Value} {Q : Value → Shared → Prop} (ht : s.heap.IsTuple t items)
    (h : ∀ h', IsEnum h' (s.heap.objs.size + 1) s.heap.objs.size 0 .none → h'.IsTupleIter s.heap.objs.size t 0 → (∀ b o, s.heap.get? b = some o → h'.get? b = some o) → Q (.ref (s.heap.objs.size + 1)) { s with heap := h' }) :
    wpAny (model prog w) A (call (.type "enumerate") [.ref t]) Q E s := by
  refine callType_new F.called_enumerate (by decide) (F.typeCall_enumerate_1 _) (F.newCall_enumerate_1 _) (fun obj => F.args_object_init_2 obj _) F.entry_enumerate_new (meets_enumT t items) ⟨ht, ?_⟩
  obtain ⟨h1, e1⟩ : ∃ h1, h1 = s.heap.push { cls := .type "tuple_iterator", data := .fields #[.ref t, .int 0 0] } := ⟨_, rfl⟩
  rw [← e1]
  have sz : h1.objs.size = s.heap.objs.size + 1 := by rw [e1]; exact Heap.size_push ..
  have it1 : h1.get? s.heap.objs.size = some { cls := .type "tuple_iterator", data := .fields #[.ref t, .int 0 0] } := by rw [e1]; exact Heap.get?_push_size _ rfl
  have old1 : ∀ b o, s.heap.get? b = some o → h1.get? b = some o := fun b o e => by rw [e1]; exact Heap.get?_push_of_some _ e
  have en : IsEnum (h1.push { cls := .type "enumerate", data := .fields #[.none, .bool false, .ref s.heap.objs.size, rawInt 0, .none, .none] }) (s.heap.objs.size + 1) s.heap.objs.size 0 .none := by
    have z := Heap.get?_push_size h1 (o := { cls := .type "enumerate", data := .fields #[.none, .bool false, .ref s.heap.objs.size, rawInt 0, .none, .none] }) rfl
    rw [sz] at z
    exact z
  show _ ∧ _
  rw [sz]
  exact ⟨⟨_, en, rfl⟩, h _ en ⟨_, Heap.get?_push_of_some _ it1, rfl, rfl⟩ fun b o e => Heap.get?_push_of_some _ (old1 b o e)⟩
/-- the tuple at a as it stands, the items with their places in new pairs -/
def IteT (K : PySem.W.Frag) (a : Addr) : It :=
  ⟨fun i H => ∃ (xs : List V) (x : V), SqT K H a xs ∧ xs[i]? = some x, fun i H v H' => ∃ T x, v = .ref T ∧ H T = none ∧ H' = upd H T (.tup [.int (i : Nat), x]) ∧ ∀ xs, SqT K H a xs → xs[i]? = some x, fun i H => ∃ xs : List V, SqT K H a xs ∧ xs.length ≤ i⟩
theorem turn_enumT {P : Program} {w : World} {K : PySem.W.Frag} {elts : List Expr} {kk : Nat} {tpos : Pos} (a e it : Addr) (hne : e ≠ it) (hai : a ≠ it) (hae : e ≠ a) :
    Turn P w K (.Tuple elts kk tpos) (IteT K a) [e, it] e (fun i h => (∃ old, IsEnum h e it ((i : Nat) : Int) old) ∧ h.IsTupleIter it a i) where
  mem := by simp
  obj := fun i h st b hb => by
    obtain ⟨⟨old, he⟩, ⟨o, ho, hc, hd⟩⟩ := st
    rcases (by simpa using hb : b = e ∨ b = it) with rfl | rfl
    · exact ⟨_, he, fun v q => nomatch q⟩
    · exact ⟨o, ho, fun v q => by rw [hd] at q; cases q⟩
  keep := fun i h h' st k => let ⟨⟨old, he⟩, hi⟩ := st; ⟨⟨old, k e (by simp) _ he⟩, hi.at fun o q => k it (by simp) o q⟩
  item := by
    intro X hP hw hK hc i pins s σ H E I hf st hg
    subst hP hw hK
    obtain ⟨⟨old, he⟩, hit⟩ := st
    obtain ⟨xs, x, hq, hx⟩ := hg
    obtain ⟨its, rv, p, hz⟩ := I.tuple hq
    obtain ⟨u, hu, ru⟩ := rv.get hx
    have li : i < its.length := (List.getElem?_eq_some_iff.mp hu).1
    have lte : e < s.heap.objs.size := Heap.lt_size he
    have lti : it < s.heap.objs.size := let ⟨_, q, _⟩ := hit; Heap.lt_size q
    refine wpAny_pyNext_enum_itemD (Draws.tuple (prog := X.prog) (w := X.w) (A := X.A.in1) (I.ok.hd hc) it a hai its.toArray) he ⟨hit, p⟩ (by simpa using li) hne (by simp [hne, hae]) fun v h' tk hv ho st' hT hsz hk => ?_
    have ev : v = u := by
      have hv' : its.toArray[i]? = some v := hv
      rw [List.getElem?_toArray, hu] at hv'
      cases hv'
      rfl
    subst ev
    refine ⟨_, rfl, wpAny_letOwnedTupleGo_enum (s := { s with heap := h', toks := tk + 1 }) ho fun h'' he' sb => ?_⟩
    have hT2 : h''.get? s.heap.objs.size = some { cls := .type "tuple", data := .seq #[.int i tk, v] } := (sb.2 _ (Nat.ne_of_gt lte)).trans hT
    have new : ObjOk X.prog X.w (upd H s.heap.objs.size (.tup [.int (i : Nat), x])) h'' s.heap.objs.size (.tup [.int (i : Nat), x]) :=
      ⟨by show 2 ≤ sizeLine; decide, [.int i tk, v], .cons ⟨_, rfl⟩ (.cons ru .nil), ⟨_, hT2, rfl, _, rfl⟩⟩
    have J : Inv X pins σ (upd H s.heap.objs.size (.tup [.int (i : Nat), x])) { s with heap := h'', toks := tk + 1 } :=
      I.turnedNew (ch := [e, it]) (fun b ob hb q => (sb.2 b (fun z => hb (by simp [z]))).trans (hk b ob (fun z => hb (by simp [z])) (fun z => hb (by simp [z])) q)) hf (Nat.le_refl _) new
    refine ⟨.ref s.heap.objs.size, _, J, rfl, ⟨_, x, rfl, I.hok.fresh (Nat.le_refl _), rfl, fun ys hy => by rw [I.tuple_inj hy hq]; exact hx⟩, ⟨⟨v, ?_⟩, st'.1.at fun o q => (sb.2 it (Ne.symm hne)).trans q⟩, fun b hb => ?_⟩
    · have e1 : ((i + 1 : Nat) : Int) = (i : Int) + 1 := by omega
      rw [e1]; exact he'
    · have lt : b < s.heap.objs.size := by
        rcases (by simpa using hb : b = e ∨ b = it) with rfl | rfl
        · exact lte
        · exact lti
      rw [upd_ne (Nat.ne_of_lt lt)]
      exact (hf b hb).1
  done := by
    intro X hP hw hK hc i pins s σ H E I hf st hg
    subst hP hw hK
    obtain ⟨⟨old, he⟩, hit⟩ := st
    obtain ⟨xs, hq, hx⟩ := hg
    obtain ⟨its, rv, p, hz⟩ := I.tuple hq
    obtain ⟨f0, f1, f2, f3, f4, f5⟩ := hf it (by simp)
    have hl := rv.length
    have none_at : its.toArray[i]? = none := by simp; omega
    have hT : s.TypeIs (.ref e) "enumerate" := ⟨_, he, rfl⟩
    unfold pyNext
    refine wpAny_bind (wpAny_attempt (wpAny_callSpecial?_slot (name := Str.ofString "__next__") hT F.slot_enumerate_next (wpAny_call_entry F.slot_enumerate_next hT F.entry_enumerate_next ?_ (F.args_enumerate_next_1 _))))
    show wpAny _ _ (field (.ref e) 2 >>= _) _ _ _
    refine wpAny_bind (wpAny_field he rfl (x := .ref it) rfl (wpAny_bind (wpAny_nextOf_tuple_end (I.ok.hd hc) hit p none_at fun h' x he' hx' => ?_)))
    obtain ⟨o, ho, hcl⟩ := hx'
    refine wpAny_bind (wpAny_isInstance (T := "StopIteration") (b := true) ⟨o, ho, hcl⟩ isSubtype_stop ?_)
    exact wpAny_pure ⟨rfl, I.turned (t' := s.toks) (fun b o hb q => he' b o hb q) f0 f1 f3 f4 f5⟩
  self := fun A i s Q E st h => let ⟨⟨_, he⟩, _⟩ := st; wpAny_pyIter_enum he h
def iEnumT (K : PySem.W.Frag) (ta : TA) : TI := fun σ H R => ta σ H fun vs H1 => ∃ a xs, vs = [.ref a] ∧ SqT K H1 a xs ∧ R (IteT K a) H1
theorem pi_enumT {X : Cx} {e : Expr} {ta : TA} {p pos tpos : Pos} {elts : List Expr} {kk : Nat} (hg : Gl X "enumerate") (hm : X.mg "enumerate" = none) (ha : PA X [e] ta) (hs : starEach [e] X.env = [(false, eval e X.env)] := by rfl) :
    PI X (.Tuple elts kk tpos) (.Call (.Name "enumerate" p) [e] [] pos) (iEnumT X.K ta) := by
  refine ⟨fun pins s σ H R I h => Call_ (ld_blt I hg hm boot_enumerate (PyProof.Rows.callWith_type1 (thn (ha.run pos pins s σ H _ I h) fun us s1 ⟨vs, H1, I1, r1, a, xs, ex, hq, q⟩ => ?_) hs rfl))⟩
  subst ex
  rw [Vals.ref1 r1]
  obtain ⟨its, rv, p', hz⟩ := I1.tuple hq
  have lta : a < s1.heap.objs.size := let ⟨_, z, _⟩ := p'; Heap.lt_size z
  refine call_enumT p' fun h' he hit hk => wpAny_pyIter_enum he ?_
  have I2 : Inv X pins σ H1 { s1 with heap := h' } := I1.kept (t' := s1.toks) hk
  refine ⟨s1.heap.objs.size + 1, [s1.heap.objs.size + 1, s1.heap.objs.size], _, _, H1, rfl, I2, turn_enumT a (s1.heap.objs.size + 1) s1.heap.objs.size (Nat.succ_ne_self _) (Nat.ne_of_lt lta) (Nat.ne_of_gt (Nat.lt_succ_of_lt lta)), ⟨⟨.none, he⟩, hit⟩, fun b hb => ?_, q⟩
  have hle : s1.heap.objs.size ≤ b := by
    rcases (by simpa using hb : b = s1.heap.objs.size + 1 ∨ b = s1.heap.objs.size) with z | z
    · rw [z]; exact Nat.le_succ _
    · rw [z]; exact Nat.le_refl _
  exact I1.fpOk hle (I1.hok.fresh hle)
/-! as data -/
def enD : Nat → List D → List D
  | _, [] => []
  | i, d :: ds => .tuple [.int (i : Nat), d] :: enD (i + 1) ds
theorem enD_get : ∀ (ds : List D) (k i : Nat), (enD k ds)[i]? = (ds[i]?).map fun d => .tuple [.int ((k + i : Nat) : Int), d]
  | [], _, _ => rfl
  | d :: ds, k, 0 => rfl
  | d :: ds, k, i + 1 => by
    show (enD (k + 1) ds)[i]? = _
    rw [enD_get ds (k + 1) i]
    have : k + 1 + i = k + (i + 1) := by omega
    rw [this]
    rfl
theorem enD_length : ∀ (ds : List D) (k : Nat), (enD k ds).length = ds.length
  | [], _ => rfl
  | d :: ds, k => by
    show (enD (k + 1) ds).length + 1 = _
    rw [enD_length ds]
    rfl
def mEn (a : M D) : M (List D) := mThen a fun x => mLift ((itOf x).map (enD 0))
section
variable {X : Cx} {pos : Pos}
theorem P.enum {e : Expr} {f : M D} {p tpos : Pos} {elts : List Expr} {kk : Nat} (hg : Gl X "enumerate") (hm : X.mg "enumerate" = none) (he : PE X e (tP X.K f)) (hs : starEach [e] X.env = [(false, eval e X.env)] := by rfl) :
    PI X (.Tuple elts kk tpos) (.Call (.Name "enumerate" p) [e] [] pos) (tI X.K (mEn f)) := by
  have ha : PA X [e] (tCons (tP X.K f) tNil) := pa_cons he pa_nil hs
  refine ⟨fun pins s σ H R I ⟨sk, G, ρ, sS, ds, s', w, r, e1, k⟩ => ?_⟩
  obtain ⟨d, s1, q1, q⟩ := mThen_some e1
  obtain ⟨q2, rfl⟩ := mLift_some q
  have pairUp : ∀ {G1 H1 : Hp} {T : Addr} {i : Nat} {x : V} {c : D}, Le G1 H1 → H1 T = none → Dp X.K G1 x c → ∃ G2, Grow G1 H1 G2 (upd H1 T (.tup [.int (i : Nat), x])) ∧ Dp X.K G2 (.ref T) (.tuple [.int ((0 + i : Nat) : Int), c]) := fun {G1 H1 T i x c} l hT hd => by
    have g := Grow.new l hT (.tup [.int (i : Nat), x])
    refine ⟨_, g, .tup (SqT.of upd_same) (.cons ?_ (.cons (Dp.up g.gs _ _ hd) .nil))⟩
    rw [Nat.zero_add]
    exact .int _
  cases d with
  | list es =>
    cases q2
    refine (pi_enum hg hm ha hs (elts := elts) (kk := kk) (tpos := tpos)).run pins s σ H R I ?_
    refine P.then w r q1 fun v G' H' w' x r' q => ?_
    obtain ⟨a, xs, rfl, h1, h2⟩ := Dp.lst_of q
    refine ⟨a, xs, rfl, SqL.up w'.sub h1, k _ G' H' w' x ⟨fun G1 H1 l1 l2 i d hd => ?_, fun G1 H1 l1 l2 => ?_⟩⟩
    · rw [enD_get] at hd
      cases hc : es[i]? with
      | none => rw [hc] at hd; cases hd
      | some c =>
        rw [hc] at hd; cases hd
        obtain ⟨y, h3, h4⟩ := DpAll.get h2 hc
        have h5 := SqL.up l2 (SqL.up l1 h1)
        refine ⟨⟨xs, y, h5, h3⟩, fun z H2 ⟨T, y', e1, e2, e3, e4⟩ => ?_⟩
        subst e1; subst e3
        have e5 := e4 xs h5
        rw [h3] at e5; cases e5
        exact pairUp l2 e2 (Dp.up l1 _ _ h4)
    · exact ⟨xs, SqL.up l2 (SqL.up l1 h1), by rw [enD_length, DpAll.length h2]; exact Nat.le_refl _⟩
  | tuple es =>
    cases q2
    refine (pi_enumT hg hm ha hs (elts := elts) (kk := kk) (tpos := tpos)).run pins s σ H R I ?_
    refine P.then w r q1 fun v G' H' w' x r' q => ?_
    obtain ⟨a, xs, rfl, h1, h2⟩ := Dp.tup_of q
    refine ⟨a, xs, rfl, SqT.up w'.sub h1, k _ G' H' w' x ⟨fun G1 H1 l1 l2 i d hd => ?_, fun G1 H1 l1 l2 => ?_⟩⟩
    · rw [enD_get] at hd
      cases hc : es[i]? with
      | none => rw [hc] at hd; cases hd
      | some c =>
        rw [hc] at hd; cases hd
        obtain ⟨y, h3, h4⟩ := DpAll.get h2 hc
        have h5 := SqT.up l2 (SqT.up l1 h1)
        refine ⟨⟨xs, y, h5, h3⟩, fun z H2 ⟨T, y', e1, e2, e3, e4⟩ => ?_⟩
        subst e1; subst e3
        have e5 := e4 xs h5
        rw [h3] at e5; cases e5
        exact pairUp l2 e2 (Dp.up l1 _ _ h4)
    · exact ⟨xs, SqT.up l2 (SqT.up l1 h1), by rw [enD_length, DpAll.length h2]; exact Nat.le_refl _⟩
  | _ => cases q2
/-! lcm -/
def lcmI (a b : Int) : Int := ((a.natAbs.lcm b.natAbs : Nat) : Int)
def bLcm : List D → Option D
  | [.int a, .int b] => if a.natAbs.log2 < 6000 ∧ b.natAbs.log2 < 6000 then some (.int (lcmI a b)) else none
  | _ => none
def rLcm : List V → Hp → VK → Prop := fun vs H Q => ∃ a b : Int, vs = [.int a, .int b] ∧ a.natAbs.log2 < 6000 ∧ b.natAbs.log2 < 6000 ∧ Q (.int (lcmI a b)) H
theorem lt_log {a n : Nat} (h : a.log2 < n) : a < 2 ^ n := by
  by_cases h0 : a = 0
  · rw [h0]; exact Nat.two_pow_pos n
  · exact (Nat.log2_lt h0).mp h
theorem log_max {a b n : Nat} (ha : a.log2 < n) (hb : b.log2 < n) : (max a b).log2 < n := by
  rcases Nat.le_total a b with h | h
  · rw [Nat.max_eq_right h]; exact hb
  · rw [Nat.max_eq_left h]; exact ha
theorem cr_lcm : CallR X (.builtin "math.lcm") rLcm := by
  intro pins s σ H vs us Q I r h
  obtain ⟨a, b, rfl, la, lb, q⟩ := h
  obtain ⟨t, u, rfl⟩ := Vals.int2 r
  have h1 : (max 1 a.natAbs).log2 < 6000 := log_max (by decide) la
  have h2 := log_max la lb
  have e1 : Nat.lcm 1 a.natAbs = a.natAbs := by simp [Nat.lcm]
  have sz : (((((Nat.lcm 1 a.natAbs).lcm b.natAbs : Nat) : Int)).natAbs).log2 < bitsLine := by
    rw [e1, Int.natAbs_natCast]
    have ba : a.natAbs < 2 ^ 6000 := lt_log la
    have bb : b.natAbs < 2 ^ 6000 := lt_log lb
    have le : a.natAbs.lcm b.natAbs ≤ a.natAbs * b.natAbs := by unfold Nat.lcm; exact Nat.div_le_self _ _
    have lt : a.natAbs.lcm b.natAbs < 2 ^ 12000 := Nat.lt_of_le_of_lt le (by
      have z : a.natAbs * b.natAbs < 2 ^ 6000 * 2 ^ 6000 := Nat.mul_lt_mul'' ba bb
      rw [← Nat.pow_add] at z
      exact z)
    have : (a.natAbs.lcm b.natAbs).log2 < 12000 := PySem.Flt.log2_lt_of (by decide) lt
    unfold bitsLine
    omega
  have g := (PySem.W.mg_run_lcm a t b u (by omega) (by omega) sz).meets
  rw [e1] at g
  exact call_function_meets PySem.W.MGF.kind_lcm PySem.W.MGF.plain_lcm PySem.W.MGF.entry_lcm (PySem.W.MGF.args_lcm _ _) g ⟨.int _, H, I.tok _, ⟨_, rfl⟩, q⟩
theorem w_lcm {K : PySem.W.Frag} : WC K rLcm bLcm := fun xs as d sk G H Q l ps e k => by
  unfold bLcm at e
  split at e
  · split at e
    · rename_i hc
      cases e
      obtain ⟨x, u, rfl, h, h2⟩ := two_of ps
      exact ⟨_, _, by rw [Dp.int_of h, Dp.int_of h2], hc.1, hc.2, k _ G H (.refl l) (.int _)⟩
    · cases e
  · cases e
end
end PL
/-! zip of two rows, each a list or a tuple -/
namespace PL
open PySem PySem.Spec PyProof.Rows L2 PLS
def SqX (K : PySem.W.Frag) (k : Bool) (H : Hp) (a : Addr) (xs : List V) : Prop := match k with
  | true => SqL K H a xs
  | false => SqT K H a xs
def srcI (k : Bool) (h : Heap) (it l : Addr) (i : Nat) : Prop := match k with
  | true => h.IsListIter it l i
  | false => h.IsTupleIter it l i
def srcS (k : Bool) (h : Heap) (l : Addr) (items : Array Value) : Prop := match k with
  | true => h.IsList l items
  | false => h.IsTuple l items
theorem src_draws {prog : Program} {w : World} {A : Around} (k : Bool) (hh : A.handled = none) (it l : Addr) (hne : l ≠ it) (items : Array Value) : Draws prog w A it [it, l] items.size (fun i v => items[i]? = some v) (fun i h => srcI k h it l i ∧ srcS k h l items) := by
  cases k
  · exact Draws.tuple hh it l hne items
  · exact Draws.list hh it l hne items
theorem src_begins (k : Bool) (l : Addr) (items : Array Value) : ∃ o, Begins (.ref l) o (fun h => srcS k h l items) ∧ ∀ (h : Heap) it, h.get? it = some o → srcI k h it l 0 := by
  cases k
  · exact ⟨_, begins_tuple l items, fun h it e => ⟨_, e, rfl, rfl⟩⟩
  · exact ⟨_, begins_list l items, fun h it e => ⟨_, e, rfl, rfl⟩⟩
theorem srcI.at {k : Bool} {h h' : Heap} {it l : Addr} {i : Nat} (x : srcI k h it l i) (e : ∀ o, h.get? it = some o → h'.get? it = some o) : srcI k h' it l i := by
  cases k
  · exact Heap.IsTupleIter.at x e
  · exact Heap.IsListIter.at x e
theorem srcI.obj {k : Bool} {h : Heap} {it l : Addr} {i : Nat} (x : srcI k h it l i) : ∃ o fs, h.get? it = some o ∧ o.data = .fields fs := by
  cases k
  · obtain ⟨o, e, _, d⟩ := x; exact ⟨o, _, e, d⟩
  · obtain ⟨o, e, _, d⟩ := x; exact ⟨o, _, e, d⟩
section
variable {X : Cx} {pins : List (Addr × Obj)} {σ : L2.St} {H : Hp} {s : Shared}
theorem sqX_at (I : Inv X pins σ H s) {k : Bool} {a : Addr} {xs : List V} (h : SqX X.K k H a xs) : ∃ its, Vals xs its ∧ srcS k s.heap a its.toArray ∧ a < s.heap.objs.size := by
  cases k
  · obtain ⟨its, rv, p, _⟩ := I.tuple h
    exact ⟨its, rv, p, let ⟨_, z, _⟩ := p; Heap.lt_size z⟩
  · obtain ⟨its, rv, p, _⟩ := I.list h
    exact ⟨its, rv, p.isList, p.lt⟩
theorem sqX_inj (I : Inv X pins σ H s) {k : Bool} {a : Addr} {xs ys : List V} (h : SqX X.K k H a xs) (h' : SqX X.K k H a ys) : xs = ys := by
  cases k
  · exact I.tuple_inj h h'
  · exact I.list_inj h h'
end
/-- the rows at a and b as they stand, the items in new pairs -/
def ItzX (K : PySem.W.Frag) (ka kb : Bool) (a b : Addr) : It :=
  ⟨fun i H => ∃ (xs ys : List V) (x y : V), SqX K ka H a xs ∧ SqX K kb H b ys ∧ xs[i]? = some x ∧ ys[i]? = some y,
    fun i H v H' => ∃ T x y, v = .ref T ∧ H T = none ∧ H' = upd H T (.tup [x, y]) ∧ (∀ xs, SqX K ka H a xs → xs[i]? = some x) ∧ ∀ ys, SqX K kb H b ys → ys[i]? = some y,
    fun i H => ∃ xs ys : List V, SqX K ka H a xs ∧ SqX K kb H b ys ∧ i ≤ xs.length ∧ i ≤ ys.length ∧ (xs.length = i ∨ ys.length = i)⟩
theorem turn_zipX {P : Program} {w : World} {K : PySem.W.Frag} {elts : List Expr} {kk : Nat} {tpos : Pos} (ka kb : Bool) {a b z TI TO i1 i2 : Addr} (S : ZipSep2 z TI TO i1 i2 [i1, a] [i2, b]) (n1 : a ≠ i1) (n2 : b ≠ i2) :
    Turn P w K (.Tuple elts kk tpos) (ItzX K ka kb a b) [z, TI, TO, i1, i2] z (fun i h => IsZip h z TI TO .none ∧ IsTupOf2 h TI (.ref i1) (.ref i2) ∧ (∃ x y, IsTupOf2 h TO x y) ∧ srcI ka h i1 a i ∧ srcI kb h i2 b i) where
  mem := by simp
  obj := fun i h st c hc => by
    obtain ⟨hz, hTI, ⟨x, y, hTO⟩, h1, h2⟩ := st
    obtain ⟨o1, f1, e1, d1⟩ := h1.obj
    obtain ⟨o2, f2, e2, d2⟩ := h2.obj
    rcases (by simpa using hc : c = z ∨ c = TI ∨ c = TO ∨ c = i1 ∨ c = i2) with q | q | q | q | q
    · rw [q]; exact ⟨_, hz, fun v q => nomatch q⟩
    · rw [q]; exact ⟨_, hTI, fun v q => nomatch q⟩
    · rw [q]; exact ⟨_, hTO, fun v q => nomatch q⟩
    · rw [q]; exact ⟨o1, e1, fun v q => by rw [d1] at q; cases q⟩
    · rw [q]; exact ⟨o2, e2, fun v q => by rw [d2] at q; cases q⟩
  keep := fun i h h' st k => by
    obtain ⟨hz, hTI, ⟨x, y, hTO⟩, h1, h2⟩ := st
    exact ⟨k z (by simp) _ hz, k TI (by simp) _ hTI, ⟨x, y, k TO (by simp) _ hTO⟩, h1.at fun o q => k i1 (by simp) o q, h2.at fun o q => k i2 (by simp) o q⟩
  item := by
    intro X hP hw hK hc i pins s σ H E I hf st hg
    subst hP hw hK
    obtain ⟨hz, hTI, ⟨x0, y0, hTO⟩, h1, h2⟩ := st
    obtain ⟨xs, ys, x, y, hqx, hqy, hx, hy⟩ := hg
    obtain ⟨its, rv, p, _⟩ := sqX_at I hqx
    obtain ⟨its2, rv2, p2, _⟩ := sqX_at I hqy
    obtain ⟨u, hu, ru⟩ := rv.get hx
    obtain ⟨u2, hu2, ru2⟩ := rv2.get hy
    have lz : z < s.heap.objs.size := Heap.lt_size hz
    have D1 := src_draws (prog := X.prog) (w := X.w) (A := X.A.in1) ka (I.ok.hd hc) i1 a n1 its.toArray
    have D2 := src_draws (prog := X.prog) (w := X.w) (A := X.A.in1) kb (I.ok.hd hc) i2 b n2 its2.toArray
    have l1 : i < its.length := (List.getElem?_eq_some_iff.mp hu).1
    have l2 : i < its2.length := (List.getElem?_eq_some_iff.mp hu2).1
    refine wpAny_pyNext_zipD2_item S D1 D2 hz hTI hTO ⟨h1, p⟩ ⟨h2, p2⟩ (by simpa using l1) (by simpa using l2) fun v1 v2 h' tk hv1 hv2 z' TO' s1' s2' hT hsz hk => ?_
    have ev1 : v1 = u := by
      have q : its.toArray[i]? = some v1 := hv1
      rw [List.getElem?_toArray, hu] at q
      cases q; rfl
    have ev2 : v2 = u2 := by
      have q : its2.toArray[i]? = some v2 := hv2
      rw [List.getElem?_toArray, hu2] at q
      cases q; rfl
    subst ev1; subst ev2
    refine ⟨_, rfl, wpAny_letOwnedTupleGo_zip (s := { s with heap := h', toks := tk }) z' fun h'' z'' sb => ?_⟩
    have hT2 : h''.get? s.heap.objs.size = some { cls := .type "tuple", data := .seq #[v1, v2] } := (sb.2 _ (Nat.ne_of_gt lz)).trans hT
    have new : ObjOk X.prog X.w (upd H s.heap.objs.size (.tup [x, y])) h'' s.heap.objs.size (.tup [x, y]) :=
      ⟨by show 2 ≤ sizeLine; decide, [v1, v2], .cons ru (.cons ru2 .nil), ⟨_, hT2, rfl, _, rfl⟩⟩
    have J : Inv X pins σ (upd H s.heap.objs.size (.tup [x, y])) { s with heap := h'', toks := tk } :=
      I.turnedNew (t' := tk) (ch := [z, TI, TO, i1, i2]) (fun c o hb q => (sb.2 c (fun q' => hb (by simp [q']))).trans (hk c o (fun q' => hb (by simp [q'])) (fun q' => hb (by simp [q'])) (fun q' => hb (by simp [q'])) (fun q' => hb (by simp [q'])) q)) hf (Nat.le_refl _) new
    have zi1 : i1 ≠ z := Ne.symm S.zi1
    have zi2 : i2 ≠ z := Ne.symm S.zi2
    refine ⟨.ref s.heap.objs.size, _, J, rfl, ⟨_, x, y, rfl, I.hok.fresh (Nat.le_refl _), rfl, fun l hl => by rw [sqX_inj I hl hqx]; exact hx, fun l hl => by rw [sqX_inj I hl hqy]; exact hy⟩, ⟨z'', ?_, ⟨v1, v2, ?_⟩, ?_, ?_⟩, fun c hcm => ?_⟩
    · exact (sb.2 _ S.TIz).trans (hk _ _ S.TIz S.TITO S.TIi1 S.TIi2 hTI)
    · exact (sb.2 _ S.TOz).trans TO'
    · exact s1'.1.at fun o q => (sb.2 _ zi1).trans q
    · exact s2'.1.at fun o q => (sb.2 _ zi2).trans q
    · have hlt : c < s.heap.objs.size := by
        obtain ⟨_, _, e1, _⟩ := h1.obj
        obtain ⟨_, _, e2, _⟩ := h2.obj
        rcases (by simpa using hcm : c = z ∨ c = TI ∨ c = TO ∨ c = i1 ∨ c = i2) with q | q | q | q | q
        · rw [q]; exact lz
        · rw [q]; exact Heap.lt_size hTI
        · rw [q]; exact Heap.lt_size hTO
        · rw [q]; exact Heap.lt_size e1
        · rw [q]; exact Heap.lt_size e2
      rw [upd_ne (Nat.ne_of_lt hlt)]
      exact (hf c hcm).1
  done := by
    intro X hP hw hK hc i pins s σ H E I hf st hg
    subst hP hw hK
    obtain ⟨hz, hTI, ⟨x0, y0, hTO⟩, h1, h2⟩ := st
    obtain ⟨xs, ys, hqx, hqy, le1, le2, hend⟩ := hg
    obtain ⟨its, rv, p, _⟩ := sqX_at I hqx
    obtain ⟨its2, rv2, p2, _⟩ := sqX_at I hqy
    have e1 := rv.length
    have e2 := rv2.length
    have D1 := src_draws (prog := X.prog) (w := X.w) (A := X.A.in1) ka (I.ok.hd hc) i1 a n1 its.toArray
    have D2 := src_draws (prog := X.prog) (w := X.w) (A := X.A.in1) kb (I.ok.hd hc) i2 b n2 its2.toArray
    exact wpAny_pyNext_zipD2_end S D1 D2 hz hTI hTO ⟨h1, p⟩ ⟨h2, p2⟩ (by simp; omega) (by simp; omega) (by simp; omega) fun h' tk hk => ⟨rfl, I.turnedL (t' := tk) (ch := [z, TI, TO, i1, i2]) (fun c o hb q =>
      hk c o (fun q' => hb (by simp [q'])) (fun q' => hb (by simp [q'])) (fun q' => hb (by simp [q'])) (fun q' => hb (by simp [q'])) q) hf⟩
  self := fun A i s Q E st h => wpAny_pyIter_zip st.1 h
def iZipX (K : PySem.W.Frag) (ta : TA) : TI := fun σ H R => ta σ H fun vs H1 => ∃ ka kb a b xs ys, vs = [.ref a, .ref b] ∧ SqX K ka H1 a xs ∧ SqX K kb H1 b ys ∧ R (ItzX K ka kb a b) H1
theorem pi_zipX {X : Cx} {e e2 : Expr} {ta : TA} {p pos tpos : Pos} {elts : List Expr} {kk : Nat} (hg : Gl X "zip") (hm : X.mg "zip" = none) (ha : PA X [e, e2] ta)
    (hs : starEach [e, e2] X.env = (false, eval e X.env) :: starEach [e2] X.env := by rfl) (hpl : (backTo pos (starEach [e2] X.env)).any (·.1) = false := by rfl) :
    PI X (.Tuple elts kk tpos) (.Call (.Name "zip" p) [e, e2] [] pos) (iZipX X.K ta) := by
  refine ⟨fun pins s σ H R I h => Call_ (ld_blt I hg hm PyProof.Rows.boot_zip (PyProof.Rows.callWith_type1 (thn (ha.run pos pins s σ H _ I h) fun us s1 ⟨vs, H1, I1, r1, ka, kb, a, b, xs, ys, ex, hqx, hqy, q⟩ => ?_) hs hpl))⟩
  subst ex
  cases r1 with
  | cons r rr => cases rr with
    | cons r' rr =>
      cases rr
      cases r
      cases r'
      obtain ⟨its, rv, p1, la⟩ := sqX_at I1 hqx
      obtain ⟨its2, rv2, p2, lb⟩ := sqX_at I1 hqy
      obtain ⟨o1, B1, b1⟩ := src_begins ka a its.toArray
      obtain ⟨o2, B2, b2⟩ := src_begins kb b its2.toArray
      refine zip_begins2 B1 B2 p1 p2 fun h' hz hTI hTO g1 g2 hsz hk => wpAny_pyIter_zip hz ?_
      have I2 : Inv X pins σ H1 { s1 with heap := h' } := I1.kept (t' := s1.toks) hk
      generalize hN : s1.heap.objs.size = N at *
      have S : ZipSep2 (N + 4) (N + 2) (N + 3) N (N + 1) [N, a] [N + 1, b] := zip_sep2 (fun c hc => by rw [List.mem_singleton.mp hc]; exact la) (fun c hc => by rw [List.mem_singleton.mp hc]; exact lb)
      have na : a ≠ N := Nat.ne_of_lt la
      have nb : b ≠ N + 1 := Nat.ne_of_lt (Nat.lt_succ_of_lt lb)
      refine ⟨N + 4, [N + 4, N + 2, N + 3, N, N + 1], _, _, H1, rfl, I2, turn_zipX ka kb S na nb, ⟨hz, hTI, ⟨_, _, hTO⟩, b1 _ _ g1, b2 _ _ g2⟩, fun c hcm => ?_, q⟩
      have hle : s1.heap.objs.size ≤ c := by
        rw [hN]
        rcases (by simpa using hcm : c = N + 4 ∨ c = N + 2 ∨ c = N + 3 ∨ c = N ∨ c = N + 1) with z | z | z | z | z
        · rw [z]; exact Nat.le_add_right _ _
        · rw [z]; exact Nat.le_add_right _ _
        · rw [z]; exact Nat.le_add_right _ _
        · rw [z]; exact Nat.le_refl _
        · rw [z]; exact Nat.le_add_right _ _
      exact I1.fpOk hle (I1.hok.fresh hle)
/-! as data -/
def zipD : List D → List D → List D
  | x :: xs, y :: ys => .tuple [x, y] :: zipD xs ys
  | _, _ => []
theorem zipD_get : ∀ (xs ys : List D) (i : Nat) (d : D), (zipD xs ys)[i]? = some d → ∃ x y, xs[i]? = some x ∧ ys[i]? = some y ∧ d = .tuple [x, y]
  | [], _, _, _, h => by cases h
  | _ :: _, [], _, _, h => by cases h
  | x :: xs, y :: ys, 0, d, h => by cases h; exact ⟨x, y, rfl, rfl, rfl⟩
  | x :: xs, y :: ys, i + 1, d, h => zipD_get xs ys i d h
theorem zipD_length : ∀ (xs ys : List D), (zipD xs ys).length = min xs.length ys.length
  | [], _ => by simp [zipD]
  | _ :: _, [] => by simp [zipD]
  | x :: xs, y :: ys => by
    show (zipD xs ys).length + 1 = _
    rw [zipD_length xs ys]
    simp only [List.length_cons]
    omega
def zpOf : List D → Option (List D)
  | [a, b] => (itOf a).bind fun xs => (itOf b).map fun ys => zipD xs ys
  | _ => none
section
variable {X : Cx} {pos : Pos}
theorem two_of' {K : PySem.W.Frag} {sk : Option Addr} {G : Hp} {vs : List V} {a b : D} (h : Paired (Dq K sk G) vs [a, b]) : ∃ x y, vs = [x, y] ∧ Dq K sk G x a ∧ Dq K sk G y b := by
  cases h with
  | cons h1 t => cases t with
    | cons h2 t =>
      cases t
      exact ⟨_, _, rfl, h1, h2⟩
theorem row_of {K : PySem.W.Frag} {G : Hp} {v : V} {d : D} {ds : List D} (h : Dp K G v d) (e : itOf d = some ds) : ∃ k a xs, v = .ref a ∧ SqX K k G a xs ∧ DpAll K G xs ds := by
  unfold itOf at e
  split at e
  · cases e
    cases h with
    | lst a b => exact ⟨true, _, _, rfl, a, b⟩
  · cases e
    cases h with
    | tup a b => exact ⟨false, _, _, rfl, a, b⟩
  · cases e
theorem SqX.up {K : PySem.W.Frag} {k : Bool} {G G' : Hp} {a : Addr} {xs : List V} (l : Le G G') (h : SqX K k G a xs) : SqX K k G' a xs := by
  cases k
  · exact SqT.up l h
  · exact SqL.up l h
theorem itOf_isD {d : D} {ds : List D} (e : itOf d = some ds) : isD d = true := by
  unfold itOf at e
  split at e <;> first | rfl | cases e
theorem P.zip {e e2 : Expr} {fa : M (List D)} {p tpos : Pos} {elts : List Expr} {kk : Nat} (hg : Gl X "zip") (hm : X.mg "zip" = none) (ha : PA X [e, e2] (tA X.K fa))
    (hs : starEach [e, e2] X.env = (false, eval e X.env) :: starEach [e2] X.env := by rfl) (hpl : (backTo pos (starEach [e2] X.env)).any (·.1) = false := by rfl) :
    PI X (.Tuple elts kk tpos) (.Call (.Name "zip" p) [e, e2] [] pos) (tI X.K (mA zpOf fa)) :=
  piI (pi_zipX hg hm ha hs hpl) fun σ H R ⟨sk, G, ρ, s, ds, s', w, r, e1, k⟩ => by
    obtain ⟨as, s1, q1, q⟩ := mThen_some e1
    obtain ⟨q2, rfl⟩ := mLift_some q
    refine ⟨sk, G, ρ, s, as, s', w, r, q1, fun vs G' H' w' x ps => ?_⟩
    unfold zpOf at q2
    split at q2
    · rename_i a b
      cases qa : itOf a with
      | none => rw [qa] at q2; cases q2
      | some as' =>
        rw [qa] at q2
        cases qb : itOf b with
        | none => simp only [Option.bind, qb] at q2; cases q2
        | some bs' =>
          simp only [Option.bind, qb] at q2
          cases q2
          obtain ⟨va, vb, rfl, da, db⟩ := two_of' ps
          obtain ⟨ka, pa, xs, rfl, h1, h2⟩ := row_of (da.dp (itOf_isD qa)) qa
          obtain ⟨kb, pb, ys, rfl, h3, h4⟩ := row_of (db.dp (itOf_isD qb)) qb
          refine ⟨ka, kb, pa, pb, xs, ys, rfl, h1.up w'.sub, h3.up w'.sub, k _ G' H' w' x ⟨fun G1 H1 l1 l2 i d hd => ?_, fun G1 H1 l1 l2 => ?_⟩⟩
          · obtain ⟨c, f, hc, hf, rfl⟩ := zipD_get _ _ _ _ hd
            obtain ⟨y, g1, g2⟩ := DpAll.get h2 hc
            obtain ⟨z, g3, g4⟩ := DpAll.get h4 hf
            have u1 := (h1.up l1).up l2
            have u2 := (h3.up l1).up l2
            refine ⟨⟨xs, ys, y, z, u1, u2, g1, g3⟩, fun v H2 ⟨T, y', z', e1, e2, e3, e4, e5⟩ => ?_⟩
            subst e1; subst e3
            have e6 := e4 xs u1
            have e7 := e5 ys u2
            rw [g1] at e6; cases e6
            rw [g3] at e7; cases e7
            have g := Grow.new l2 e2 (.tup [y, z])
            exact ⟨_, g, .tup (SqT.of upd_same) (.cons (Dp.up g.gs _ _ (Dp.up l1 _ _ g2)) (.cons (Dp.up g.gs _ _ (Dp.up l1 _ _ g4)) .nil))⟩
          · have len : ((fun ys => zipD as' ys) bs').length = min as'.length bs'.length := zipD_length as' bs'
            have n1 := DpAll.length h2
            have n2 := DpAll.length h4
            exact ⟨xs, ys, (h1.up l1).up l2, (h3.up l1).up l2, by omega, by omega, by omega⟩
    · cases q2
end
end PL
/-! lists that are read where they stand: one's own ones, new ones, data -/
namespace PL
open PySem PySem.Spec PyProof.Rows L2 PLS
def tR (K : PySem.W.Frag) (F : M (List D)) : TE := fun σ H Q => ∃ sk G ρ s ds s', Vw K sk G H s ∧ ER K sk G H σ ρ ∧ F ρ s = some (ds, s') ∧
  ∀ a vs G' H', Vw K sk G' H' s' → Ex sk G H G' H' → ((H' a = some (.lst vs) ∧ sk ≠ some a) ∨ SqL K G' a vs) → DpAll K G' vs ds → Q (.ref a) H'
def mLo (f : M D) : M (List D) := mThen f fun x => mLift (match x with
  | .list ds => some ds
  | _ => none)
def mCat (a b : M (List D)) : M (List D) := mThen a fun x => mThen b fun y => mLift (if x.length + y.length ≤ sizeLine then some (x ++ y) else none)
def mRev (a : M (List D)) : M (List D) := mThen a fun x => mLift (some x.reverse)
def mSrtU (a : M (List D)) : M (List D) := mThen a fun x => mLift (srtU x)
section
variable {X : Cx} {pos : Pos}
theorem P.rL {e : Expr} {F : M (List D)} (h : PE X e (tL X.K F)) : PE X e (tR X.K F) := peI h fun σ H Q ⟨sk, G, ρ, s, ds, s', w, r, e, k⟩ =>
  ⟨sk, G, ρ, s, ds, s', w, r, e, fun p vs G' H' w' x hp np hl gp dl => k p vs G' H' w' x (.inl ⟨hl, np⟩) dl⟩
theorem P.rD {e : Expr} {f : M D} (h : PE X e (tP X.K f)) : PE X e (tR X.K (mLo f)) := peI h fun σ H Q ⟨sk, G, ρ, s, ds, s', w, r, e, k⟩ => by
  obtain ⟨d, s1, q1, q⟩ := mThen_some e
  obtain ⟨q2, rfl⟩ := mLift_some q
  refine P.then w r q1 fun v G' H' w' x r' q => ?_
  cases d with
  | list es =>
    cases q2
    obtain ⟨a, xs, rfl, h1, h2⟩ := Dp.lst_of q
    exact k a xs G' H' w' x (.inr h1) h2
  | _ => cases q2
theorem P.rO (i : Nat) {x : Str} {p1 : Pos} (hN : X.N[i]? = some x := by rfl) (hv : Vis X.env.scope x := by first | exact Or.inl rfl | exact Or.inr (Or.inl rfl) | exact Or.inr (Or.inr rfl)) (hd : (x == ("__debug__" : Str)) = false := by decide) (hcd : (x == ("__classdict__" : Str)) = false := by decide) :
    PE X (.Name x p1) (tR X.K (mItO i)) := peI (pe_var hN hv hd hcd) fun σ H Q ⟨sk, G, ρ, s, ds, s', w, r, e, k⟩ => by
  unfold mItO at e
  split at e
  · rename_i es e2
    cases e
    obtain ⟨a, vs, h1, h2, h3, h4, h5⟩ := r.ow i ds (owAt_some e2)
    exact ⟨_, h1, k a vs G H w .refl (.inl ⟨h2, h4⟩) h5⟩
  · cases e
/-- read later on -/
theorem rd_later {K : PySem.W.Frag} {sk : Option Addr} {G H G' H' : Hp} {a : Addr} {vs : List V} {s' : S} (h : (H a = some (.lst vs) ∧ sk ≠ some a) ∨ SqL K G a vs) (x : Ex sk G H G' H') (w : Vw K sk G' H' s') : SqL K H' a vs := by
  rcases h with ⟨h, n⟩ | h
  · exact SqL.of (x.hs a _ h n)
  · exact SqL.up w.sub (SqL.up x.gs h)
theorem P.cat {a b : Expr} {fa fb : M (List D)} (ha : PE X a (tR X.K fa)) (hb : PE X b (tR X.K fb)) : PE X (.BinOp a .Add b pos) (tL X.K (mCat fa fb)) :=
  peI (pe_op op_catL ha hb) fun σ H Q ⟨sk, G, ρ, s, ds, s', w, r, e, k⟩ => by
    obtain ⟨xs, s1, q1, q⟩ := mThen_some e
    obtain ⟨ys, s2, q2, q⟩ := mThen_some q
    obtain ⟨q3, rfl⟩ := mLift_some q
    split at q3
    · rename_i hz
      cases q3
      refine ⟨sk, G, ρ, s, xs, s1, w, r, q1, fun p vs G1 H1 w1 x1 hp dp => ?_⟩
      refine ⟨sk, G1, ρ, s1, ys, s', w1, r.ex x1, q2, fun p2 ws G2 H2 w2 x2 hp2 dp2 => ?_⟩
      refine ⟨p, p2, vs, ws, rfl, rfl, rd_later hp x2 w2, rd_later hp2 Ex.refl w2, by rw [DpAll.length dp, DpAll.length dp2]; exact hz, fun q hq => ?_⟩
      obtain ⟨n1, n2, n3, n4, n5⟩ := vw_new (.lst (vs ++ ws)) w2 (x1.trans x2) hq
      exact k q _ G2 _ n4 n5 n3 n1 upd_same n2 (DpAll.app (DpAll.up x2.gs _ _ dp) dp2)
    · cases q3
theorem P.rev {e : Expr} {f : M (List D)} {k : Nat} {p1 p2 p3 : Pos} (he : PE X e (tR X.K f)) : PE X (.Subscript e (.Slice none none (some (.UnaryOp .USub (.Constant (.int 1) k p1) p2)) p3) pos) (tL X.K (mRev f)) :=
  peI (pe_revL he) fun σ H Q ⟨sk, G, ρ, s, ds, s', w, r, e, k⟩ => by
    obtain ⟨xs, s1, q1, q⟩ := mThen_some e
    obtain ⟨q3, rfl⟩ := mLift_some q
    cases q3
    refine ⟨sk, G, ρ, s, xs, s', w, r, q1, fun p vs G1 H1 w1 x1 hp dp => ⟨p, vs, rfl, rd_later hp Ex.refl w1, fun q hq => ?_⟩⟩
    obtain ⟨n1, n2, n3, n4, n5⟩ := vw_new (.lst vs.reverse) w1 x1 hq
    exact k q _ G1 _ n4 n5 n3 n1 upd_same n2 (DpAll.rev dp)
theorem rows_of {K : PySem.W.Frag} {G : Hp} : ∀ {vs : List V} {ds : List D}, DpAll K G vs ds → ds.all isTD = true → ∃ ks : List (Addr × List Int), vs = ks.map (fun p => V.ref p.1) ∧ ks.map (·.2) = ds.map bkD ∧ ∀ p ∈ ks, SqT K G p.1 (p.2.map V.int) ∧ p.2 ≠ []
  | _, _, .nil, _ => ⟨[], rfl, rfl, fun _ h => by cases h⟩
  | v :: vs, d :: ds, .cons h t, a => by
    rw [List.all_cons, Bool.and_eq_true] at a
    obtain ⟨e1, e2⟩ := tD_of a.1
    rw [e1] at h
    obtain ⟨p, rfl, hp⟩ := tup_ints h
    obtain ⟨ks, f1, f2, f3⟩ := rows_of t a.2
    refine ⟨(p, bkD d) :: ks, by rw [f1]; rfl, by rw [List.map_cons, f2]; rfl, fun q hq => ?_⟩
    rcases List.mem_cons.mp hq with z | z
    · subst z; exact ⟨hp, e2⟩
    · exact f3 q z
/-- sorted(set(xs)) -/
theorem P.srtSet {e : Expr} {f : M (List D)} {p1 p2 p3 : Pos} (he : PE X e (tR X.K f)) (hg0 : Gl X "sorted") (hm0 : X.mg "sorted" = none) (hg1 : Gl X "set") (hm1 : X.mg "set" = none) (hu : X.A.units + 64 < cLine) (hc : X.calm = true)
    (hb : bootBuiltins "sorted" = some (.builtin "sorted") := by decide +kernel) (hb2 : bootBuiltins "set" = some (.type "set") := by decide +kernel)
    (hs1 : starEach [e] X.env = (false, eval e X.env) :: starEach [] X.env := by rfl) (hp1 : (backTo p3 (starEach [] X.env)).any (·.1) = false := by rfl)
    (hs2 : starEach [.Call (.Name "set" p2) [e] [] p3] X.env = (false, eval (.Call (.Name "set" p2) [e] [] p3) X.env) :: starEach [] X.env := by rfl) (hp2 : (backTo pos (starEach [] X.env)).any (·.1) = false := by rfl) :
    PE X (.Call (.Name "sorted" p1) [.Call (.Name "set" p2) [e] [] p3] [] pos) (tL X.K (mSrtU f)) :=
  peI (pe_callB (cr_srtS hc) hg0 hm0 hb (pa_cons (pe_callTy (cr_setOfT hc hu) hg1 hm1 hb2 (pa_cons he pa_nil hs1) (by decide) (by decide) hs1 hp1) pa_nil hs2) (by decide) (by decide) hs2 hp2) fun σ H Q ⟨sk, G, ρ, s, ds, s', w, r, e, k⟩ => by
    obtain ⟨xs, s1, q1, q⟩ := mThen_some e
    obtain ⟨q3, rfl⟩ := mLift_some q
    unfold srtU at q3
    split at q3
    · rename_i hd
      cases q3
      refine ⟨sk, G, ρ, s, xs, s', w, r, q1, fun p vs G1 H1 w1 x1 hp dp => ?_⟩
      obtain ⟨ks, e1, e2, e3⟩ := rows_of dp hd.1
      have len : ks.length < 64 := by
        have z := congrArg List.length e2
        simp only [List.length_map] at z
        rw [z]; exact hd.2
      refine ⟨p, ks, rfl, by rw [← e1]; exact rd_later hp Ex.refl w1, fun q hq => SqT.up w1.sub (e3 q hq).1, len, fun a L ha sub all => ?_⟩
      obtain ⟨n1, n2, n3, n4, n5⟩ := vw_new (SetTO X.prog X.w a L) w1 x1 ha
      refine srtS_at n4 n5 upd_same (fun q hq => e3 q (sub q hq)) (fun c => ?_) k
      rw [← e2]
      constructor
      · intro z
        obtain ⟨q, hq, rfl⟩ := List.mem_map.mp z
        exact List.mem_map.mpr ⟨q, sub q hq, rfl⟩
      · intro z
        obtain ⟨q, hq, rfl⟩ := List.mem_map.mp z
        exact all q hq
    · cases q3
/-- len of a list that is read -/
theorem P.srtR {e : Expr} {f : M (List D)} {p : Pos} (he : PE X e (tR X.K f)) (hg : Gl X "sorted") (hm : X.mg "sorted" = none) (hb : bootBuiltins "sorted" = some (.builtin "sorted") := by decide +kernel) (hs : starEach [e] X.env = (false, eval e X.env) :: starEach [] X.env := by rfl) (hpl : (backTo pos (starEach [] X.env)).any (·.1) = false := by rfl) :
    PE X (.Call (.Name "sorted" p) [e] [] pos) (tL X.K (mSrt f srtD)) :=
  peI (pe_callB cr_srt hg hm hb (pa_cons he pa_nil hs) (by decide) (by decide) hs hpl) fun σ H Q ⟨sk, G, ρ, s, ds, s', w, r, e, k⟩ => by
    obtain ⟨es, s1, q1, q⟩ := mThen_some e
    obtain ⟨q3, rfl⟩ := mLift_some q
    unfold srtD at q3
    split at q3
    · rename_i hd
      cases q3
      refine ⟨sk, G, ρ, s, es, s', w, r, q1, fun a vs G1 H1 w1 x1 hp h2 => ?_⟩
      refine ⟨a, vs, rfl, rd_later hp Ex.refl w1, fun x hx => ?_, fun ys p pm pw hpn => ?_⟩
      · obtain ⟨i, hi⟩ := List.getElem?_of_mem hx
        obtain ⟨d, hd1, hd2⟩ := DpAll.get' h2 hi
        obtain ⟨e1, e2⟩ := tD_of (List.all_eq_true.mp hd.1 d (List.mem_of_getElem? hd1))
        rw [e1] at hd2
        obtain ⟨t, rfl, ht⟩ := tup_ints hd2
        exact ⟨bkD d, ⟨t, rfl, SqT.up w1.sub ht⟩, e2⟩
      · obtain ⟨fs, pf, df⟩ := DpAll.perm pm h2
        obtain ⟨n1, n2, n3, n4, n5⟩ := vw_new (.lst ys) w1 x1 hpn
        have allf : fs.all isTD = true := List.all_eq_true.mpr fun d hd2 => List.all_eq_true.mp hd.1 d (pf.mem_iff.mp hd2)
        have ef : (sortS (es.map bkD)).map tD = fs := by
          rw [all_back allf]
          congr 1
          refine asc_unique ((sort_perm _).trans (pf.map bkD).symm) (sort_asc _) (List.pairwise_map.mpr ?_)
          rw [List.pairwise_iff_getElem]
          intro i j hi hj hij
          have li : i < ys.length := by rw [DpAll.length df]; exact hi
          have lj : j < ys.length := by rw [DpAll.length df]; exact hj
          have z := List.pairwise_iff_getElem.mp pw i j li lj hij
          obtain ⟨vi, ei, di⟩ := DpAll.get df (List.getElem?_eq_getElem hi)
          obtain ⟨vj, ej, dj⟩ := DpAll.get df (List.getElem?_eq_getElem hj)
          rw [List.getElem?_eq_getElem li] at ei
          rw [List.getElem?_eq_getElem lj] at ej
          cases ei; cases ej
          rw [(tD_of (List.all_eq_true.mp allf _ (List.getElem_mem hi))).1] at di
          rw [(tD_of (List.all_eq_true.mp allf _ (List.getElem_mem hj))).1] at dj
          obtain ⟨t1, e1, h1'⟩ := tup_ints di
          obtain ⟨t2, e2, h2'⟩ := tup_ints dj
          exact z _ _ ⟨t1, e1, SqT.up w1.sub h1'⟩ ⟨t2, e2, SqT.up w1.sub h2'⟩
        rw [ef] at k
        exact k p ys G1 _ n4 n5 n3 n1 upd_same n2 df
    · cases q3
end
end PL
/-! gcd of four, list(x) as a list of one's own, max of a row, comparisons in a chain -/
namespace PySem.W
open PySem PySem.Spec PyProof.Rows
theorem pl_args4 (a b c d : Value) : argsOk "math.gcd" ⟨[a, b, c, d], []⟩ := by unfold argsOk; kernel_rfl
theorem pl_run4 (a : Int) (t : Tok) (b : Int) (u : Tok) (c : Int) (v : Tok) (d : Int) (x : Tok) :
    Gives (Builtin.«math.gcd» ⟨[.int a t, .int b u, .int c v, .int d x], []⟩) (.int ((((((Nat.gcd 0 a.natAbs).gcd b.natAbs).gcd c.natAbs).gcd d.natAbs : Nat) : Int))) :=
  .of_wp fun M A E s Q h => by obtain ⟨hp, g, d, tk, os⟩ := s; wp_walk; exact ⟨_, rfl, h⟩
theorem pl_gcd4 {prog : Program} {w : World} {A : Around} {E : Value → Shared → Prop} {s : Shared} {Q : Value → Shared → Prop} {a b c d : Int} {t u v x : Tok}
    (h : Q (.int (((((a.natAbs.gcd b.natAbs).gcd c.natAbs).gcd d.natAbs : Nat) : Int)) s.toks) { s with toks := s.toks + 1 }) : wpAny (model prog w) A (call (.builtin "math.gcd") [.int a t, .int b u, .int c v, .int d x]) Q E s := by
  have g := pl_run4 a t b u c v d x
  rw [Nat.gcd_zero_left] at g
  exact call_function_meets MGF.kind_gcd MGF.plain_gcd MGF.entry_gcd (pl_args4 _ _ _ _) g.meets h
end PySem.W
namespace PL
open PySem PySem.Spec PyProof.Rows L2 PLS
section
variable {X : Cx} {pos : Pos}
def gcdI4 (a b c d : Int) : Int := ((((a.natAbs.gcd b.natAbs).gcd c.natAbs).gcd d.natAbs : Nat) : Int)
def bGcd4 : List D → Option D
  | [.int a, .int b, .int c, .int d] => some (.int (gcdI4 a b c d))
  | _ => none
def rGcd4 : List V → Hp → VK → Prop := fun vs H Q => ∃ a b c d : Int, vs = [.int a, .int b, .int c, .int d] ∧ Q (.int (gcdI4 a b c d)) H
theorem cr_gcd4 : CallR X (.builtin "math.gcd") rGcd4 := fun pins s σ H vs us Q I r h => by
  obtain ⟨a, b, c, d, rfl, q⟩ := h
  cases r with
  | cons r1 r => cases r with
    | cons r2 r => cases r with
      | cons r3 r => cases r with
        | cons r4 r =>
          cases r
          obtain ⟨t, rfl⟩ := r1
          obtain ⟨u, rfl⟩ := r2
          obtain ⟨v, rfl⟩ := r3
          obtain ⟨x, rfl⟩ := r4
          exact PySem.W.pl_gcd4 ⟨.int _, H, I.tok _, ⟨_, rfl⟩, q⟩
theorem four_of {α β : Type} {R : α → β → Prop} {xs : List α} {y z q u : β} (h : Paired R xs [y, z, q, u]) : ∃ a b c d, xs = [a, b, c, d] ∧ R a y ∧ R b z ∧ R c q ∧ R d u := by
  cases h with | cons h1 t => cases t with | cons h2 t => cases t with | cons h3 t => cases t with | cons h4 t => cases t; exact ⟨_, _, _, _, rfl, h1, h2, h3, h4⟩
theorem w_gcd4 {K : PySem.W.Frag} : WC K rGcd4 bGcd4 := fun xs as d sk G H Q l ps e k => by
  unfold bGcd4 at e
  split at e
  · cases e
    obtain ⟨x, u, v, y, rfl, h, h2, h3, h4⟩ := four_of ps
    exact ⟨_, _, _, _, by rw [Dp.int_of h, Dp.int_of h2, Dp.int_of h3, Dp.int_of h4], k _ G H (.refl l) (.int _)⟩
  · cases e
/-! list(x) -/
def mLoA (f : M D) : M (List D) := mThen f fun x => mLift (itOf x)
theorem P.listO {e : Expr} {f : M D} {p : Pos} (he : PE X e (tP X.K f)) (hg : Gl X "list") (hm : X.mg "list" = none) (hv : bootBuiltins "list" = some (.type "list") := by decide +kernel) (hs : starEach [e] X.env = (false, eval e X.env) :: starEach [] X.env := by rfl) (hpl : (backTo pos (starEach [] X.env)).any (·.1) = false := by rfl) :
    PE X (.Call (.Name "list" p) [e] [] pos) (tL X.K (mLoA f)) :=
  peI (pe_callTy call_list_of hg hm hv (P.acons he P.anil hs) (by decide) (by decide) hs hpl) fun σ H Q ⟨sk, G, ρ, s, ds, s', w, r, e, k⟩ => by
    obtain ⟨d, s1, q1, q⟩ := mThen_some e
    obtain ⟨q2, rfl⟩ := mLift_some q
    refine ⟨sk, G, ρ, s, [d], s', w, r, ?_, fun vs G' H' w' x' ps => ?_⟩
    · simp [aCons, aNil, mThen, mLift, q1]
    · obtain ⟨x, rfl, h⟩ := one_of ps
      have key : ∀ a xs, x = .ref a → (SqL X.K G' a xs ∨ SqT X.K G' a xs) → DpAll X.K G' xs ds → ∃ p ys, [x] = [V.ref p] ∧ (SqL X.K H' p ys ∨ SqT X.K H' p ys) ∧ ∀ l, H' l = none → Q (.ref l) (upd H' l (.lst ys)) := fun a xs hx h1 h2 => by
        subst hx
        refine ⟨a, xs, rfl, h1.elim (fun z => .inl (SqL.up w'.sub z)) (fun z => .inr (SqT.up w'.sub z)), fun l hl => ?_⟩
        obtain ⟨n1, n2, n3, n4, n5⟩ := vw_new (.lst xs) w' x' hl
        exact k l xs G' _ n4 n5 n3 n1 upd_same n2 h2
      cases d with
      | list es =>
        cases q2
        obtain ⟨a, xs, hx, h1, h2⟩ := Dp.lst_of h
        exact key a xs hx (.inl h1) h2
      | tuple es =>
        cases q2
        obtain ⟨a, xs, hx, h1, h2⟩ := Dp.tup_of h
        exact key a xs hx (.inr h1) h2
      | _ => cases q2
/-! max of a row -/
def maxL : Int → List Int → Int
  | m, [] => m
  | m, x :: xs => maxL (if m < x then x else m) xs
theorem maxL_spec : ∀ (xs : List Int) (m : Int), (maxL m xs = m ∨ maxL m xs ∈ xs) ∧ m ≤ maxL m xs ∧ ∀ y ∈ xs, y ≤ maxL m xs
  | [], m => ⟨.inl rfl, Int.le_refl _, by simp⟩
  | x :: xs, m => by
    obtain ⟨a, b, c⟩ := maxL_spec xs (if m < x then x else m)
    unfold maxL
    refine ⟨?_, ?_, fun y hy => ?_⟩
    · rcases a with a | a
      · by_cases h : m < x
        · rw [if_pos h] at a ⊢
          exact .inr (by rw [a]; simp)
        · rw [if_neg h] at a ⊢
          exact .inl a
      · exact .inr (List.mem_cons_of_mem _ a)
    · split at b <;> split <;> omega
    · rcases List.mem_cons.mp hy with h | h
      · rw [h]; split at b <;> split <;> omega
      · exact c y h
def bMaxL : List D → Option D
  | [.list ds] => (intsOf ds).bind fun ns => match ns with
    | [] => none
    | m :: xs => some (.int (maxL m xs))
  | _ => none
theorem w_maxL {K : PySem.W.Frag} : WC K (rMax K) bMaxL := fun xs as d sk G H Q l ps e k => by
  unfold bMaxL at e
  split at e
  · rename_i ds
    cases q : intsOf ds with
    | none => rw [q] at e; cases e
    | some bs =>
      rw [q] at e
      cases bs with
      | nil => cases e
      | cons m bs =>
        cases e
        obtain ⟨x, rfl, h⟩ := one_of ps
        obtain ⟨p, ys, rfl, h1, h2⟩ := Dp.lst_of h
        have e2 := ints_of h2 q
        subst e2
        refine ⟨p, m :: bs, rfl, SqL.up l h1, by simp, fun z hz hl => ?_⟩
        obtain ⟨a, b, c⟩ := maxL_spec bs m
        have e3 : z = maxL m bs := by
          have h5 : maxL m bs ≤ z := by
            rcases a with a | a
            · rw [a]; exact hl m List.mem_cons_self
            · exact hl _ (List.mem_cons_of_mem _ a)
          have h6 : z ≤ maxL m bs := by
            rcases List.mem_cons.mp hz with rfl | hz
            · exact b
            · exact c z hz
          omega
        rw [e3]
        exact k _ G H (.refl l) (.int _)
  · cases e
/-! a op b op c -/
def mChain (f g : D → D → Option D) (a b c : M D) : M D := mThen a fun x => mThen b fun y => mThen (mLift ((f x y).bind bOf)) fun k => if k = true then mThen c fun z => mLift (g y z) else mC (.bool false)
theorem tChain_of {K : PySem.W.Frag} {r r' : R2} {f g : D → D → Option D} (h : W2 K r f) (h' : W2 K r' g) {fa fb fc : M D} {σ : L2.St} {H : Hp} {Q : VK} (t : tP K (mChain f g fa fb fc) σ H Q) : tChain r r' (tP K fa) (tP K fb) (tP K fc) σ H Q := by
  obtain ⟨sk, G, ρ, s, d, s', w, e, q, k⟩ := t
  obtain ⟨a, s1, q1, q⟩ := mThen_some q
  obtain ⟨b, s2, q2, q⟩ := mThen_some q
  obtain ⟨kb, s3, q3, q⟩ := mThen_some q
  obtain ⟨q4, rfl⟩ := mLift_some q3
  cases hf : f a b with
  | none => rw [hf] at q4; cases q4
  | some fd =>
    rw [hf] at q4
    have hfd : fd = .bool kb := by cases fd <;> first | (cases q4; rfl) | cases q4
    subst hfd
    refine P.then w e q1 fun x G1 H1 w1 x1 e1 dx => ?_
    refine P.then w1 e1 q2 fun y G2 H2 w2 x2 e2 dy => ?_
    refine h x y a b (.bool kb) sk G2 H2 _ w2.sub (dx.up x2.gs) dy hf fun v G3 H3 g3 dv => ?_
    have w3 := g3.vw w2
    have x3 := g3.ex sk
    have e3 := e2.ex x3
    refine ⟨kb, Dp.bl_of (sk := sk) (.inl dv), ?_⟩
    cases kb with
    | true =>
      obtain ⟨z, s4, q5, q6⟩ := mThen_some q
      obtain ⟨q7, rfl⟩ := mLift_some q6
      refine P.then w3 e3 q5 fun u G4 H4 w4 x4 e4 du => ?_
      exact h' y u b z d sk G4 H4 Q w4.sub (dy.up (x3.gs.trans x4.gs)) du q7 fun v5 G5 H5 g5 dv5 => k v5 G5 H5 (g5.vw w4) (((x1.trans x2).trans (x3.trans x4)).trans (g5.ex sk)) (.inl dv5)
    | false =>
      cases q
      exact k (.bl false) G3 H3 w3 ((x1.trans x2).trans x3) (.inl (.bl false))
theorem P.chain {op op' : CmpOp} {r r' : R2} {f g : D → D → Option D} {a b c : Expr} {fa fb fc : M D} (ho : OpR X (compareOp op) r) (h : W2 X.K r f) (ho' : OpR X (compareOp op') r') (h' : W2 X.K r' g) (ha : PE X a (tP X.K fa)) (hb : PE X b (tP X.K fb)) (hc : PE X c (tP X.K fc)) (hm : lastMarks [op, op'] [b, c] = false := by with_unfolding_all rfl) : PE X (.Compare a [op, op'] [b, c] pos) (tP X.K (mChain f g fa fb fc)) :=
  peI (pe_chain ho ho' ha hb hc hm) fun _ _ _ t => tChain_of h h' t
theorem P.chainT {op op' : CmpOp} {r r' : R2} {f g : D → D → Option D} {a b c : Expr} {fa fb fc : M D} (ho : OpR X (compareOp op) r) (h : W2 X.K r f) (ho' : OpR X (compareOp op') r') (h' : W2 X.K r' g) (ha : PE X a (tP X.K fa)) (hb : PE X b (tP X.K fb)) (hc : PE X c (tP X.K fc)) (hm : lastMarks [op, op'] [b, c] = false := by with_unfolding_all rfl) : PT X (.Compare a [op, op'] [b, c] pos) (tQ X.K (mB (mChain f g fa fb fc))) := by
  refine ptI (pt_chain ho ho' ha hb hc hm) fun σ H Q ⟨sk, G, ρ, s, c, s', w, r, e, k⟩ => ?_
  refine tChain_of h h' ?_
  refine P.then w r (mB_some e) fun v G' H' w' x r' q => ?_
  exact ⟨c, Dp.bl_of q, k G' H' w' x⟩
end
end PL
namespace WF
open PySem PySem.Spec PyProof.Rows L2 PL
def g_is_whole : M Out := sRet (mAndV (m1 (dIs "int") (mVar 0)) (m1 dNot (m1 (dIs "bool") (mVar 0))))
def f_is_whole : Fn := fnM 1 1 g_is_whole
def le_are_whole_0 : M D := mF f_is_whole (aCons (mVar 2) aNil)
def g_are_whole : M Out := sRet (mAndV (m1 (dIs "tuple") (mVar 0)) (mAndV (m2 (dEq) (mCall bLen (aCons (mVar 0) aNil)) (mVar 1)) (mCall bAll (aCons (mL (mLc (mIt (mVar 0)) [2] (.nm 2) (qC true) le_are_whole_0)) aNil))))
def f_are_whole : Fn := fnM 2 3 g_are_whole
def g_ratio : M Out := sSeq (sAsg (.nm 2) (mCall bGcd (aCons (mVar 0) (aCons (mVar 1) aNil)))) (sSeq (mIf (mB (m2 (dCmp fun i j => decide (i < j)) (mVar 1) (mC (.int 0)))) (sAsg (.nm 2) (m1 dNeg (mVar 2))) (sNx)) (sRet (mTup (aCons (m2 dDiv (mVar 0) (mVar 2)) (aCons (m2 dDiv (mVar 1) (mVar 2)) aNil)))))
def f_ratio : Fn := fnM 2 3 g_ratio
def g_ratio_product : M Out := sRet (mF f_ratio (aCons (m2 dMul (m2 dIx (mVar 0) (mC (.int 0))) (m2 dIx (mVar 1) (mC (.int 0)))) (aCons (m2 dMul (m2 dIx (mVar 0) (mC (.int 1))) (m2 dIx (mVar 1) (mC (.int 1)))) aNil)))
def f_ratio_product : Fn := fnM 2 2 g_ratio_product
def g_is_less : M Out := sRet (m2 (dCmp fun i j => decide (i < j)) (m2 dMul (m2 dIx (mVar 0) (mC (.int 0))) (m2 dIx (mVar 1) (mC (.int 1)))) (m2 dMul (m2 dIx (mVar 1) (mC (.int 0))) (m2 dIx (mVar 0) (mC (.int 1)))))
def f_is_less : Fn := fnM 2 2 g_is_less
def g_point_of : M Out := sSeq (sAsg (.nm 3) (mCall bGcd (aCons (mVar 0) (aCons (mVar 1) (aCons (mVar 2) aNil))))) (sSeq (mIf (mB (m2 (dCmp fun i j => decide (i < j)) (mVar 2) (mC (.int 0)))) (sAsg (.nm 3) (m1 dNeg (mVar 3))) (sNx)) (sRet (mTup (aCons (m2 dDiv (mVar 0) (mVar 3)) (aCons (m2 dDiv (mVar 1) (mVar 3)) (aCons (m2 dDiv (mVar 2) (mVar 3)) aNil))))))
def f_point_of : Fn := fnM 3 4 g_point_of
def g_course_to : M Out := sSeq (sAsg (.tp [.tp [.nm 2, .nm 3, .nm 4], .tp [.nm 5, .nm 6, .nm 7]]) (mTup (aCons (mVar 0) (aCons (mVar 1) aNil)))) (sRet (mTup (aCons (m2 dSub (m2 dMul (mVar 5) (mVar 4)) (m2 dMul (mVar 2) (mVar 7))) (aCons (m2 dSub (m2 dMul (mVar 6) (mVar 4)) (m2 dMul (mVar 3) (mVar 7))) aNil))))
def f_course_to : Fn := fnM 2 8 g_course_to
def g_side_of : M Out := sSeq (sAsg (.tp [.nm 3, .nm 4]) (mVar 2)) (sSeq (sAsg (.nm 5) (mCall bGcd (aCons (m2 dMul (mVar 0) (mVar 4)) (aCons (m2 dMul (mVar 1) (mVar 4)) (aCons (mVar 3) aNil))))) (sRet (mTup (aCons (m2 dDiv (m2 dMul (mVar 0) (mVar 4)) (mVar 5)) (aCons (m2 dDiv (m2 dMul (mVar 1) (mVar 4)) (mVar 5)) (aCons (m2 dDiv (mVar 3) (mVar 5)) aNil))))))
def f_side_of : Fn := fnM 3 6 g_side_of
def g_along : M Out := sRet (mF f_ratio (aCons (m2 dAdd (m2 dMul (mVar 0) (m2 dIx (mVar 2) (mC (.int 0)))) (m2 dMul (mVar 1) (m2 dIx (mVar 2) (mC (.int 1))))) (aCons (m2 dIx (mVar 2) (mC (.int 2))) aNil)))
def f_along : Fn := fnM 3 3 g_along
def g_overshoot : M Out := sRet (m2 dSub (m2 dAdd (m2 dMul (m2 dIx (mVar 0) (mC (.int 0))) (m2 dIx (mVar 1) (mC (.int 0)))) (m2 dMul (m2 dIx (mVar 0) (mC (.int 1))) (m2 dIx (mVar 1) (mC (.int 1))))) (m2 dMul (m2 dIx (mVar 0) (mC (.int 2))) (m2 dIx (mVar 1) (mC (.int 2)))))
def f_overshoot : Fn := fnM 2 2 g_overshoot
def g_is_point : M Out := sRet (mAndV (mF f_are_whole (aCons (mVar 0) (aCons (mC (.int 3)) aNil))) (mAndV (m2 (dCmp fun i j => decide (j < i)) (m2 dIx (mVar 0) (mC (.int 2))) (mC (.int 0))) (m2 (dEq) (mCall bGcd (aCons (m2 dIx (mVar 0) (mC (.int 0))) (aCons (m2 dIx (mVar 0) (mC (.int 1))) (aCons (m2 dIx (mVar 0) (mC (.int 2))) aNil)))) (mC (.int 1)))))
def f_is_point : Fn := fnM 1 1 g_is_point
def g_is_side : M Out := sRet (mAndV (mF f_are_whole (aCons (mVar 0) (aCons (mC (.int 3)) aNil))) (mAndV (m2 (dNe) (mSl (mVar 0) oNo (oSome (mC (.int 2)))) (mTup (aCons (mC (.int 0)) (aCons (mC (.int 0)) aNil)))) (m2 (dEq) (mCall bGcd (aCons (m2 dIx (mVar 0) (mC (.int 0))) (aCons (m2 dIx (mVar 0) (mC (.int 1))) (aCons (m2 dIx (mVar 0) (mC (.int 2))) aNil)))) (mC (.int 1)))))
def f_is_side : Fn := fnM 1 1 g_is_side
def g_is_direction : M Out := sRet (mAndV (mF f_are_whole (aCons (mVar 0) (aCons (mC (.int 2)) aNil))) (m2 (dEq) (mCall bGcd (aCons (m2 dIx (mVar 0) (mC (.int 0))) (aCons (m2 dIx (mVar 0) (mC (.int 1))) aNil))) (mC (.int 1))))
def f_is_direction : Fn := fnM 1 1 g_is_direction
def g_need_point : M Out := mIf (mNot (mB (mF f_is_point (aCons (mVar 0) aNil)))) (sNo) (sNx)
def f_need_point : Fn := fnM 1 1 g_need_point
def g_need_side : M Out := mIf (mNot (mB (mF f_is_side (aCons (mVar 0) aNil)))) (sNo) (sNx)
def f_need_side : Fn := fnM 1 1 g_need_side
def t_half_hull_0 : PL.Env → S → Nat := fun ρ _ => match owAt 1 ρ with
  | some ds => ds.length + 1
  | none => 0
def lc_half_hull_0 : M Bool := mB (m2 (dCmp fun i j => decide (j < i)) (mLenO 1) (mC (.int 1)))
def lb_half_hull_0 : M Out := sSeq (sAsg (.tp [.tp [.nm 4, .nm 5], .tp [.nm 6, .nm 7]]) (mTup (aCons (mIxO 1 (m1 dNeg (mC (.int 2)))) (aCons (mIxO 1 (m1 dNeg (mC (.int 1)))) aNil)))) (sSeq (mIf (mB (m2 (dCmp fun i j => decide (j < i)) (m2 dSub (m2 dMul (m2 dSub (mVar 6) (mVar 4)) (m2 dSub (mVar 3) (mVar 5))) (m2 dMul (m2 dSub (mVar 7) (mVar 5)) (m2 dSub (mVar 2) (mVar 4)))) (mC (.int 0)))) (sBk) (sNx)) (sPop 1))
def lb_half_hull_1 : M Out := sSeq (sWh t_half_hull_0 lc_half_hull_0 lb_half_hull_0) (sApp 1 (mTup (aCons (mVar 2) (aCons (mVar 3) aNil))))
def g_half_hull : M Out := sSeq (sOwn 1 (mLst aNil)) (sSeq (sFor (mIt (mVar 0)) (.tp [.nm 2, .nm 3]) lb_half_hull_1) (sFrz 1 (sRet (mVar 1))))
def f_half_hull : Fn := fnM 1 8 g_half_hull
def lb_shape_hull_0 : M Out := sAsg (.nm 1) (mCall bLcm (aCons (mVar 1) (aCons (m2 dIx (mVar 2) (mC (.int 2))) aNil)))
def le_shape_hull_1 : M D := mTup (aCons (m2 dMul (mVar 4) (m2 dDiv (mVar 1) (mVar 6))) (aCons (m2 dMul (mVar 5) (m2 dDiv (mVar 1) (mVar 6))) aNil))
def le_shape_hull_2 : M D := mF f_point_of (aCons (mVar 4) (aCons (mVar 5) (aCons (mVar 1) aNil)))
def g_shape_hull : M Out := sSeq (sAsg (.nm 1) (mC (.int 1))) (sSeq (sFor (mIt (mVar 0)) (.nm 2) lb_shape_hull_0) (sSeq (sAsg (.nm 3) (mL (mSrt (mLc (mIt (mVar 0)) [4, 5, 6] (.tp [.nm 4, .nm 5, .nm 6]) (qC true) le_shape_hull_1) srtU))) (sSeq (mIf (mB (m2 (dCmp fun i j => decide (j < i)) (mCall bLen (aCons (mVar 3) aNil)) (mC (.int 1)))) (sAsg (.nm 3) (m2 dAdd (mSl (mF f_half_hull (aCons (mVar 3) aNil)) oNo (oSome (m1 dNeg (mC (.int 1))))) (mSl (mF f_half_hull (aCons (mL (mRev (mLo (mVar 3)))) aNil)) oNo (oSome (m1 dNeg (mC (.int 1))))))) (sNx)) (sRet (mCall bTuple (aCons (mL (mLc (mIt (mVar 3)) [4, 5] (.tp [.nm 4, .nm 5]) (qC true) le_shape_hull_2)) aNil))))))
def f_shape_hull : Fn := fnM 1 7 g_shape_hull
def le_edge_courses_0 : M D := mF f_course_to (aCons (m2 dIx (mVar 0) (m2 dSub (mVar 1) (mC (.int 1)))) (aCons (m2 dIx (mVar 0) (mVar 1)) aNil))
def g_edge_courses : M Out := sSeq (mIf (mB (m2 (dEq) (mCall bLen (aCons (mVar 0) aNil)) (mC (.int 1)))) (sRet (mL (mLst aNil))) (sNx)) (sRet (m2 dAdd (mL (mLc (mA rg2 (aCons (mC (.int 1)) (aCons (mCall bLen (aCons (mVar 0) aNil)) aNil))) [1] (.nm 1) (qC true) le_edge_courses_0)) (mL (mLst (aCons (mF f_course_to (aCons (m2 dIx (mVar 0) (m1 dNeg (mC (.int 1)))) (aCons (m2 dIx (mVar 0) (mC (.int 0))) aNil))) aNil)))))
def f_edge_courses : Fn := fnM 1 2 g_edge_courses
def lb_shape_support_0 : M Out := sSeq (sAsg (.nm 5) (mF f_along (aCons (mVar 1) (aCons (mVar 2) (aCons (mVar 4) aNil))))) (mIf (mB (mF f_is_less (aCons (mVar 3) (aCons (mVar 5) aNil)))) (sAsg (.nm 3) (mVar 5)) (sNx))
def g_shape_support : M Out := sSeq (sAsg (.nm 3) (mF f_along (aCons (mVar 1) (aCons (mVar 2) (aCons (m2 dIx (mVar 0) (mC (.int 0))) aNil))))) (sSeq (sFor (mIt (mSl (mVar 0) (oSome (mC (.int 1))) oNo)) (.nm 4) lb_shape_support_0) (sRet (mVar 3)))
def f_shape_support : Fn := fnM 3 6 g_shape_support
def le_shape_sides_0 : M D := mF f_side_of (aCons (mVar 2) (aCons (m1 dNeg (mVar 1)) (aCons (mF f_along (aCons (mVar 2) (aCons (m1 dNeg (mVar 1)) (aCons (mVar 3) aNil)))) aNil)))
def le_shape_sides_1 : M D := mF f_side_of (aCons (mVar 5) (aCons (mVar 6) (aCons (mF f_shape_support (aCons (mVar 0) (aCons (mVar 5) (aCons (mVar 6) aNil)))) aNil)))
def g_shape_sides : M Out := sSeq (mIf (mB (m2 (dCmp fun i j => decide (j < i)) (mCall bLen (aCons (mVar 0) aNil)) (mC (.int 2)))) (sRet (mCall bTuple (aCons (mL (mLc (mA zpOf (aCons (mF f_edge_courses (aCons (mVar 0) aNil)) (aCons (mVar 0) aNil))) [1, 2, 3] (.tp [.tp [.nm 1, .nm 2], .nm 3]) (qC true) le_shape_sides_0)) aNil))) (sNx)) (sSeq (sAsg (.nm 4) (mC (.tuple [(.tuple [(.int 1), (.int 0)]), (.tuple [(.int 0), (.int 1)]), (.tuple [(.int (-1)), (.int 0)]), (.tuple [(.int 0), (.int (-1))])]))) (sSeq (mIf (mB (m2 (dEq) (mCall bLen (aCons (mVar 0) aNil)) (mC (.int 2)))) (sSeq (sAsg (.tp [.nm 1, .nm 2]) (mF f_course_to (aCons (m2 dIx (mVar 0) (mC (.int 0))) (aCons (m2 dIx (mVar 0) (mC (.int 1))) aNil)))) (sAsg (.nm 4) (mTup (aCons (mTup (aCons (mVar 2) (aCons (m1 dNeg (mVar 1)) aNil))) (aCons (mTup (aCons (mVar 1) (aCons (mVar 2) aNil))) (aCons (mTup (aCons (m1 dNeg (mVar 2)) (aCons (mVar 1) aNil))) (aCons (mTup (aCons (m1 dNeg (mVar 1)) (aCons (m1 dNeg (mVar 2)) aNil))) aNil))))))) (sNx)) (sRet (mCall bTuple (aCons (mL (mLc (mIt (mVar 4)) [5, 6] (.tp [.nm 5, .nm 6]) (qC true) le_shape_sides_1)) aNil)))))
def f_shape_sides : Fn := fnM 1 7 g_shape_sides
def le_shape_holds_0 : M D := m2 (dCmp fun i j => decide (i ≤ j)) (mF f_overshoot (aCons (mVar 2) (aCons (mVar 1) aNil))) (mC (.int 0))
def g_shape_holds : M Out := sRet (mCall bAll (aCons (mL (mLc (mIt (mF f_shape_sides (aCons (mVar 0) aNil))) [2] (.nm 2) (qC true) le_shape_holds_0)) aNil))
def f_shape_holds : Fn := fnM 2 3 g_shape_holds
def lb_first_no_point_0 : M Out := mIf (mNot (mB (mF f_is_point (aCons (mVar 2) aNil)))) (sRet (mVar 1)) (sNx)
def g_first_no_point : M Out := sSeq (sFor (mEn (mVar 0)) (.tp [.nm 1, .nm 2]) lb_first_no_point_0) (sRet (mC .none))
def f_first_no_point : Fn := fnM 1 3 g_first_no_point
def g_is_polygon : M Out := sSeq (mIf (mOr (mNot (mB (m1 (dIs "tuple") (mVar 0)))) (mOr (mB (m2 (dEq) (mVar 0) (mTup aNil))) (mB (m2 (dNotN) (mF f_first_no_point (aCons (mVar 0) aNil)) (mC .none))))) (sRet (mC (.bool false))) (sNx)) (sRet (m2 (dEq) (mF f_shape_hull (aCons (mVar 0) aNil)) (mVar 0)))
def f_is_polygon : Fn := fnM 1 1 g_is_polygon
def g_is_figure : M Out := sRet (mAndV (mF f_is_polygon (aCons (mVar 0) aNil)) (mAndV (m2 (dCmp fun i j => decide (j < i)) (mCall bLen (aCons (mVar 0) aNil)) (mC (.int 2))) (mF f_shape_holds (aCons (mVar 0) (aCons (mC (.tuple [(.int 0), (.int 0), (.int 1)])) aNil)))))
def f_is_figure : Fn := fnM 1 1 g_is_figure
def g_need_figure : M Out := mIf (mNot (mB (mF f_is_figure (aCons (mVar 0) aNil)))) (sNo) (sNx)
def f_need_figure : Fn := fnM 1 1 g_need_figure
def g_need_wind : M Out := mIf (mNot (mB (mF f_is_direction (aCons (mVar 0) aNil)))) (sNo) (sNx)
def f_need_wind : Fn := fnM 1 1 g_need_wind
def g_length_square : M Out := sRet (m2 dAdd (m2 dMul (m2 dIx (mVar 0) (mC (.int 0))) (m2 dIx (mVar 0) (mC (.int 0)))) (m2 dMul (m2 dIx (mVar 0) (mC (.int 1))) (m2 dIx (mVar 0) (mC (.int 1)))))
def f_length_square : Fn := fnM 1 1 g_length_square
def g_is_up_to_root : M Out := sRet (mOrV (m2 (dCmp fun i j => decide (i ≤ j)) (m2 dIx (mVar 0) (mC (.int 0))) (mC (.int 0))) (m1 dNot (mF f_is_less (aCons (mVar 1) (aCons (mF f_ratio_product (aCons (mVar 0) (aCons (mVar 0) aNil))) aNil)))))
def f_is_up_to_root : Fn := fnM 2 2 g_is_up_to_root
def g_holds_in_wind : M Out := sSeq (sEx (mF f_need_figure (aCons (mVar 0) aNil))) (sSeq (sEx (mF f_need_point (aCons (mVar 1) aNil))) (sSeq (sEx (mF f_need_side (aCons (mVar 2) aNil))) (sSeq (sEx (mF f_need_wind (aCons (mVar 3) aNil))) (sSeq (sAsg (.tp [.tp [.nm 4, .nm 5, .nm 6], .tp [.nm 7, .nm 8]]) (mTup (aCons (mVar 2) (aCons (mVar 3) aNil)))) (sSeq (sAsg (.nm 9) (mF f_shape_support (aCons (mVar 0) (aCons (m2 dSub (m2 dMul (m1 dNeg (mVar 4)) (mVar 7)) (m2 dMul (mVar 5) (mVar 8))) (aCons (m2 dSub (m2 dMul (mVar 4) (mVar 8)) (m2 dMul (mVar 5) (mVar 7))) aNil))))) (sSeq (sAsg (.nm 10) (mF f_ratio (aCons (m2 dMul (m2 dIx (mVar 9) (mC (.int 0))) (m2 dIx (mVar 9) (mC (.int 0)))) (aCons (m2 dMul (m2 dMul (m2 dIx (mVar 9) (mC (.int 1))) (m2 dIx (mVar 9) (mC (.int 1)))) (mF f_length_square (aCons (mVar 3) aNil))) aNil)))) (sRet (mF f_is_up_to_root (aCons (mF f_along (aCons (mVar 4) (aCons (mVar 5) (aCons (mVar 1) aNil)))) (aCons (mVar 10) aNil))))))))))
def f_holds_in_wind : Fn := fnM 4 11 g_holds_in_wind
def le_winds_off_0 : M D := mF f_ratio (aCons (m2 dMul (m2 dMul (mVar 8) (mVar 8)) (mVar 4)) (aCons (m2 dAdd (m2 dMul (mVar 6) (mVar 6)) (m2 dMul (mVar 7) (mVar 7))) aNil))
def le_winds_off_1 : M D := mF f_ratio (aCons (m2 dMul (m2 dAdd (m2 dMul (mVar 10) (mVar 10)) (m2 dMul (mVar 11) (mVar 11))) (mVar 4)) (aCons (m2 dMul (mVar 12) (mVar 12)) aNil))
def le_winds_off_2 : M D := mF f_is_up_to_root (aCons (mVar 3) (aCons (mVar 13) aNil))
def le_winds_off_3 : M D := mF f_is_up_to_root (aCons (mVar 3) (aCons (mVar 13) aNil))
def g_winds_off : M Out := sSeq (sEx (mF f_need_figure (aCons (mVar 0) aNil))) (sSeq (sEx (mF f_need_point (aCons (mVar 1) aNil))) (sSeq (sEx (mF f_need_side (aCons (mVar 2) aNil))) (sSeq (sAsg (.tp [.nm 3, .nm 4]) (mTup (aCons (mF f_along (aCons (m2 dIx (mVar 2) (mC (.int 0))) (aCons (m2 dIx (mVar 2) (mC (.int 1))) (aCons (mVar 1) aNil)))) (aCons (mF f_length_square (aCons (mVar 2) aNil)) aNil)))) (sSeq (sOwn 5 (mLc (mIt (mF f_shape_sides (aCons (mVar 0) aNil))) [6, 7, 8] (.tp [.nm 6, .nm 7, .nm 8]) (qC true) le_winds_off_0)) (sFrz 5 (sSeq (sOwn 9 (mLc (mIt (mVar 0)) [10, 11, 12] (.tp [.nm 10, .nm 11, .nm 12]) (qC true) le_winds_off_1)) (sFrz 9 (sSeq (mIf (mB (mCall bAll (aCons (mL (mLc (mIt (mVar 5)) [13] (.nm 13) (qC true) le_winds_off_2)) aNil))) (sRet (mC (.str "all"))) (sNx)) (sSeq (mIf (mB (mCall bAny (aCons (mL (mLc (mIt (mVar 9)) [13] (.nm 13) (qC true) le_winds_off_3)) aNil))) (sRet (mC (.str "some"))) (sNx)) (sRet (mC (.str "none"))))))))))))
def f_winds_off : Fn := fnM 3 14 g_winds_off
def lb__law_sack_0 : M Out := sAsg (.nm 3) (m2 dMod (mCall bInt (aCons (m2 dAdd (m2 dAdd (m2 dMul (mVar 3) (mC (.int 69069))) (m2 dMod (mCall bInt (aCons (mVar 4) aNil)) (mC (.int 2147483543)))) (mC (.int 13))) aNil)) (mC (.int 2147483543)))
def g__law_sack : M Out := sSeq (sAsg (.nm 2) (mIf (mB (m2 (dCmp fun i j => decide (i < j)) (mVar 1) (mCall bLen (aCons (mVar 0) aNil)))) (mCall bInt (aCons (m2 dIx (mVar 0) (mVar 1)) aNil)) (m2 dAdd (m2 dMul (mC (.int 7919)) (mVar 1)) (mC (.int 101))))) (sSeq (sAsg (.nm 3) (m2 dAdd (mC (.int 30011)) (m2 dMul (mC (.int 1709)) (mVar 1)))) (sSeq (sFor (mIt (m2 dAdd (mCall bList (aCons (mSl (mVar 0) oNo (oSome (mC (.int 7)))) aNil)) (mL (mLst (aCons (mVar 2) aNil))))) (.nm 4) lb__law_sack_0) (sRetL (mLst (aCons (mIf (mOr (mB (m2 (dCmp fun i j => decide (i < j)) (mVar 2) (mC (.int 0)))) (mB (m2 (dCmp fun i j => decide (j ≤ i)) (mVar 2) (m2 dPow (mC (.int 10)) (mC (.int 18)))))) (mCall bAbs (aCons (mVar 2) aNil)) (mC (.int 0))) (aCons (mVar 3) (aCons (mC (.int 0)) aNil)))))))
def f__law_sack : FnL := fnL 2 5 g__law_sack
def g__law_draw : M Out := sSeq (mIf (mB (m2 (dCmp fun i j => decide (j < i)) (mSk 0 0) (mC (.int 0)))) (sSeq (sAsg (.tp [.sb 0 0, .nm 2]) (mCall bDivmod (aCons (mSk 0 0) (aCons (mVar 1) aNil)))) (sRet (mVar 2))) (sNx)) (sSeq (sAsg (.sb 0 2) (m2 dAdd (mSk 0 2) (mC (.int 1)))) (sSeq (sAsg (.nm 3) (m2 dMod (mCall bInt (aCons (m2 dAdd (m2 dMul (mSk 0 1) (mC (.int 16807))) (m2 dMul (mSk 0 2) (mC (.int 48611)))) aNil)) (mC (.int 2147483543)))) (sSeq (sAsg (.sb 0 1) (m2 dMod (mCall bInt (aCons (m2 dAdd (m2 dMul (mVar 3) (m2 dAdd (m2 dMod (mCall bInt (aCons (m2 dDiv (mVar 3) (mC (.int 11))) aNil)) (mC (.int 3001))) (mC (.int 10007)))) (mC (.int 29))) aNil)) (mC (.int 2147483543)))) (sRet (m2 dMod (mCall bInt (aCons (m2 dDiv (mSk 0 1) (mC (.int 523))) aNil)) (mVar 1))))))
def f__law_draw : Fn := fnM 2 4 g__law_draw
def g__law_one : M Out := sRet (m2 dIx (mVar 1) (mF f__law_draw (aCons (mVar 0) (aCons (mCall bLen (aCons (mVar 1) aNil)) aNil))))
def f__law_one : Fn := fnM 2 2 g__law_one
def t__law_gcd_0 : PL.Env → S → Nat := fun ρ _ => match ρ[1]? with
  | some (some (Cell.fz (.int b))) => b.natAbs + 1
  | _ => 0
def lc__law_gcd_0 : M Bool := mB (m2 (dNe) (mVar 1) (mC (.int 0)))
def lb__law_gcd_0 : M Out := sPar 0 1 (aCons (mVar 1) (aCons (m2 dMod (mCall bInt (aCons (mVar 0) aNil)) (mVar 1)) aNil))
def g__law_gcd : M Out := sSeq (sPar 0 1 (aCons (mCall bAbs (aCons (mVar 0) aNil)) (aCons (mCall bAbs (aCons (mVar 1) aNil)) aNil))) (sSeq (sWh t__law_gcd_0 lc__law_gcd_0 lb__law_gcd_0) (sRet (mVar 0)))
def f__law_gcd : Fn := fnM 2 2 g__law_gcd
def g__law_spot : M Out := sSeq (sAsg (.nm 3) (mF f__law_gcd (aCons (mF f__law_gcd (aCons (mVar 0) (aCons (mVar 1) aNil))) (aCons (mVar 2) aNil)))) (sRet (mTup (aCons (m2 dDiv (mVar 0) (mVar 3)) (aCons (m2 dDiv (mVar 1) (mVar 3)) (aCons (m2 dDiv (mVar 2) (mVar 3)) aNil)))))
def f__law_spot : Fn := fnM 3 4 g__law_spot
def le__law_said_0 : M D := mF f__law_spot (aCons (mVar 2) (aCons (mVar 3) (aCons (mVar 1) aNil)))
def g__law_said : M Out := sRet (mCall bTuple (aCons (mL (mLc (mIt (mVar 0)) [2, 3] (.tp [.nm 2, .nm 3]) (qC true) le__law_said_0)) aNil))
def f__law_said : Fn := fnM 2 4 g__law_said
def g__law_bend : M Out := sRet (m2 dSub (m2 dMul (m2 dSub (m2 dIx (mVar 1) (mC (.int 0))) (m2 dIx (mVar 0) (mC (.int 0)))) (m2 dSub (m2 dIx (mVar 2) (mC (.int 1))) (m2 dIx (mVar 0) (mC (.int 1))))) (m2 dMul (m2 dSub (m2 dIx (mVar 1) (mC (.int 1))) (m2 dIx (mVar 0) (mC (.int 1)))) (m2 dSub (m2 dIx (mVar 2) (mC (.int 0))) (m2 dIx (mVar 0) (mC (.int 0))))))
def f__law_bend : Fn := fnM 3 3 g__law_bend
def t__law_chain_0 : PL.Env → S → Nat := fun ρ _ => match owAt 1 ρ with
  | some ds => ds.length + 1
  | none => 0
def lc__law_chain_0 : M Bool := mAnd (mB (m2 (dCmp fun i j => decide (j < i)) (mLenO 1) (mC (.int 1)))) (mB (m2 (dCmp fun i j => decide (i ≤ j)) (mF f__law_bend (aCons (mIxO 1 (m1 dNeg (mC (.int 2)))) (aCons (mIxO 1 (m1 dNeg (mC (.int 1)))) (aCons (mVar 2) aNil)))) (mC (.int 0))))
def lb__law_chain_0 : M Out := sPop 1
def lb__law_chain_1 : M Out := sSeq (sWh t__law_chain_0 lc__law_chain_0 lb__law_chain_0) (sApp 1 (mVar 2))
def g__law_chain : M Out := sSeq (sOwn 1 (mLst aNil)) (sSeq (sFor (mIt (mVar 0)) (.nm 2) lb__law_chain_1) (sFrz 1 (sRet (mVar 1))))
def f__law_chain : Fn := fnM 1 3 g__law_chain
def g__law_rim : M Out := sSeq (sAsg (.nm 1) (mL (mSrtU (mLo (mVar 0))))) (sSeq (mIf (mB (m2 (dCmp fun i j => decide (i < j)) (mCall bLen (aCons (mVar 1) aNil)) (mC (.int 3)))) (sRet (mVar 1)) (sNx)) (sRet (m2 dAdd (mSl (mF f__law_chain (aCons (mVar 1) aNil)) oNo (oSome (m1 dNeg (mC (.int 1))))) (mSl (mF f__law_chain (aCons (mL (mRev (mLo (mVar 1)))) aNil)) oNo (oSome (m1 dNeg (mC (.int 1))))))))
def f__law_rim : Fn := fnM 1 2 g__law_rim
def lb__law_boat_0 : M Out := sApp 1 (mTup (aCons (m2 dSub (mF f__law_draw (aCons (mVar 0) (aCons (mC (.int 9)) aNil))) (mC (.int 4))) (aCons (m2 dSub (mF f__law_draw (aCons (mVar 0) (aCons (mC (.int 9)) aNil))) (mC (.int 4))) aNil)))
def le__law_boat_1 : M D := mTup (aCons (m2 dMul (mVar 4) (mCall bAbs (aCons (mVar 6) aNil))) (aCons (m2 dMul (mVar 5) (mCall bAbs (aCons (mVar 7) aNil))) aNil))
def g__law_boat : M Out := sSeq (sParOF 1 2 (mLst (aCons (mTup (aCons (mC (.int 0)) (aCons (mC (.int 0)) aNil))) aNil)) (mF f__law_draw (aCons (mVar 0) (aCons (mC (.int 5)) aNil)))) (sSeq (sFor (mA rg1 (aCons (m2 dAdd (mC (.int 1)) (mF f__law_draw (aCons (mVar 0) (aCons (mC (.int 3)) aNil)))) aNil)) (.nm 3) lb__law_boat_0) (sSeq (mIf (mB (m2 (dCmp fun i j => decide (i < j)) (mVar 2) (mC (.int 2)))) (sOwn 1 (mCat (mItO 1) (mLst (aCons (mTup (aCons (m2 dAdd (mC (.int 1)) (mVar 2)) (aCons (mC (.int 0)) aNil))) (aCons (mTup (aCons (m2 dSub (mC (.int 0)) (mVar 2)) (aCons (mC (.int 1)) aNil))) (aCons (mTup (aCons (m1 dNeg (mC (.int 1))) (aCons (m1 dNeg (mC (.int 1))) aNil))) aNil)))))) (mIf (mB (m2 (dEq) (mVar 2) (mC (.int 2)))) (sSeq (sAsg (.tp [.nm 4, .nm 5]) (mTup (aCons (mF f__law_one (aCons (mVar 0) (aCons (mTup (aCons (mC (.int 1)) (aCons (m1 dNeg (mC (.int 1))) aNil))) aNil))) (aCons (mF f__law_one (aCons (mVar 0) (aCons (mTup (aCons (mC (.int 1)) (aCons (m1 dNeg (mC (.int 1))) aNil))) aNil))) aNil)))) (sOwn 1 (mCat (mLc (mItO 1) [6, 7] (.tp [.nm 6, .nm 7]) (qC true) le__law_boat_1) (mLst (aCons (mTup (aCons (mVar 4) (aCons (mC (.int 0)) aNil))) (aCons (mTup (aCons (mVar 4) (aCons (m2 dMul (mC (.int 2)) (mVar 5)) aNil))) aNil)))))) (sNx))) (sFrz 1 (sSeq (sAsg (.nm 8) (mF f__law_rim (aCons (mVar 1) aNil))) (sSeq (mIf (mB (m2 (dCmp fun i j => decide (i < j)) (mCall bLen (aCons (mVar 8) aNil)) (mC (.int 3)))) (sAsg (.nm 8) (mF f__law_rim (aCons (m2 dAdd (mVar 1) (mL (mLst (aCons (mTup (aCons (mC (.int 1)) (aCons (mC (.int 2)) aNil))) (aCons (mTup (aCons (mC (.int 2)) (aCons (m1 dNeg (mC (.int 1))) aNil))) aNil))))) aNil))) (sNx)) (sRet (mL (mLst (aCons (mVar 8) (aCons (m2 dAdd (mC (.int 1)) (mF f__law_draw (aCons (mVar 0) (aCons (mC (.int 3)) aNil)))) aNil))))))))))
def f__law_boat : Fn := fnM 1 9 g__law_boat
def g__law_side : M Out := sSeq (sPar3 1 2 3 (aCons (m2 dSub (mF f__law_draw (aCons (mVar 0) (aCons (mC (.int 7)) aNil))) (mC (.int 3))) (aCons (m2 dSub (mF f__law_draw (aCons (mVar 0) (aCons (mC (.int 7)) aNil))) (mC (.int 3))) (aCons (m2 dSub (mF f__law_draw (aCons (mVar 0) (aCons (mC (.int 19)) aNil))) (mC (.int 9))) aNil)))) (sSeq (sAsg (.nm 1) (mIf (mOr (mB (m2 (dNe) (mVar 2) (mC (.int 0)))) (mB (m2 (dNe) (mVar 1) (mC (.int 0))))) (mVar 1) (mC (.int 2)))) (sSeq (sAsg (.nm 4) (mF f__law_gcd (aCons (mF f__law_gcd (aCons (mVar 1) (aCons (mVar 2) aNil))) (aCons (mVar 3) aNil)))) (sRet (mTup (aCons (m2 dDiv (mVar 1) (mVar 4)) (aCons (m2 dDiv (mVar 2) (mVar 4)) (aCons (m2 dDiv (mVar 3) (mVar 4)) aNil)))))))
def f__law_side : Fn := fnM 1 5 g__law_side
def g__law_wind : M Out := sSeq (sAsg (.nm 2) (mF f__law_gcd (aCons (mVar 0) (aCons (mVar 1) aNil)))) (sRet (mTup (aCons (m2 dDiv (mVar 0) (mVar 2)) (aCons (m2 dDiv (mVar 1) (mVar 2)) aNil))))
def f__law_wind : Fn := fnM 2 3 g__law_wind
def lb__law_is_held_0 : M Out := sAsg (.nm 10) (mCall bMax (aCons (mVar 10) (aCons (m2 dSub (m2 dSub (mC (.int 0)) (m2 dMul (mVar 4) (m2 dSub (m2 dMul (mVar 7) (mVar 11)) (m2 dMul (mVar 8) (mVar 12))))) (m2 dMul (mVar 5) (m2 dAdd (m2 dMul (mVar 8) (mVar 11)) (m2 dMul (mVar 7) (mVar 12))))) aNil)))
def g__law_is_held : M Out := sSeq (sAsg (.tp [.nm 4, .nm 5, .nm 6]) (mVar 2)) (sSeq (sAsg (.tp [.nm 7, .nm 8]) (mVar 3)) (sSeq (sPar 9 10 (aCons (m2 dAdd (m2 dMul (mVar 4) (m2 dIx (mVar 1) (mC (.int 0)))) (m2 dMul (mVar 5) (m2 dIx (mVar 1) (mC (.int 1))))) (aCons (mC (.int 0)) aNil))) (sSeq (sFor (mIt (m2 dIx (mVar 0) (mC (.int 0)))) (.tp [.nm 11, .nm 12]) lb__law_is_held_0) (sRet (mOrV (m2 (dCmp fun i j => decide (i ≤ j)) (mVar 9) (mC (.int 0))) (m2 (dCmp fun i j => decide (i ≤ j)) (m2 dMul (m2 dMul (m2 dMul (m2 dMul (mVar 9) (mVar 9)) (m2 dIx (mVar 0) (mC (.int 1)))) (m2 dIx (mVar 0) (mC (.int 1)))) (m2 dAdd (m2 dMul (mVar 7) (mVar 7)) (m2 dMul (mVar 8) (mVar 8)))) (m2 dMul (m2 dMul (m2 dMul (mVar 10) (mVar 10)) (m2 dIx (mVar 1) (mC (.int 2)))) (m2 dIx (mVar 1) (mC (.int 2))))))))))
def f__law_is_held : Fn := fnM 4 13 g__law_is_held
def g__law_against : M Out := sSeq (sAsg (.tp [.nm 3, .nm 4, .nm 5]) (mVar 0)) (sRet (mF f__law_wind (aCons (m2 dSub (m2 dSub (mC (.int 0)) (m2 dMul (mVar 3) (mVar 1))) (m2 dMul (mVar 4) (mVar 2))) (aCons (m2 dSub (m2 dMul (mVar 3) (mVar 2)) (m2 dMul (mVar 4) (mVar 1))) aNil))))
def f__law_against : Fn := fnM 3 6 g__law_against
def g_ratio_sum : M Out := sRet (mF f_ratio (aCons (m2 dAdd (m2 dMul (m2 dIx (mVar 0) (mC (.int 0))) (m2 dIx (mVar 1) (mC (.int 1)))) (m2 dMul (m2 dIx (mVar 1) (mC (.int 0))) (m2 dIx (mVar 0) (mC (.int 1))))) (aCons (m2 dMul (m2 dIx (mVar 0) (mC (.int 1))) (m2 dIx (mVar 1) (mC (.int 1)))) aNil)))
def f_ratio_sum : Fn := fnM 2 2 g_ratio_sum
def g_ratio_gap : M Out := sRet (mF f_ratio (aCons (m2 dSub (m2 dMul (m2 dIx (mVar 0) (mC (.int 0))) (m2 dIx (mVar 1) (mC (.int 1)))) (m2 dMul (m2 dIx (mVar 1) (mC (.int 0))) (m2 dIx (mVar 0) (mC (.int 1))))) (aCons (m2 dMul (m2 dIx (mVar 0) (mC (.int 1))) (m2 dIx (mVar 1) (mC (.int 1)))) aNil)))
def f_ratio_gap : Fn := fnM 2 2 g_ratio_gap
def g_parts_along : M Out := sSeq (sAsg (.tp [.tp [.nm 3, .nm 4, .nm 5], .tp [.nm 6, .nm 7, .nm 8], .tp [.nm 9, .nm 10, .nm 11]]) (mTup (aCons (mVar 0) (aCons (mVar 1) (aCons (mVar 2) aNil))))) (sSeq (sAsg (.nm 12) (m2 dSub (m2 dMul (mVar 3) (mVar 7)) (m2 dMul (mVar 4) (mVar 6)))) (sSeq (mIf (mB (m2 (dEq) (mVar 12) (mC (.int 0)))) (sRet (mC .none)) (sNx)) (sRet (mTup (aCons (mF f_ratio (aCons (m2 dMul (m2 dSub (m2 dMul (mVar 9) (mVar 7)) (m2 dMul (mVar 10) (mVar 6))) (mVar 5)) (aCons (m2 dMul (mVar 12) (mVar 11)) aNil))) (aCons (mF f_ratio (aCons (m2 dMul (m2 dSub (m2 dMul (mVar 3) (mVar 10)) (m2 dMul (mVar 4) (mVar 9))) (mVar 8)) (aCons (m2 dMul (mVar 12) (mVar 11)) aNil))) aNil))))))
def f_parts_along : Fn := fnM 3 13 g_parts_along
def lb_time_and_side_0 : M Out := sSeq (sAsg (.nm 11) (m2 dAdd (m2 dMul (mVar 8) (mVar 2)) (m2 dMul (mVar 9) (mVar 3)))) (mIf (mB (m2 (dCmp fun i j => decide (j < i)) (mVar 10) (mC (.int 0)))) (sSeq (sAsg (.nm 12) (mF f_ratio (aCons (mVar 11) (aCons (m2 dMul (mVar 10) (mVar 4)) aNil)))) (mIf (mB (mF f_is_less (aCons (mVar 5) (aCons (mVar 12) aNil)))) (sPar 5 6 (aCons (mVar 12) (aCons (mVar 7) aNil))) (sNx))) (mIf (mB (m2 (dCmp fun i j => decide (j < i)) (mVar 11) (mC (.int 0)))) (sRet (mTup (aCons (mC .none) (aCons (mC .none) aNil)))) (sNx)))
def g_time_and_side : M Out := sSeq (sAsg (.tp [.nm 2, .nm 3, .nm 4]) (mVar 1)) (sSeq (sPar 5 6 (aCons (mC (.tuple [(.int 0), (.int 1)])) (aCons (mC .none) aNil))) (sSeq (sFor (mEn (mVar 0)) (.tp [.nm 7, .tp [.nm 8, .nm 9, .nm 10]]) lb_time_and_side_0) (sRet (mTup (aCons (mVar 5) (aCons (mVar 6) aNil))))))
def f_time_and_side : Fn := fnM 2 13 g_time_and_side
def le_soonest_tacks_0 : M D := mTup (aCons (mVar 6) (aCons (mVar 7) aNil))
def g_soonest_tacks : M Out := sSeq (sAsg (.tp [.nm 2, .nm 3]) (mF f_time_and_side (aCons (mF f_shape_sides (aCons (mVar 0) aNil)) (aCons (mVar 1) aNil)))) (sSeq (mIf (mB (m2 (dIsN) (mVar 2) (mC .none))) (sRet (mC .none)) (sNx)) (sSeq (mIf (mB (m2 (dIsN) (mVar 3) (mC .none))) (sRet (mTup aNil)) (sNx)) (sSeq (sAsg (.nm 4) (mTup (aCons (m2 dIx (mVar 0) (mVar 3)) (aCons (m2 dIx (mVar 0) (m2 dMod (m2 dAdd (mVar 3) (mC (.int 1))) (mCall bLen (aCons (mVar 0) aNil)))) aNil)))) (sSeq (sAsg (.nm 5) (mF f_parts_along (aCons (m2 dIx (mVar 4) (mC (.int 0))) (aCons (m2 dIx (mVar 4) (mC (.int 1))) (aCons (mVar 1) aNil))))) (sRet (mCall bTuple (aCons (mL (mLc (mA zpOf (aCons (mVar 4) (aCons (mVar 5) aNil))) [6, 7] (.tp [.nm 6, .nm 7]) (mB (m2 (dNe) (mVar 7) (mC (.tuple [(.int 0), (.int 1)])))) le_soonest_tacks_0)) aNil)))))))
def f_soonest_tacks : Fn := fnM 2 8 g_soonest_tacks
def g_is_channel : M Out := sSeq (mIf (mOr (mNot (mB (mF f_are_whole (aCons (mVar 0) (aCons (mC (.int 4)) aNil))))) (mOr (mB (m2 (dEq) (mSl (mVar 0) oNo (oSome (mC (.int 2)))) (mTup (aCons (mC (.int 0)) (aCons (mC (.int 0)) aNil))))) (mB (m2 (dCmp fun i j => decide (j ≤ i)) (m2 dIx (mVar 0) (mC (.int 2))) (m2 dIx (mVar 0) (mC (.int 3))))))) (sRet (mC (.bool false))) (sNx)) (sRet (m2 (dEq) (mCall bGcd4 (aCons (m2 dIx (mVar 0) (mC (.int 0))) (aCons (m2 dIx (mVar 0) (mC (.int 1))) (aCons (m2 dIx (mVar 0) (mC (.int 2))) (aCons (m2 dIx (mVar 0) (mC (.int 3))) aNil))))) (mC (.int 1))))
def f_is_channel : Fn := fnM 1 1 g_is_channel
def g_need_channel : M Out := mIf (mNot (mB (mF f_is_channel (aCons (mVar 0) aNil)))) (sNo) (sNx)
def f_need_channel : Fn := fnM 1 1 g_need_channel
def g_cross_by : M Out := sRet (mF f_along (aCons (m2 dIx (mVar 0) (mC (.int 0))) (aCons (m2 dIx (mVar 0) (mC (.int 1))) (aCons (mVar 1) aNil))))
def f_cross_by : Fn := fnM 2 2 g_cross_by
def g_cross_of : M Out := sSeq (sEx (mF f_need_channel (aCons (mVar 0) aNil))) (sSeq (sEx (mF f_need_point (aCons (mVar 1) aNil))) (sRet (mF f_cross_by (aCons (mVar 0) (aCons (mVar 1) aNil)))))
def f_cross_of : Fn := fnM 2 2 g_cross_of
def lb_rise_and_fall_by_0 : M Out := sSeq (sAsg (.nm 6) (mF f_ratio_product (aCons (mF f_cross_by (aCons (mVar 0) (aCons (mVar 4) aNil))) (aCons (mVar 5) aNil)))) (mIf (mB (mF f_is_less (aCons (mVar 6) (aCons (mC (.tuple [(.int 0), (.int 1)])) aNil)))) (sAsg (.nm 3) (mF f_ratio_gap (aCons (mVar 3) (aCons (mVar 6) aNil)))) (sAsg (.nm 2) (mF f_ratio_sum (aCons (mVar 2) (aCons (mVar 6) aNil)))))
def g_rise_and_fall_by : M Out := sSeq (sPar 2 3 (aCons (mC (.tuple [(.int 0), (.int 1)])) (aCons (mC (.tuple [(.int 0), (.int 1)])) aNil))) (sSeq (sFor (mIt (mVar 1)) (.tp [.nm 4, .nm 5]) lb_rise_and_fall_by_0) (sRet (mTup (aCons (mVar 2) (aCons (mVar 3) aNil)))))
def f_rise_and_fall_by : Fn := fnM 2 7 g_rise_and_fall_by
def g_rise_and_fall : M Out := sSeq (sEx (mF f_need_figure (aCons (mVar 0) aNil))) (sSeq (sEx (mF f_need_channel (aCons (mVar 1) aNil))) (sSeq (sEx (mF f_need_point (aCons (mVar 2) aNil))) (sSeq (sAsg (.nm 3) (mF f_soonest_tacks (aCons (mVar 0) (aCons (mVar 2) aNil)))) (sSeq (mIf (mB (m2 (dIsN) (mVar 3) (mC .none))) (sRet (mC .none)) (sNx)) (sRet (mF f_rise_and_fall_by (aCons (mVar 1) (aCons (mVar 3) aNil))))))))
def f_rise_and_fall : Fn := fnM 3 4 g_rise_and_fall
def g__law_ratio : M Out := sSeq (sAsg (.nm 2) (mF f__law_gcd (aCons (mVar 0) (aCons (mVar 1) aNil)))) (sRet (mIf (mB (m2 (dCmp fun i j => decide (j < i)) (mVar 1) (mC (.int 0)))) (mTup (aCons (m2 dDiv (mVar 0) (mVar 2)) (aCons (m2 dDiv (mVar 1) (mVar 2)) aNil))) (mTup (aCons (m2 dSub (mC (.int 0)) (m2 dDiv (mVar 0) (mVar 2))) (aCons (m2 dSub (mC (.int 0)) (m2 dDiv (mVar 1) (mVar 2))) aNil)))))
def f__law_ratio : Fn := fnM 2 3 g__law_ratio
def g__law_add : M Out := sSeq (mIf (mOr (mB (m2 (dIsN) (mVar 0) (mC .none))) (mB (m2 (dIsN) (mVar 1) (mC .none)))) (sRet (mC .none)) (sNx)) (sRet (mF f__law_ratio (aCons (m2 dAdd (m2 dMul (m2 dIx (mVar 0) (mC (.int 0))) (m2 dIx (mVar 1) (mC (.int 1)))) (m2 dMul (m2 dIx (mVar 1) (mC (.int 0))) (m2 dIx (mVar 0) (mC (.int 1))))) (aCons (m2 dMul (m2 dIx (mVar 0) (mC (.int 1))) (m2 dIx (mVar 1) (mC (.int 1)))) aNil))))
def f__law_add : Fn := fnM 2 2 g__law_add
def g__law_dot : M Out := sRet (mTup (aCons (m2 dSub (mF f__law_draw (aCons (mVar 0) (aCons (mC (.int 15)) aNil))) (mC (.int 7))) (aCons (m2 dSub (mF f__law_draw (aCons (mVar 0) (aCons (mC (.int 15)) aNil))) (mC (.int 7))) aNil)))
def f__law_dot : Fn := fnM 1 1 g__law_dot
def lb__law_parts_0 : M Out := sSeq (sAsg (.tp [.nm 10, .nm 11]) (m2 dIx (mVar 6) (mVar 9))) (sSeq (sAsg (.tp [.nm 12, .nm 13]) (m2 dIx (mVar 6) (mVar 8))) (sSeq (sAsg (.nm 14) (m2 dSub (m2 dMul (mVar 10) (mVar 13)) (m2 dMul (mVar 11) (mVar 12)))) (sSeq (sAsg (.nm 15) (mIf (mB (m2 (dCmp fun i j => decide (j < i)) (mVar 14) (mC (.int 0)))) (mC (.int 1)) (m1 dNeg (mC (.int 1))))) (sSeq (sPar3 16 17 14 (aCons (m2 dMul (mVar 15) (m2 dSub (m2 dMul (mVar 3) (mVar 13)) (m2 dMul (mVar 4) (mVar 12)))) (aCons (m2 dMul (mVar 15) (m2 dSub (m2 dMul (mVar 10) (mVar 4)) (m2 dMul (mVar 11) (mVar 3)))) (aCons (m2 dMul (mVar 15) (mVar 14)) aNil)))) (mIf (mAnd (mB (m2 (dCmp fun i j => decide (j < i)) (mVar 14) (mC (.int 0)))) (mAnd (mB (m2 (dCmp fun i j => decide (j ≤ i)) (mVar 16) (mC (.int 0)))) (mAnd (mB (m2 (dCmp fun i j => decide (j ≤ i)) (mVar 17) (mC (.int 0)))) (mOr (mB (m2 (dIsN) (mVar 7) (mC .none))) (mB (m2 (dCmp fun i j => decide (i < j)) (m2 dMul (m2 dAdd (mVar 16) (mVar 17)) (m2 dIx (mVar 7) (mC (.int 2)))) (m2 dMul (m2 dAdd (m2 dIx (mVar 7) (mC (.int 0))) (m2 dIx (mVar 7) (mC (.int 1)))) (mVar 14)))))))) (sAsg (.nm 7) (mL (mLst (aCons (mVar 16) (aCons (mVar 17) (aCons (mVar 14) (aCons (m2 dIx (mVar 6) (mVar 9)) (aCons (m2 dIx (mVar 6) (mVar 8)) aNil)))))))) (sNx))))))
def lb__law_parts_1 : M Out := sFor (mA rg1 (aCons (mVar 8) aNil)) (.nm 9) lb__law_parts_0
def le__law_parts_2 : M D := mTup (aCons (mVar 19) (aCons (mF f__law_ratio (aCons (mVar 20) (aCons (m2 dMul (m2 dIx (mVar 7) (mC (.int 2))) (mVar 5)) aNil))) aNil))
def g__law_parts : M Out := sSeq (sAsg (.tp [.nm 3, .nm 4, .nm 5]) (mTup (aCons (m2 dSub (m2 dMul (m2 dIx (mVar 2) (mC (.int 0))) (m2 dIx (mVar 1) (mC (.int 2)))) (m2 dMul (m2 dIx (mVar 1) (mC (.int 0))) (m2 dIx (mVar 2) (mC (.int 2))))) (aCons (m2 dSub (m2 dMul (m2 dIx (mVar 2) (mC (.int 1))) (m2 dIx (mVar 1) (mC (.int 2)))) (m2 dMul (m2 dIx (mVar 1) (mC (.int 1))) (m2 dIx (mVar 2) (mC (.int 2))))) (aCons (m2 dMul (m2 dIx (mVar 1) (mC (.int 2))) (m2 dIx (mVar 2) (mC (.int 2)))) aNil))))) (sSeq (sAsg (.tp [.nm 6, .nm 7]) (mTup (aCons (m2 dIx (mVar 0) (mC (.int 0))) (aCons (mC .none) aNil)))) (sSeq (mIf (mAnd (mB (m2 (dEq) (mVar 3) (mC (.int 0)))) (mB (m2 (dEq) (mVar 4) (mC (.int 0))))) (sRet (mL (mLst aNil))) (sNx)) (sSeq (sFor (mA rg1 (aCons (mCall bLen (aCons (mVar 6) aNil)) aNil)) (.nm 8) lb__law_parts_1) (sSeq (mIf (mB (m2 (dIsN) (mVar 7) (mC .none))) (sRet (mC .none)) (sNx)) (sSeq (sAsg (.nm 18) (mL (mLst (aCons (mTup (aCons (m2 dIx (mVar 7) (mC (.int 3))) (aCons (m2 dIx (mVar 7) (mC (.int 0))) aNil))) (aCons (mTup (aCons (m2 dIx (mVar 7) (mC (.int 4))) (aCons (m2 dIx (mVar 7) (mC (.int 1))) aNil))) aNil))))) (sRet (mL (mLc (mIt (mVar 18)) [19, 20] (.tp [.nm 19, .nm 20]) (mB (m2 (dCmp fun i j => decide (j < i)) (mVar 20) (mC (.int 0)))) le__law_parts_2))))))))
def f__law_parts : Fn := fnM 3 21 g__law_parts
def g__law_normal : M Out := sSeq (sPar 1 2 (aCons (m2 dSub (mF f__law_draw (aCons (mVar 0) (aCons (mC (.int 7)) aNil))) (mC (.int 3))) (aCons (m2 dSub (mF f__law_draw (aCons (mVar 0) (aCons (mC (.int 7)) aNil))) (mC (.int 3))) aNil))) (sRet (mIf (mOr (mB (m2 (dNe) (mVar 1) (mC (.int 0)))) (mB (m2 (dNe) (mVar 2) (mC (.int 0))))) (mTup (aCons (mVar 1) (aCons (mVar 2) aNil))) (mTup (aCons (mC (.int 0)) (aCons (mC (.int 1)) aNil)))))
def f__law_normal : Fn := fnM 1 3 g__law_normal
def g__law_channel : M Out := sSeq (sAsg (.tp [.nm 3, .nm 4]) (mVar 0)) (sSeq (sAsg (.nm 5) (mF f__law_gcd (aCons (mF f__law_gcd (aCons (mVar 3) (aCons (mVar 4) aNil))) (aCons (mF f__law_gcd (aCons (mVar 1) (aCons (mVar 2) aNil))) aNil)))) (sRet (mTup (aCons (m2 dDiv (mVar 3) (mVar 5)) (aCons (m2 dDiv (mVar 4) (mVar 5)) (aCons (m2 dDiv (mVar 1) (mVar 5)) (aCons (m2 dDiv (mVar 2) (mVar 5)) aNil)))))))
def f__law_channel : Fn := fnM 3 6 g__law_channel
def lb__law_growth_0 : M Out := sSeq (sAsg (.nm 6) (m2 dAdd (m2 dMul (m2 dIx (mVar 0) (mC (.int 0))) (m2 dIx (mVar 4) (mC (.int 0)))) (m2 dMul (m2 dIx (mVar 0) (mC (.int 1))) (m2 dIx (mVar 4) (mC (.int 1)))))) (mIf (mB (m2 (dCmp fun i j => decide (j < i)) (mVar 6) (mC (.int 0)))) (sAsg (.nm 2) (mF f__law_add (aCons (mVar 2) (aCons (mF f__law_ratio (aCons (m2 dMul (mVar 6) (m2 dIx (mVar 5) (mC (.int 0)))) (aCons (m2 dIx (mVar 5) (mC (.int 1))) aNil))) aNil)))) (sAsg (.nm 3) (mF f__law_add (aCons (mVar 3) (aCons (mF f__law_ratio (aCons (m2 dSub (mC (.int 0)) (m2 dMul (mVar 6) (m2 dIx (mVar 5) (mC (.int 0))))) (aCons (m2 dIx (mVar 5) (mC (.int 1))) aNil))) aNil)))))
def g__law_growth : M Out := sSeq (sAsg (.tp [.nm 2, .nm 3]) (mTup (aCons (mTup (aCons (mC (.int 0)) (aCons (mC (.int 1)) aNil))) (aCons (mTup (aCons (mC (.int 0)) (aCons (mC (.int 1)) aNil))) aNil)))) (sSeq (sFor (mIt (mVar 1)) (.tp [.nm 4, .nm 5]) lb__law_growth_0) (sRet (mTup (aCons (mVar 2) (aCons (mVar 3) aNil)))))
def f__law_growth : Fn := fnM 2 7 g__law_growth
def g__law_way : M Out := sSeq (sPar 3 4 (aCons (mF f__law_draw (aCons (mVar 0) (aCons (mC (.int 6)) aNil))) (aCons (m2 dSub (mF f__law_draw (aCons (mVar 0) (aCons (mC (.int 13)) aNil))) (mC (.int 6))) aNil))) (sSeq (mIf (mB (m2 (dEq) (mVar 3) (mC (.int 0)))) (sRet (mTup (aCons (mC (.int 0)) (aCons (mC (.int 0)) aNil)))) (sNx)) (sSeq (mIf (mB (m2 (dEq) (mVar 3) (mC (.int 1)))) (sSeq (sAsg (.tp [.nm 5, .nm 6]) (mF f__law_one (aCons (mVar 0) (aCons (m2 dIx (mVar 1) (mC (.int 0))) aNil)))) (sRet (mTup (aCons (m2 dMul (mCall bAbs (aCons (mVar 4) aNil)) (mVar 5)) (aCons (m2 dMul (mCall bAbs (aCons (mVar 4) aNil)) (mVar 6)) aNil))))) (sNx)) (sSeq (mIf (mB (m2 (dEq) (mVar 3) (mC (.int 2)))) (sRet (mTup (aCons (m2 dSub (mC (.int 0)) (m2 dMul (mVar 4) (m2 dIx (mVar 2) (mC (.int 1))))) (aCons (m2 dMul (mVar 4) (m2 dIx (mVar 2) (mC (.int 0)))) aNil)))) (sNx)) (sRet (mF f__law_dot (aCons (mVar 0) aNil))))))
def f__law_way : Fn := fnM 3 7 g__law_way
end WF
/-! numbers of few enough figures; what the program's small defs tell -/
namespace WF
open PySem PySem.Spec PyProof.Rows L2 PL
class Bi (x : Int) (n : outParam Nat) : Prop where
  h : x.natAbs < 2 ^ n
theorem two_le {a b : Nat} (h : a ≤ b) : (2 : Nat) ^ a ≤ 2 ^ b := Nat.pow_le_pow_right (by decide) h
instance biMul {x y : Int} {a b : Nat} [p : Bi x a] [q : Bi y b] : Bi (x * y) (a + b) := ⟨by
  rw [Int.natAbs_mul, Nat.pow_add]
  exact Nat.mul_lt_mul'' p.h q.h⟩
theorem sum_lt {m n a b : Nat} (h : m < 2 ^ a) (k : n < 2 ^ b) : m + n < 2 ^ (a + b + 1) := by
  have h1 := two_le (show a ≤ a + b by omega)
  have h2 := two_le (show b ≤ a + b by omega)
  rw [Nat.pow_succ]
  omega
instance biAdd {x y : Int} {a b : Nat} [p : Bi x a] [q : Bi y b] : Bi (x + y) (a + b + 1) := ⟨by
  have := sum_lt p.h q.h
  omega⟩
instance biSub {x y : Int} {a b : Nat} [p : Bi x a] [q : Bi y b] : Bi (x - y) (a + b + 1) := ⟨by
  have := sum_lt p.h q.h
  omega⟩
instance biNeg {x : Int} {a : Nat} [p : Bi x a] : Bi (-x) a := ⟨by rw [Int.natAbs_neg]; exact p.h⟩
instance bi0 : Bi 0 1 := ⟨by decide⟩
instance bi1 : Bi 1 1 := ⟨by decide⟩
instance bi2 : Bi 2 2 := ⟨by decide⟩
instance bi3 : Bi 3 2 := ⟨by decide⟩
theorem Bi.div_le {x g : Int} {a : Nat} (p : x.natAbs < 2 ^ a) : (x / g).natAbs < 2 ^ a := Nat.lt_of_le_of_lt (Int.natAbs_ediv_le_natAbs x g) p
def nmN (a b : Int) : Int := a / gcdI a b
def nmD (a b : Int) : Int := b / gcdI a b
instance biN {a b : Int} {n : Nat} [p : Bi a n] : Bi (nmN a b) n := ⟨Bi.div_le p.h⟩
instance biD {a b : Int} {n : Nat} [p : Bi b n] : Bi (nmD a b) n := ⟨Bi.div_le p.h⟩
theorem Bi.log {x : Int} {n m : Nat} (p : Bi x n) (h : n < m) : x.natAbs.log2 < m := Nat.lt_of_lt_of_le (PySem.Flt.log2_lt_of (Nat.succ_pos n) (Nat.lt_of_lt_of_le p.h (two_le (Nat.le_succ n)))) h
theorem Bi.mono {x : Int} {n m : Nat} (p : Bi x n) (h : n ≤ m) : Bi x m := ⟨Nat.lt_of_lt_of_le p.h (two_le h)⟩
theorem mulB {x y : Int} {a b : Nat} [p : Bi x a] [q : Bi y b] (h : a + b < 900000) : dMul (.int x) (.int y) = some (.int (x * y)) := by
  simp only [dMul]
  have h1 := p.log (Nat.lt_succ_self a)
  have h2 := q.log (Nat.lt_succ_self b)
  rw [if_pos (by omega)]
theorem divB {x y : Int} {b : Nat} [q : Bi y b] (h0 : 0 < y) (h : b < 8999) : dDiv (.int x) (.int y) = some (.int (x / y)) := by
  simp only [dDiv]
  have h2 := q.log (Nat.lt_succ_self b)
  rw [if_pos ⟨h0, by omega⟩]
theorem modB {x y : Int} (h0 : 0 < y) : dMod (.int x) (.int y) = some (.int (x % y)) := by
  simp only [dMod]
  rw [if_pos h0]
theorem eqI {i j : Int} : dEq (.int i) (.int j) = some (.bool (i == j)) := by
  unfold dEq
  rw [if_pos ⟨rfl, rfl⟩]
  rfl
theorem neI {i j : Int} : dNe (.int i) (.int j) = some (.bool (!(i == j))) := by
  unfold dNe
  rw [if_pos ⟨rfl, rfl⟩]
  rfl
theorem neS {x y : Str} : dNe (.str x) (.str y) = some (.bool (!(x == y))) := by
  unfold dNe
  rw [if_pos ⟨rfl, rfl⟩]
  rfl
theorem gcd_pos {a b : Int} (h : 0 < b) : 0 < gcdI a b := by
  unfold gcdI
  have : 0 < a.natAbs.gcd b.natAbs := Nat.gcd_pos_of_pos_right _ (by omega)
  omega
theorem gcd_le {a b : Int} (h : 0 < b) : gcdI a b ≤ b := by
  unfold gcdI
  have : a.natAbs.gcd b.natAbs ≤ b.natAbs := Nat.le_of_dvd (by omega) (Nat.gcd_dvd_right _ _)
  omega
theorem gcd_d1 {a b : Int} : gcdI a b ∣ a := Int.ofNat_dvd_left.mpr (Nat.gcd_dvd_left _ _)
theorem gcd_d2 {a b : Int} : gcdI a b ∣ b := Int.ofNat_dvd_left.mpr (Nat.gcd_dvd_right _ _)
theorem gcd_bi {a b : Int} {n : Nat} (h : 0 < b) (p : Bi b n) : Bi (gcdI a b) n := ⟨by
  have h1 := gcd_pos (a := a) h
  have h2 := gcd_le (a := a) h
  have := p.h
  omega⟩
theorem gcd3_pos {a b c : Int} (h : 0 < c) : 0 < gcdI3 a b c := by
  unfold gcdI3
  have : 0 < (a.natAbs.gcd b.natAbs).gcd c.natAbs := Nat.gcd_pos_of_pos_right _ (by omega)
  omega
theorem gcd3_bi {a b c : Int} {n : Nat} (h : 0 < c) (p : Bi c n) : Bi (gcdI3 a b c) n := ⟨by
  have h1 := gcd3_pos (a := a) (b := b) h
  have : (a.natAbs.gcd b.natAbs).gcd c.natAbs ≤ c.natAbs := Nat.le_of_dvd (by omega) (Nat.gcd_dvd_right _ _)
  unfold gcdI3 at *
  have := p.h
  omega⟩
theorem gcd3_d1 {a b c : Int} : gcdI3 a b c ∣ a := Int.ofNat_dvd_left.mpr (Nat.dvd_trans (Nat.gcd_dvd_left _ _) (Nat.gcd_dvd_left _ _))
theorem gcd3_d2 {a b c : Int} : gcdI3 a b c ∣ b := Int.ofNat_dvd_left.mpr (Nat.dvd_trans (Nat.gcd_dvd_left _ _) (Nat.gcd_dvd_right _ _))
theorem gcd3_d3 {a b c : Int} : gcdI3 a b c ∣ c := Int.ofNat_dvd_left.mpr (Nat.gcd_dvd_right _ _)
abbrev fD (a b : Int) : D := .tuple [.int a, .int b]
abbrev pD (x y w : Int) : D := .tuple [.int x, .int y, .int w]
/-- the point x / w, y / w in least terms -/
def nm3 (x y w : Int) : D := pD (x / gcdI3 x y w) (y / gcdI3 x y w) (w / gcdI3 x y w)
theorem e_ratio {a b : Int} {s : S} {m : Nat} (hb : 0 < b) [p : Bi b m] (hm : m < 8999) : f_ratio [.int a, .int b] s = some (fD (nmN a b) (nmD a b), s) := by
  have h1 : ¬ b < 0 := by omega
  have h2 := gcd_pos (a := a) hb
  have i1 := gcd_bi (a := a) hb p
  have h3 : dDiv (.int a) (.int (gcdI a b)) = _ := divB h2 hm
  have h4 : dDiv (.int b) (.int (gcdI a b)) = _ := divB h2 hm
  unfold nmN nmD
  simp [f_ratio, fnM, g_ratio, startE, sSeq, sAsg, mCall, aCons, aNil, mThen, mLift, mVar, bGcd, bnd, mIf, mB, m2, mC, dCmp, bOf, sNx, sRet, mTup, isDs, isD, h3, h4, h1, sizeLine_eq]
theorem e_point_of {x y w : Int} {s : S} {m : Nat} (hw : 0 < w) [p : Bi w m] (hm : m < 8999) : f_point_of [.int x, .int y, .int w] s = some (nm3 x y w, s) := by
  have h1 : ¬ w < 0 := by omega
  have h2 := gcd3_pos (a := x) (b := y) hw
  have i1 := gcd3_bi (a := x) (b := y) hw p
  have h3 : ∀ z, dDiv (.int z) (.int (gcdI3 x y w)) = some (.int (z / gcdI3 x y w)) := fun z => divB h2 hm
  unfold nm3
  simp [f_point_of, fnM, g_point_of, startE, sSeq, sAsg, mCall, aCons, aNil, mThen, mLift, mVar, bGcd, bnd, mIf, mB, m2, mC, dCmp, bOf, sNx, sRet, mTup, isDs, isD, h3, h1, sizeLine_eq]
theorem e_is_less {a b c d : Int} {s : S} {i j k l : Nat} [Bi a i] [Bi b j] [Bi c k] [Bi d l] (h1 : i + l < 900000) (h2 : k + j < 900000) : f_is_less [fD a b, fD c d] s = some (.bool (decide (a * d < c * b)), s) := by
  have k1 : dMul (.int a) (.int d) = _ := mulB h1
  have k2 : dMul (.int c) (.int b) = _ := mulB h2
  simp [f_is_less, fnM, g_is_less, startE, mThen, mLift, mVar, m2, mC, sRet, dIx, atI, ixN, dCmp, k1, k2]
theorem e_ratio_product {a b c d : Int} {s : S} {i j k l : Nat} [Bi a i] [Bi b j] [Bi c k] [Bi d l] (h1 : i + k < 900000) (h2 : j + l < 8999) (hb : 0 < b) (hd : 0 < d) : f_ratio_product [fD a b, fD c d] s = some (fD (nmN (a * c) (b * d)) (nmD (a * c) (b * d)), s) := by
  have k1 : dMul (.int a) (.int c) = _ := mulB h1
  have k2 : dMul (.int b) (.int d) = _ := mulB (by omega)
  have k3 := e_ratio (a := a * c) (b := b * d) (s := s) (Int.mul_pos hb hd) h2
  simp [f_ratio_product, fnM, g_ratio_product, startE, mThen, mLift, mVar, m2, mC, sRet, dIx, atI, ixN, k1, k2, mF, aCons, aNil, k3]
theorem e_along {a b x y w : Int} {s : S} {i j k l m : Nat} [Bi a i] [Bi b j] [Bi x k] [Bi y l] [Bi w m] (h1 : i + k < 900000) (h2 : j + l < 900000) (hw : 0 < w) (hm : m < 8999) : f_along [.int a, .int b, pD x y w] s = some (fD (nmN (a * x + b * y) w) (nmD (a * x + b * y) w), s) := by
  have k1 : dMul (.int a) (.int x) = _ := mulB h1
  have k2 : dMul (.int b) (.int y) = _ := mulB h2
  have k3 := e_ratio (a := a * x + b * y) (b := w) (s := s) hw hm
  simp [f_along, fnM, g_along, startE, mThen, mLift, mVar, m2, mC, sRet, dIx, atI, ixN, k1, k2, dAdd, mF, aCons, aNil, k3]
theorem e_is_whole {a : Int} {s : S} : f_is_whole [.int a] s = some (.bool true, s) := by
  simp [f_is_whole, fnM, g_is_whole, startE, mThen, mLift, mVar, m1, mAndV, mIf, mB, bOf, sRet, dIs, isD, isT, dNot]
theorem le_is_whole {ρ : PL.Env} {a : Int} {s : S} (h : ρ[2]? = some (some (.fz (.int a)))) : le_are_whole_0 ρ s = some (.bool true, s) := by
  simp [le_are_whole_0, mF, aCons, aNil, mThen, mLift, mVar, h, e_is_whole]
theorem e_are_whole3 {a b c : Int} {s : S} : f_are_whole [pD a b c, .int 3] s = some (.bool true, s) := by
  simp [f_are_whole, fnM, g_are_whole, startE, mThen, mLift, mVar, m1, m2, mC, mAndV, mIf, mB, bOf, sRet, dIs, isD, isT, dNot, mCall, bLen, aCons, aNil, eqI, mL, mLc, mIt, itOf, sizeLine_eq, lcGo, bnd, wipeE, qC, le_is_whole, bAll, boolsOf]
theorem e_are_whole2 {a b : Int} {s : S} : f_are_whole [fD a b, .int 2] s = some (.bool true, s) := by
  simp [f_are_whole, fnM, g_are_whole, startE, mThen, mLift, mVar, m1, m2, mC, mAndV, mIf, mB, bOf, sRet, dIs, isD, isT, dNot, mCall, bLen, aCons, aNil, eqI, mL, mLc, mIt, itOf, sizeLine_eq, lcGo, bnd, wipeE, qC, le_is_whole, bAll, boolsOf]
theorem e_is_point {x y w : Int} {s : S} (hw : 0 < w) (hg : gcdI3 x y w = 1) : f_is_point [pD x y w] s = some (.bool true, s) := by
  simp [f_is_point, fnM, g_is_point, startE, mThen, mLift, mVar, m2, mC, mAndV, mIf, mB, bOf, sRet, mF, aCons, aNil, e_are_whole3, dIx, atI, ixN, dCmp, hw, mCall, bGcd, hg, eqI]
theorem e_is_direction {x y : Int} {s : S} (hg : gcdI x y = 1) : f_is_direction [fD x y] s = some (.bool true, s) := by
  simp [f_is_direction, fnM, g_is_direction, startE, mThen, mLift, mVar, m2, mC, mAndV, mIf, mB, bOf, sRet, mF, aCons, aNil, e_are_whole2, dIx, atI, ixN, mCall, bGcd, hg, eqI]
theorem ne00 {a b : Int} (h : a ≠ 0 ∨ b ≠ 0) : dNe (.tuple [.int a, .int b]) (.tuple [.int 0, .int 0]) = some (.bool true) := by
  unfold dNe
  rw [if_pos ⟨rfl, rfl⟩]
  simp [PyData.eqv, PyData.eqvAll]
  omega
theorem e_is_side {a b h : Int} {s : S} (hn : a ≠ 0 ∨ b ≠ 0) (hg : gcdI3 a b h = 1) : f_is_side [pD a b h] s = some (.bool true, s) := by
  have e : PL.cutD [PyData.int a, PyData.int b, PyData.int h] none (some 2) = [PyData.int a, PyData.int b] := rfl
  simp [f_is_side, fnM, g_is_side, startE, mThen, mLift, mVar, m2, mC, mAndV, mIf, mB, bOf, sRet, mF, aCons, aNil, e_are_whole3, mSl, oNo, oSome, dSl, e, mTup, isDs, isD, sizeLine_eq, ne00 hn, dIx, atI, ixN, mCall, bGcd, hg, eqI]
theorem e_need_point {x y w : Int} {s : S} (hw : 0 < w) (hg : gcdI3 x y w = 1) : f_need_point [pD x y w] s = some (.none, s) := by
  simp [f_need_point, fnM, g_need_point, startE, mThen, mLift, mVar, mIf, mB, bOf, mNot, sNx, mF, aCons, aNil, e_is_point hw hg]
theorem e_need_side {a b h : Int} {s : S} (hn : a ≠ 0 ∨ b ≠ 0) (hg : gcdI3 a b h = 1) : f_need_side [pD a b h] s = some (.none, s) := by
  simp [f_need_side, fnM, g_need_side, startE, mThen, mLift, mVar, mIf, mB, bOf, mNot, sNx, mF, aCons, aNil, e_is_side hn hg]
theorem e_need_wind {x y : Int} {s : S} (hg : gcdI x y = 1) : f_need_wind [fD x y] s = some (.none, s) := by
  simp [f_need_wind, fnM, g_need_wind, startE, mThen, mLift, mVar, mIf, mB, bOf, mNot, sNx, mF, aCons, aNil, e_is_direction hg]
theorem e_course_to {x y w u v t : Int} {s : S} {i j k l m n : Nat} [Bi x i] [Bi y j] [Bi w k] [Bi u l] [Bi v m] [Bi t n] (h : i + j + k + l + m + n < 900000) : f_course_to [pD x y w, pD u v t] s = some (fD (u * w - x * t) (v * w - y * t), s) := by
  have k1 : dMul (.int u) (.int w) = _ := mulB (by omega)
  have k2 : dMul (.int x) (.int t) = _ := mulB (by omega)
  have k3 : dMul (.int v) (.int w) = _ := mulB (by omega)
  have k4 : dMul (.int y) (.int t) = _ := mulB (by omega)
  simp [f_course_to, fnM, g_course_to, startE, sSeq, sAsg, bnd, bnds, mThen, mLift, mVar, mTup, aCons, aNil, isDs, isD, sizeLine_eq, m2, k1, k2, k3, k4, dSub, sRet]
theorem e_side_of {a b p q : Int} {s : S} {i j k : Nat} [Bi a i] [Bi b j] [Bi q k] (h : i + j + k < 900000) (h2 : 0 < gcdI3 (a * q) (b * q) p) {m : Nat} [Bi (gcdI3 (a * q) (b * q) p) m] (hm : m < 8999) :
    f_side_of [.int a, .int b, fD p q] s = some (nm3 (a * q) (b * q) p, s) := by
  have k1 : dMul (.int a) (.int q) = _ := mulB (by omega)
  have k2 : dMul (.int b) (.int q) = _ := mulB (by omega)
  have h3 : ∀ z, dDiv (.int z) (.int (gcdI3 (a * q) (b * q) p)) = some (.int (z / gcdI3 (a * q) (b * q) p)) := fun z => divB h2 hm
  unfold nm3
  simp [f_side_of, fnM, g_side_of, startE, sSeq, sAsg, bnd, bnds, mThen, mLift, mVar, mTup, aCons, aNil, isDs, isD, sizeLine_eq, m2, k1, k2, mCall, bGcd, h3, sRet]
theorem e_overshoot {a b h x y w : Int} {s : S} {i j k l m n : Nat} [Bi a i] [Bi b j] [Bi h k] [Bi x l] [Bi y m] [Bi w n] (hh : i + j + k + l + m + n < 900000) : f_overshoot [pD a b h, pD x y w] s = some (.int (a * x + b * y - h * w), s) := by
  have k1 : dMul (.int a) (.int x) = _ := mulB (by omega)
  have k2 : dMul (.int b) (.int y) = _ := mulB (by omega)
  have k3 : dMul (.int h) (.int w) = _ := mulB (by omega)
  simp [f_overshoot, fnM, g_overshoot, startE, mThen, mLift, mVar, m2, mC, sRet, dIx, atI, ixN, k1, k2, k3, dAdd, dSub]
theorem e_length_square {x y : Int} {s : S} {i j : Nat} [Bi x i] [Bi y j] (h : i + j < 400000) : f_length_square [fD x y] s = some (.int (x * x + y * y), s) := by
  have k1 : dMul (.int x) (.int x) = _ := mulB (by omega)
  have k2 : dMul (.int y) (.int y) = _ := mulB (by omega)
  simp [f_length_square, fnM, g_length_square, startE, mThen, mLift, mVar, m2, mC, sRet, dIx, atI, ixN, k1, k2, dAdd]
theorem e_length_square3 {x y z : Int} {s : S} {i j : Nat} [Bi x i] [Bi y j] (h : i + j < 400000) : f_length_square [pD x y z] s = some (.int (x * x + y * y), s) := by
  have k1 : dMul (.int x) (.int x) = _ := mulB (by omega)
  have k2 : dMul (.int y) (.int y) = _ := mulB (by omega)
  simp [f_length_square, fnM, g_length_square, startE, mThen, mLift, mVar, m2, mC, sRet, dIx, atI, ixN, k1, k2, dAdd]
theorem e_is_up_to_root {a b c d : Int} {s : S} {i j k l : Nat} [Bi a i] [Bi b j] [Bi c k] [Bi d l] (hb : 0 < b) (hh : i + j + k + l < 4000) : f_is_up_to_root [fD a b, fD c d] s = some (.bool (decide (a ≤ 0) || !decide (c * nmD (a * a) (b * b) < nmN (a * a) (b * b) * d)), s) := by
  have k1 := e_ratio_product (a := a) (b := b) (c := a) (d := b) (s := s) (by omega) (by omega) hb hb
  have k2 := e_is_less (a := c) (b := d) (c := nmN (a * a) (b * b)) (d := nmD (a * a) (b * b)) (s := s) (by omega) (by omega)
  by_cases h0 : a ≤ 0
  · simp [f_is_up_to_root, fnM, g_is_up_to_root, startE, mThen, mLift, mVar, m1, m2, mC, sRet, mOrV, mIf, mB, dIx, atI, ixN, dCmp, bOf, h0]
  · simp [f_is_up_to_root, fnM, g_is_up_to_root, startE, mThen, mLift, mVar, m1, m2, mC, sRet, mOrV, mIf, mB, dIx, atI, ixN, dCmp, bOf, h0, mF, aCons, aNil, k1, k2, dNot]
end WF
/-! hulls of points of the plane by two chains -/
namespace HU
abbrev P := Int × Int
def det (a b c : P) : Int := (b.1 - a.1) * (c.2 - a.2) - (b.2 - a.2) * (c.1 - a.1)
def cr (u v : P) : Int := u.1 * v.2 - u.2 * v.1
def sub (a b : P) : P := (a.1 - b.1, a.2 - b.2)
def lt (a b : P) : Prop := a.1 < b.1 ∨ (a.1 = b.1 ∧ a.2 < b.2)
def pos (u : P) : Prop := 0 < u.1 ∨ (u.1 = 0 ∧ 0 < u.2)
theorem pos_sub {a b : P} : pos (sub b a) ↔ lt a b := by
  unfold pos sub lt
  dsimp only
  omega
theorem lt_irr {a : P} : ¬ lt a a := by unfold lt; omega
theorem lt_tr {a b c : P} (h : lt a b) (k : lt b c) : lt a c := by unfold lt at *; omega
theorem lt_tri (a b : P) : lt a b ∨ a = b ∨ lt b a := by
  unfold lt
  by_cases h : a = b
  · exact .inr (.inl h)
  · have : a.1 ≠ b.1 ∨ a.2 ≠ b.2 := by
      by_cases k : a.1 = b.1
      · exact .inr fun z => h (Prod.ext k z)
      · exact .inl k
    omega
theorem pos_mul {u : P} {a : Int} (h : pos u) (ha : 0 < a) : pos (a * u.1, a * u.2) := by
  rcases h with h | ⟨h, k⟩
  · exact .inl (Int.mul_pos ha h)
  · exact .inr ⟨by show a * u.1 = 0; rw [h, Int.mul_zero], Int.mul_pos ha k⟩
theorem pos_add {u v : P} (h : pos u) (k : pos v) : pos (u.1 + v.1, u.2 + v.2) := by
  unfold pos at *
  dsimp only
  omega
theorem pos_neg {u : P} (h : pos u) : ¬ pos (-u.1, -u.2) := by
  unfold pos at *
  dsimp only
  omega
theorem pos_sign {v : P} {c : Int} (h : pos v) (k : pos (c * v.1, c * v.2)) : 0 < c := by
  rcases Int.lt_trichotomy c 0 with z | z | z
  · have := pos_mul h (show 0 < -c by omega)
    rw [Int.neg_mul, Int.neg_mul] at this
    exact absurd this (pos_neg k)
  · subst z
    unfold pos at k
    dsimp only at k
    omega
  · exact z
/-- who is left of one that is left is left -/
theorem cr_tr {u v w : P} (hu : pos u) (hv : pos v) (hw : pos w) (h1 : 0 ≤ cr u v) (h2 : 0 ≤ cr v w) : 0 ≤ cr u w ∧ ((0 < cr u v ∨ 0 < cr v w) → 0 < cr u w) := by
  have e1 : cr u w * v.1 = cr u v * w.1 + cr v w * u.1 := by unfold cr; grind
  have e2 : cr u w * v.2 = cr u v * w.2 + cr v w * u.2 := by unfold cr; grind
  generalize cr u w = c at *
  generalize cr u v = a at *
  generalize cr v w = b at *
  have strict : 0 < a ∨ 0 < b → 0 < c := by
    intro h
    refine pos_sign hv ?_
    rw [e1, e2]
    rcases Int.lt_or_eq_of_le h1 with a0 | a0
    · rcases Int.lt_or_eq_of_le h2 with b0 | b0
      · exact pos_add (pos_mul hw a0) (pos_mul hu b0)
      · rw [← b0, Int.zero_mul, Int.zero_mul, Int.add_zero, Int.add_zero]
        exact pos_mul hw a0
    · have b0 : 0 < b := by omega
      rw [← a0, Int.zero_mul, Int.zero_mul, Int.zero_add, Int.zero_add]
      exact pos_mul hu b0
  refine ⟨?_, strict⟩
  by_cases h : 0 < a ∨ 0 < b
  · exact Int.le_of_lt (strict h)
  · have a0 : a = 0 := by omega
    have b0 : b = 0 := by omega
    rw [a0, b0, Int.zero_mul, Int.zero_mul, Int.add_zero] at e1 e2
    rcases Int.mul_eq_zero.mp e1 with z | z
    · omega
    · rcases Int.mul_eq_zero.mp e2 with z2 | z2
      · omega
      · unfold pos at hv; omega
theorem det_cr (a b c : P) : det a b c = cr (sub b a) (sub c a) := rfl
theorem det_cr2 (a b c : P) : det a b c = cr (sub b a) (sub c b) := by unfold det cr sub; grind
/-! the chain, top first -/
def push : List P → P → List P
  | [], p => [p]
  | [t], p => [p, t]
  | t :: s :: r, p => if 0 < det s t p then p :: t :: s :: r else push (s :: r) p
def chain (S : List P) : List P := S.foldl push []
/-- a chain that has all points of pre on its left -/
def Ok (pre : List P) : List P → Prop
  | b :: a :: r => lt a b ∧ (∀ q ∈ pre, 0 ≤ det a b q) ∧ (∀ z, r.head? = some z → 0 < det z a b) ∧ Ok pre (a :: r)
  | _ => True
theorem Ok.tail {pre : List P} {b : P} {r : List P} (h : Ok pre (b :: r)) : Ok pre r := by
  cases r with
  | nil => trivial
  | cons a r => exact h.2.2.2
theorem Ok.sub {pre pre' : List P} (hs : ∀ q ∈ pre', q ∈ pre) : ∀ {C : List P}, Ok pre C → Ok pre' C
  | [], _ => trivial
  | [_], _ => trivial
  | b :: a :: r, h => ⟨h.1, fun q hq => h.2.1 q (hs q hq), h.2.2.1, Ok.sub hs h.2.2.2⟩
/-- a point beyond the top, left of the last edge, is left of all -/
theorem beyond {pre : List P} : ∀ {r : List P} {t s p : P}, Ok pre (t :: s :: r) → lt t p → 0 < det s t p → Ok (pre ++ [p]) (t :: s :: r)
  | [], t, s, p, h, _, h2 => ⟨h.1, fun q hq => by
      rcases List.mem_append.mp hq with z | z
      · exact h.2.1 q z
      · rw [List.mem_singleton.mp z]; exact Int.le_of_lt h2, h.2.2.1, trivial⟩
  | z :: r, t, s, p, h, h1, h2 => by
    have hz : 0 < det z s t := h.2.2.1 z rfl
    have h3 : 0 < det z s p := by
      have a1 : 0 < cr (HU.sub s z) (HU.sub t s) := by rw [← det_cr2]; exact hz
      have a2 : 0 < cr (HU.sub t s) (HU.sub p t) := by rw [← det_cr2]; exact h2
      have lzs : lt z s := h.2.2.2.1
      have := (cr_tr (pos_sub.mpr lzs) (pos_sub.mpr h.1) (pos_sub.mpr h1) (Int.le_of_lt a1) (Int.le_of_lt a2)).2 (.inl a1)
      have e : det z s p = cr (HU.sub s z) (HU.sub p t) + cr (HU.sub s z) (HU.sub t s) := by unfold det cr HU.sub; grind
      omega
    exact ⟨h.1, fun q hq => by
      rcases List.mem_append.mp hq with z' | z'
      · exact h.2.1 q z'
      · rw [List.mem_singleton.mp z']; exact Int.le_of_lt h2, h.2.2.1, beyond h.2.2.2 (lt_tr h.1 h1) h3⟩
theorem push_ok {pre : List P} {p : P} (hp : ∀ q ∈ pre, lt q p) : ∀ (r : List P) (t : P), Ok pre (t :: r) → (∀ x ∈ t :: r, x ∈ pre) → (∀ m, (t :: r).getLast? = some m → ∀ q ∈ pre, q = m ∨ lt m q) →
    (∀ q ∈ pre, lt t q → 0 ≤ cr (sub p t) (sub q t)) → Ok (pre ++ [p]) (push (t :: r) p) ∧ (push (t :: r) p).head? = some p ∧ (push (t :: r) p).getLast? = (t :: r).getLast? ∧ ∀ x ∈ push (t :: r) p, x = p ∨ x ∈ pre
  | [], t, h, hm, hl, hc => by
    have ht : lt t p := hp t (hm t (by simp))
    refine ⟨⟨ht, fun q hq => ?_, (fun z e => by cases e), trivial⟩, rfl, rfl, fun x hx => ?_⟩
    · rcases List.mem_append.mp hq with z | z
      · rcases hl t rfl q z with e | e
        · subst e; unfold det; grind
        · exact hc q z e
      · rw [List.mem_singleton.mp z]; unfold det; grind
    · rcases List.mem_cons.mp hx with e | e
      · exact .inl e
      · rw [List.mem_singleton.mp e]; exact .inr (hm t (by simp))
  | s :: r, t, h, hm, hl, hc => by
    have ht : lt t p := hp t (hm t (by simp))
    have hst : lt s t := h.1
    unfold push
    by_cases hd : 0 < det s t p
    · rw [if_pos hd]
      refine ⟨⟨ht, fun q hq => ?_, (fun z e => by cases e; exact hd), beyond h ht hd⟩, rfl, rfl, fun x hx => ?_⟩
      · rcases List.mem_append.mp hq with z | z
        · rcases lt_tri q t with e | e | e
          · have a1 := h.2.1 q z
            have b1 : 0 < cr (sub t s) (sub p t) := by rw [← det_cr2]; exact hd
            have b2 : 0 ≤ cr (sub t q) (sub t s) := by
              have : det s t q = cr (sub t q) (sub t s) := by unfold det cr sub; grind
              omega
            have b3 := (cr_tr (pos_sub.mpr e) (pos_sub.mpr hst) (pos_sub.mpr ht) b2 (Int.le_of_lt b1)).1
            have : det t p q = cr (sub t q) (sub p t) := by unfold det cr sub; grind
            omega
          · subst e; unfold det; grind
          · exact hc q z e
        · rw [List.mem_singleton.mp z]; unfold det; grind
      · rcases List.mem_cons.mp hx with e | e
        · exact .inl e
        · exact .inr (hm x e)
    · rw [if_neg hd]
      have ih := push_ok hp r s h.tail (fun x hx => hm x (List.mem_cons_of_mem _ hx)) (fun m e => hl m (by rw [List.getLast?_cons_cons]; exact e)) (fun q hq hsq => by
        have a1 : 0 ≤ cr (sub p s) (sub t s) := by
          have : det s t p = - cr (sub p s) (sub t s) := by unfold det cr sub; grind
          omega
        have a2 : 0 ≤ cr (sub t s) (sub q s) := h.2.1 q hq
        exact (cr_tr (pos_sub.mpr (lt_tr hst ht)) (pos_sub.mpr hst) (pos_sub.mpr hsq) a1 a2).1)
      rw [List.getLast?_cons_cons]
      exact ih
abbrev Asc (S : List P) : Prop := S.Pairwise lt
structure Hull (S C : List P) : Prop where
  ok : Ok S C
  hd : C.head? = S.getLast?
  ls : C.getLast? = S.head?
  sb : ∀ x ∈ C, x ∈ S
theorem fold_hull : ∀ (T pre C : List P), Asc (pre ++ T) → pre ≠ [] → Hull pre C → Hull (pre ++ T) (T.foldl push C)
  | [], pre, C, _, _, h => by rw [List.append_nil]; exact h
  | p :: T, pre, C, ha, hn, h => by
    obtain ⟨m, hm⟩ : ∃ m, pre.head? = some m := by
      cases pre with
      | nil => exact absurd rfl hn
      | cons m _ => exact ⟨m, rfl⟩
    have below : ∀ q ∈ pre, lt q p := fun q hq => (List.pairwise_append.mp ha).2.2 q hq p List.mem_cons_self
    have hl : ∀ k, C.getLast? = some k → ∀ q ∈ pre, q = k ∨ lt k q := fun k e q hq => by
      rw [h.ls, hm] at e
      cases e
      cases pre with
      | nil => cases hq
      | cons m' pre =>
        cases hm
        rcases List.mem_cons.mp hq with z | z
        · exact .inl z
        · exact .inr ((List.pairwise_cons.mp (List.pairwise_append.mp ha).1).1 q z)
    cases C with
    | nil =>
      have := h.ls
      rw [hm] at this
      cases this
    | cons t r =>
      have top : ∀ q ∈ pre, ¬ lt t q := fun q hq z => by
        have e := h.hd
        have ht : pre.getLast? = some t := by rw [← e]; rfl
        have hap := (List.pairwise_append.mp ha).1
        rw [List.getLast?_eq_some_iff] at ht
        obtain ⟨ys, rfl⟩ := ht
        rcases List.mem_append.mp hq with y | y
        · exact lt_irr (lt_tr z ((List.pairwise_append.mp hap).2.2 q y t (by simp)))
        · rw [List.mem_singleton.mp y] at z; exact lt_irr z
      obtain ⟨o1, o2, o3, o4⟩ := push_ok below r t h.ok h.sb hl (fun q hq z => absurd z (top q hq))
      have h' : Hull (pre ++ [p]) (push (t :: r) p) := ⟨o1, by rw [o2, List.getLast?_append]; rfl, by rw [o3, h.ls, hm, List.head?_append, hm]; rfl, fun x hx => by
        rcases o4 x hx with z | z
        · subst z; simp
        · exact List.mem_append_left _ z⟩
      have e : pre ++ p :: T = (pre ++ [p]) ++ T := by simp
      rw [e] at ha ⊢
      exact fold_hull T (pre ++ [p]) _ ha (by simp) h'
theorem chain_hull {S : List P} (ha : Asc S) (hn : S ≠ []) : Hull S (chain S) := by
  cases S with
  | nil => exact absurd rfl hn
  | cons p T =>
    have := fold_hull T [p] [p] ha (by simp) ⟨trivial, rfl, rfl, fun x hx => hx⟩
    exact this
/-- only one chain is such -/
theorem Ok.desc {pre : List P} : ∀ {r : List P} {b m : P}, Ok pre (b :: r) → (b :: r).getLast? = some m → m = b ∨ lt m b
  | [], b, m, _, e => by cases e; exact .inl rfl
  | a :: r, b, m, h, e => by
    rw [List.getLast?_cons_cons] at e
    rcases Ok.desc h.tail e with z | z
    · rw [z]; exact .inr h.1
    · exact .inr (lt_tr z h.1)
theorem uniq_step {S : List P} {z b b' m : P} {r r' : List P} (h : Ok S (z :: b :: r)) (h' : Ok S (z :: b' :: r')) (e : (z :: b :: r).getLast? = some m) (e' : (z :: b' :: r').getLast? = some m) (s : ∀ x ∈ z :: b :: r, x ∈ S) (s' : ∀ x ∈ z :: b' :: r', x ∈ S) : ¬ lt b b' := by
  intro hb
  rw [List.getLast?_cons_cons] at e e'
  have hbS : b ∈ S := s b (by simp)
  have hbS' : b' ∈ S := s' b' (by simp)
  have d1 := h.2.1 b' hbS'
  have d2 := h'.2.1 b hbS
  have hb'z : lt b' z := h'.1
  cases r' with
  | nil =>
    cases e'
    rcases Ok.desc h.tail e with q | q
    · subst q; exact lt_irr hb
    · exact lt_irr (lt_tr hb q)
  | cons c r' =>
    have hc : 0 < det c b' z := h'.2.2.1 c rfl
    have hcb : 0 ≤ det c b' b := h'.tail.2.1 b hbS
    have lcb : lt c b' := h'.tail.1
    have a1 : 0 ≤ cr (sub b' b) (sub b' c) := by
      have : det c b' b = cr (sub b' b) (sub b' c) := by unfold det cr sub; grind
      omega
    have a2 : 0 < cr (sub b' c) (sub z b') := by rw [← det_cr2]; exact hc
    have a3 := (cr_tr (pos_sub.mpr hb) (pos_sub.mpr lcb) (pos_sub.mpr hb'z) a1 (Int.le_of_lt a2)).2 (.inr a2)
    have q1 : det b z b' = - cr (sub b' b) (sub z b') := by unfold det cr sub; grind
    omega
theorem uniq {S : List P} {m : P} : ∀ (C C' : List P), Ok S C → Ok S C' → C.head? = C'.head? → C.getLast? = some m → C'.getLast? = some m → (∀ x ∈ C, x ∈ S) → (∀ x ∈ C', x ∈ S) → C = C'
  | [], _, _, _, _, e, _, _, _ => by cases e
  | _ :: _, [], _, _, _, _, e, _, _ => by cases e
  | [z], [z'], _, _, e, _, _, _, _ => by cases e; rfl
  | [z], z' :: b' :: r', h, h', e, e1, e2, _, _ => by
    cases e
    have hm : z = m := by simpa using e1
    subst hm
    rw [List.getLast?_cons_cons] at e2
    rcases Ok.desc h'.tail e2 with q | q
    · subst q; exact absurd h'.1 lt_irr
    · exact absurd (lt_tr q h'.1) lt_irr
  | z :: b :: r, [z'], h, h', e, e1, e2, _, _ => by
    cases e
    have hm : z = m := by simpa using e2
    subst hm
    rw [List.getLast?_cons_cons] at e1
    rcases Ok.desc h.tail e1 with q | q
    · subst q; exact absurd h.1 lt_irr
    · exact absurd (lt_tr q h.1) lt_irr
  | z :: b :: r, z' :: b' :: r', h, h', e, e1, e2, s, s' => by
    cases e
    have n1 := uniq_step h h' e1 e2 s s'
    have n2 := uniq_step h' h e2 e1 s' s
    have eb : b = b' := by
      rcases lt_tri b b' with q | q | q
      · exact absurd q n1
      · exact q
      · exact absurd q n2
    subst eb
    rw [List.getLast?_cons_cons] at e1 e2
    rw [uniq (b :: r) (b :: r') h.tail h'.tail rfl e1 e2 (fun x hx => s x (List.mem_cons_of_mem _ hx)) fun x hx => s' x (List.mem_cons_of_mem _ hx)]
/-- points between the chain and all of them change nothing -/
theorem chain_between {S T : List P} (hS : Asc S) (hT : Asc T) (hn : S ≠ []) (h1 : ∀ x ∈ chain S, x ∈ T) (h2 : ∀ x ∈ T, x ∈ S) : chain T = chain S := by
  have H := chain_hull hS hn
  obtain ⟨m, hm⟩ : ∃ m, S.head? = some m := by
    cases S with
    | nil => exact absurd rfl hn
    | cons m _ => exact ⟨m, rfl⟩
  obtain ⟨z, hz⟩ : ∃ z, S.getLast? = some z := by
    cases q : S.getLast? with
    | none => rw [List.getLast?_eq_none_iff] at q; exact absurd q hn
    | some z => exact ⟨z, rfl⟩
  have zC : z ∈ chain S := by
    have := H.hd
    rw [hz] at this
    exact List.mem_of_head? this
  have mC : m ∈ chain S := by
    have := H.ls
    rw [hm] at this
    exact List.mem_of_getLast? this
  have hnT : T ≠ [] := fun e => by
    have := h1 z zC
    rw [e] at this
    cases this
  have HT := chain_hull hT hnT
  have lowS : ∀ q ∈ S, q = m ∨ lt m q := fun q hq => by
    cases S with
    | nil => cases hq
    | cons m' S =>
      cases hm
      rcases List.mem_cons.mp hq with y | y
      · exact .inl y
      · exact .inr ((List.pairwise_cons.mp hS).1 q y)
  have highS : ∀ q ∈ S, q = z ∨ lt q z := fun q hq => by
    rw [List.getLast?_eq_some_iff] at hz
    obtain ⟨ys, rfl⟩ := hz
    rcases List.mem_append.mp hq with y | y
    · exact .inr ((List.pairwise_append.mp hS).2.2 q y z (by simp))
    · exact .inl (List.mem_singleton.mp y)
  have headT : T.head? = some m := by
    cases T with
    | nil => exact absurd rfl hnT
    | cons a T =>
      rcases lowS a (h2 a (by simp)) with e | e
      · rw [e]; rfl
      · rcases List.mem_cons.mp (h1 m mC) with y | y
        · rw [y]; rfl
        · exact absurd (lt_tr e ((List.pairwise_cons.mp hT).1 m y)) lt_irr
  have lastT : T.getLast? = some z := by
    cases q : T.getLast? with
    | none => rw [List.getLast?_eq_none_iff] at q; exact absurd q hnT
    | some y =>
      have hy := List.mem_of_getLast? q
      rcases highS y (h2 y hy) with e | e
      · rw [e]
      · rw [List.getLast?_eq_some_iff] at q
        obtain ⟨ys, rfl⟩ := q
        rcases List.mem_append.mp (h1 z zC) with w | w
        · exact absurd (lt_tr e ((List.pairwise_append.mp hT).2.2 z w y (by simp))) lt_irr
        · rw [List.mem_singleton.mp w] at e; exact absurd e lt_irr
  exact uniq _ _ HT.ok (H.ok.sub h2) (by rw [HT.hd, H.hd, lastT, hz]) (by rw [HT.ls, headT]) (by rw [H.ls, hm]) HT.sb h1
end HU
/-! the round of a hull's corners -/
namespace HU
def ng (a : P) : P := (-a.1, -a.2)
theorem ng_ng (a : P) : ng (ng a) = a := by unfold ng; simp
theorem det_ng (a b c : P) : det (ng a) (ng b) (ng c) = det a b c := by unfold det ng; grind
theorem lt_ng {a b : P} : lt (ng a) (ng b) ↔ lt b a := by unfold lt ng; dsimp only; omega
theorem push_ng : ∀ (C : List P) (p : P), push (C.map ng) (ng p) = (push C p).map ng
  | [], _ => rfl
  | [_], _ => rfl
  | t :: s :: r, p => by
    show (if 0 < det (ng s) (ng t) (ng p) then _ else push ((s :: r).map ng) (ng p)) = _
    rw [det_ng, push_ng (s :: r) p]
    show _ = (if 0 < det s t p then p :: t :: s :: r else push (s :: r) p).map ng
    split <;> rfl
theorem fold_ng : ∀ (T C : List P), (T.map ng).foldl push (C.map ng) = (T.foldl push C).map ng
  | [], _ => rfl
  | p :: T, C => by
    rw [List.map_cons, List.foldl_cons, List.foldl_cons, push_ng, fold_ng T]
theorem chain_ng (T : List P) : chain (T.map ng) = (chain T).map ng := fold_ng T []
theorem map_ng_ng (T : List P) : (T.map ng).map ng = T := by
  rw [List.map_map]
  have : ng ∘ ng = id := funext ng_ng
  rw [this, List.map_id]
def back (S : List P) : List P := (S.map ng).reverse
theorem back_back (S : List P) : back (back S) = S := by
  unfold back
  rw [List.map_reverse, List.reverse_reverse, map_ng_ng]
theorem asc_back {S : List P} (h : Asc S) : Asc (back S) := by
  unfold back
  rw [Asc, List.pairwise_reverse, List.pairwise_map]
  exact h.imp fun z => lt_ng.mpr z
theorem mem_back {S : List P} {x : P} : x ∈ back S ↔ ng x ∈ S := by
  unfold back
  rw [List.mem_reverse, List.mem_map]
  exact ⟨fun ⟨y, h, e⟩ => by rw [← e, ng_ng]; exact h, fun h => ⟨_, h, ng_ng x⟩⟩
theorem chain_rev (S : List P) : chain S.reverse = (chain (back S)).map ng := by
  rw [← chain_ng]
  unfold back
  rw [List.map_reverse, map_ng_ng]
def low (S : List P) : List P := (chain S).reverse
def upp (S : List P) : List P := (chain S.reverse).reverse
theorem upp_low (S : List P) : upp S = (low (back S)).map ng := by
  unfold upp low
  rw [chain_rev, List.map_reverse]
theorem Ok.two {pre : List P} : ∀ {C : List P} {b a : P}, Ok pre C → [b, a] <:+: C → lt a b ∧ ∀ q ∈ pre, 0 ≤ det a b q
  | [], _, _, _, h => by simp at h
  | c :: C, b, a, h, i => by
    rw [List.infix_cons_iff] at i
    rcases i with i | i
    · obtain ⟨t, e⟩ := i
      cases e
      exact ⟨h.1, h.2.1⟩
    · exact Ok.two h.tail i
theorem Ok.three {pre : List P} : ∀ {C : List P} {b a z : P}, Ok pre C → [b, a, z] <:+: C → 0 < det z a b
  | [], _, _, _, _, h => by simp at h
  | c :: C, b, a, z, h, i => by
    rw [List.infix_cons_iff] at i
    rcases i with i | i
    · obtain ⟨t, e⟩ := i
      cases e
      exact h.2.2.1 z rfl
    · exact Ok.three h.tail i
/-- what is in line with an edge -/
theorem low_two {S : List P} (ha : Asc S) (hn : S ≠ []) {a b : P} (h : [a, b] <:+: low S) : lt a b ∧ ∀ q ∈ S, 0 ≤ det a b q := by
  refine Ok.two (chain_hull ha hn).ok ?_
  have := List.reverse_infix.mpr h
  unfold low at this
  rw [List.reverse_reverse] at this
  exact this
theorem low_three {S : List P} (ha : Asc S) (hn : S ≠ []) {a b c : P} (h : [a, b, c] <:+: low S) : 0 < det a b c := by
  refine Ok.three (chain_hull ha hn).ok ?_
  have := List.reverse_infix.mpr h
  unfold low at this
  rw [List.reverse_reverse] at this
  exact this
theorem back_ne {S : List P} (hn : S ≠ []) : back S ≠ [] := by unfold back; simpa using hn
theorem infix_ng {l T : List P} (h : l <:+: T.map ng) : l.map ng <:+: T := by
  obtain ⟨x, y, e⟩ := h
  have := congrArg (List.map ng) e
  rw [map_ng_ng, List.map_append, List.map_append] at this
  exact ⟨_, _, this⟩
theorem upp_two {S : List P} (ha : Asc S) (hn : S ≠ []) {a b : P} (h : [a, b] <:+: upp S) : lt b a ∧ ∀ q ∈ S, 0 ≤ det a b q := by
  rw [upp_low] at h
  have := low_two (asc_back ha) (back_ne hn) (infix_ng h)
  refine ⟨lt_ng.mp this.1, fun q hq => ?_⟩
  have h2 := this.2 (ng q) (mem_back.mpr (by rw [ng_ng]; exact hq))
  rw [det_ng] at h2
  exact h2
theorem upp_three {S : List P} (ha : Asc S) (hn : S ≠ []) {a b c : P} (h : [a, b, c] <:+: upp S) : 0 < det a b c := by
  rw [upp_low] at h
  have := low_three (asc_back ha) (back_ne hn) (infix_ng h)
  rw [det_ng] at this
  exact this
/-! both chains together -/
theorem lastS {S : List P} (hn : S ≠ []) : ∃ z, S.getLast? = some z := by
  cases q : S.getLast? with
  | none => rw [List.getLast?_eq_none_iff] at q; exact absurd q hn
  | some z => exact ⟨z, rfl⟩
theorem headS {S : List P} (hn : S ≠ []) : ∃ z, S.head? = some z := by
  cases S with
  | nil => exact absurd rfl hn
  | cons z _ => exact ⟨z, rfl⟩
theorem low_ends {S : List P} (ha : Asc S) (hn : S ≠ []) : (low S).head? = S.head? ∧ (low S).getLast? = S.getLast? := by
  have H := chain_hull ha hn
  unfold low
  exact ⟨by rw [List.head?_reverse, H.ls], by rw [List.getLast?_reverse, H.hd]⟩
theorem upp_ends {S : List P} (ha : Asc S) (hn : S ≠ []) : (upp S).head? = S.getLast? ∧ (upp S).getLast? = S.head? := by
  have := low_ends (asc_back ha) (back_ne hn)
  rw [upp_low, List.head?_map, List.getLast?_map, this.1, this.2]
  unfold back
  rw [List.head?_reverse, List.getLast?_reverse, List.getLast?_map, List.head?_map]
  constructor
  · cases S.getLast? <;> simp [ng_ng]
  · cases S.head? <;> simp [ng_ng]
theorem low_sub {S : List P} (ha : Asc S) (hn : S ≠ []) : ∀ x ∈ low S, x ∈ S := fun x h => (chain_hull ha hn).sb x (by unfold low at h; exact List.mem_reverse.mp h)
theorem upp_sub {S : List P} (ha : Asc S) (hn : S ≠ []) : ∀ x ∈ upp S, x ∈ S := fun x h => by
  rw [upp_low, List.mem_map] at h
  obtain ⟨y, h, e⟩ := h
  have := mem_back.mp (low_sub (asc_back ha) (back_ne hn) y h)
  rw [← e]
  exact this
def rim (S : List P) : List P := (low S).dropLast ++ (upp S).dropLast
theorem par_zero {e f g : P} (he : pos e) (hf : pos f) (h0 : cr e f = 0) (h1 : 0 ≤ cr e g) (h2 : cr f g ≤ 0) : cr e g = 0 := by
  unfold pos at he hf
  rcases Int.lt_or_eq_of_le h1 with h | h
  · have e1 : f.1 * cr e g = e.1 * cr f g + g.1 * cr e f := by unfold cr; grind
    have e2 : f.2 * cr e g = e.2 * cr f g + g.2 * cr e f := by unfold cr; grind
    rw [h0, Int.mul_zero, Int.add_zero] at e1 e2
    rcases hf with hf | ⟨hf, hf2⟩
    · have p1 : 0 < f.1 * cr e g := Int.mul_pos hf h
      have p2 : e.1 * cr f g ≤ 0 := Int.mul_nonpos_of_nonneg_of_nonpos (by omega) h2
      omega
    · have : e.1 = 0 := by
        have : cr e f = e.1 * f.2 - e.2 * f.1 := rfl
        rw [hf, Int.mul_zero, Int.sub_zero, h0] at this
        rcases Int.mul_eq_zero.mp this.symm with z | z <;> omega
      have e2pos : 0 < e.2 := by omega
      have p1 : 0 < f.2 * cr e g := Int.mul_pos hf2 h
      have p2 : e.2 * cr f g ≤ 0 := Int.mul_nonpos_of_nonneg_of_nonpos (by omega) h2
      omega
  · exact h.symm
theorem line_zero {e x y : P} (he : pos e) (h1 : cr e x = 0) (h2 : cr e y = 0) : cr x y = 0 := by
  have e1 : e.1 * cr x y = x.1 * cr e y - y.1 * cr e x := by unfold cr; grind
  have e2 : e.2 * cr x y = x.2 * cr e y - y.2 * cr e x := by unfold cr; grind
  rw [h1, h2, Int.mul_zero, Int.mul_zero, Int.sub_zero] at e1 e2
  unfold pos at he
  rcases Int.mul_eq_zero.mp e1 with z | z
  · rcases Int.mul_eq_zero.mp e2 with w | w
    · omega
    · exact w
  · exact z
/-- not all on one line -/
def Wide (S : List P) : Prop := ∃ p q r, p ∈ S ∧ q ∈ S ∧ r ∈ S ∧ det p q r ≠ 0
theorem strict_end {S : List P} {a z c : P} (hw : Wide S) (h1 : ∀ q ∈ S, 0 ≤ det a z q) (h2 : ∀ q ∈ S, 0 ≤ det z c q) (la : lt a z) (lc : lt c z) (hc : c ∈ S) : 0 < det a z c := by
  rcases Int.lt_or_eq_of_le (h1 c hc) with h | h
  · exact h
  · exfalso
    have pe : pos (sub z a) := pos_sub.mpr la
    have pf : pos (sub z c) := pos_sub.mpr lc
    have h0 : cr (sub z a) (sub z c) = 0 := by
      have : det a z c = - cr (sub z a) (sub z c) := by unfold det cr sub; grind
      omega
    have all : ∀ q ∈ S, cr (sub z a) (sub q z) = 0 := fun q hq => par_zero pe pf h0 (by rw [← det_cr2]; exact h1 q hq) (by
      have := h2 q hq
      have e : det z c q = - cr (sub z c) (sub q z) := by unfold det cr sub; grind
      omega)
    obtain ⟨p, q, r, hp, hq, hr, hd⟩ := hw
    refine hd ?_
    rw [det_cr]
    refine line_zero pe ?_ ?_
    · have e : cr (sub z a) (sub q p) = cr (sub z a) (sub q z) - cr (sub z a) (sub p z) := by unfold cr sub; grind
      rw [e, all q hq, all p hp]; rfl
    · have e : cr (sub z a) (sub r p) = cr (sub z a) (sub r z) - cr (sub z a) (sub p z) := by unfold cr sub; grind
      rw [e, all r hr, all p hp]; rfl
theorem wide_back {S : List P} (h : Wide S) : Wide (back S) := by
  obtain ⟨p, q, r, hp, hq, hr, hd⟩ := h
  exact ⟨ng p, ng q, ng r, mem_back.mpr (by rw [ng_ng]; exact hp), mem_back.mpr (by rw [ng_ng]; exact hq), mem_back.mpr (by rw [ng_ng]; exact hr), by rw [det_ng]; exact hd⟩
/-- adjacent in a row that is joined of two -/
theorem infix_two {a b z : P} : ∀ {l1 l2 : List P}, [a, b] <:+: l1 ++ z :: l2 → [a, b] <:+: l1 ++ [z] ∨ [a, b] <:+: z :: l2
  | [], l2, h => .inr h
  | x :: l1, l2, h => by
    rw [List.cons_append, List.infix_cons_iff] at h
    rcases h with h | h
    · refine .inl ?_
      rw [List.cons_append, List.infix_cons_iff]
      left
      cases l1 with
      | nil =>
        obtain ⟨t, e⟩ := h
        cases e
        exact ⟨[], rfl⟩
      | cons y l1 =>
        obtain ⟨t, e⟩ := h
        cases e
        exact ⟨l1 ++ [z], rfl⟩
    · rcases infix_two h with i | i
      · exact .inl (by rw [List.cons_append, List.infix_cons_iff]; exact .inr i)
      · exact .inr i
theorem infix_three {a b c z : P} : ∀ {l1 l2 : List P}, [a, b, c] <:+: l1 ++ z :: l2 → [a, b, c] <:+: l1 ++ [z] ∨ [a, b, c] <:+: z :: l2 ∨ (b = z ∧ [a, z] <:+: l1 ++ [z] ∧ [z, c] <:+: z :: l2)
  | [], l2, h => .inr (.inl h)
  | x :: l1, l2, h => by
    rw [List.cons_append, List.infix_cons_iff] at h
    rcases h with h | h
    · cases l1 with
      | nil =>
        obtain ⟨t, e⟩ := h
        cases e
        exact .inr (.inr ⟨rfl, ⟨[], [], rfl⟩, ⟨[], t, rfl⟩⟩)
      | cons y l1 =>
        left
        rw [List.cons_append, List.infix_cons_iff]
        left
        cases l1 with
        | nil =>
          obtain ⟨t, e⟩ := h
          cases e
          exact ⟨[], rfl⟩
        | cons w l1 =>
          obtain ⟨t, e⟩ := h
          cases e
          exact ⟨l1 ++ [z], rfl⟩
    · rcases infix_three h with i | i | i
      · exact .inl (by rw [List.cons_append, List.infix_cons_iff]; exact .inr i)
      · exact .inr (.inl i)
      · refine .inr (.inr ⟨i.1, ?_, i.2.2⟩)
        rw [List.cons_append, List.infix_cons_iff]
        exact .inr i.2.1
end HU
/-! the round: edges, turns -/
namespace HU
/-- the ends of a sorted row of two and more -/
theorem asc_split {S : List P} (ha : Asc S) (h2 : 2 ≤ S.length) : ∃ m z, S.head? = some m ∧ S.getLast? = some z ∧ lt m z := by
  have hn : S ≠ [] := fun e => by rw [e] at h2; simp at h2
  obtain ⟨m, hm⟩ := headS hn
  obtain ⟨z, hz⟩ := lastS hn
  refine ⟨m, z, hm, hz, ?_⟩
  cases S with
  | nil => cases hm
  | cons a T =>
    cases hm
    have : T ≠ [] := fun e => by rw [e] at h2; simp at h2
    rw [List.getLast?_cons_of_ne_nil this] at hz
    exact (List.pairwise_cons.mp ha).1 z (List.mem_of_getLast? hz)
theorem two_of_ends {l : List P} {m z : P} (h1 : l.head? = some m) (h2 : l.getLast? = some z) (hne : m ≠ z) : ∃ b t, l = m :: b :: t := by
  cases l with
  | nil => cases h1
  | cons a l =>
    cases h1
    cases l with
    | nil => cases h2; exact absurd rfl hne
    | cons b t => exact ⟨b, t, rfl⟩
theorem dropLast_snoc {l : List P} {z : P} (h : l.getLast? = some z) : l.dropLast ++ [z] = l := by
  rw [List.getLast?_eq_some_iff] at h
  obtain ⟨ys, rfl⟩ := h
  simp
structure Rd (S R : List P) : Prop where
  sub : ∀ x ∈ R, x ∈ S
  two : ∀ a b m, R.head? = some m → [a, b] <:+: R ++ [m] → a ≠ b ∧ ∀ q ∈ S, 0 ≤ det a b q
  three : Wide S → ∀ a b c m k, R.head? = some m → R[1]? = some k → [a, b, c] <:+: R ++ [m, k] → 0 < det a b c
theorem lt_ne {a b : P} (h : lt a b) : a ≠ b := fun e => by subst e; exact lt_irr h
theorem rim_shape {S : List P} (ha : Asc S) (h2 : 2 ≤ S.length) : ∃ m z L1 U1, S.head? = some m ∧ S.getLast? = some z ∧ lt m z ∧ low S = L1 ++ [z] ∧ upp S = z :: U1 ++ [m] ∧ L1.head? = some m ∧ rim S = L1 ++ z :: U1 := by
  have hn : S ≠ [] := fun e => by rw [e] at h2; simp at h2
  obtain ⟨m, z, hm, hz, hl⟩ := asc_split ha h2
  have L := low_ends ha hn
  have U := upp_ends ha hn
  rw [hm, hz] at L U
  obtain ⟨b, t, eL⟩ := two_of_ends L.1 L.2 (lt_ne hl)
  obtain ⟨b', t', eU⟩ := two_of_ends U.1 U.2 (Ne.symm (lt_ne hl))
  have dL := dropLast_snoc L.2
  have dU := dropLast_snoc U.2
  have hU : (upp S).dropLast = z :: (b' :: t').dropLast := by rw [eU]; rfl
  refine ⟨m, z, (low S).dropLast, (b' :: t').dropLast, hm, hz, hl, dL.symm, by rw [← hU, dU], ?_, ?_⟩
  · rw [eL]; rfl
  · unfold rim; rw [hU]
theorem rim_rd {S : List P} (ha : Asc S) (h2 : 2 ≤ S.length) : Rd S (rim S) := by
  have hn : S ≠ [] := fun e => by rw [e] at h2; simp at h2
  obtain ⟨m, z, L1, U1, hm, hz, hl, eL, eU, h1, eR⟩ := rim_shape ha h2
  have hh : (rim S).head? = some m := by rw [eR, List.head?_append, h1]; rfl
  refine ⟨fun x hx => ?_, fun a b m' e i => ?_, fun hw a b c m' k e ek i => ?_⟩
  · unfold rim at hx
    rcases List.mem_append.mp hx with y | y
    · exact low_sub ha hn x ((List.dropLast_sublist _).mem y)
    · exact upp_sub ha hn x ((List.dropLast_sublist _).mem y)
  · rw [hh] at e; cases e
    rw [eR, List.append_assoc, List.cons_append] at i
    rcases infix_two i with j | j
    · rw [← eL] at j
      have := low_two ha hn j
      exact ⟨lt_ne this.1, this.2⟩
    · rw [← List.cons_append, ← eU] at j
      have := upp_two ha hn j
      exact ⟨Ne.symm (lt_ne this.1), this.2⟩
  · rw [hh] at e; cases e
    have atZ : ∀ a c, [a, z] <:+: low S → [z, c] <:+: upp S → 0 < det a z c := fun a c i1 i2 => by
      have x1 := low_two ha hn i1
      have x2 := upp_two ha hn i2
      exact strict_end hw x1.2 x2.2 x1.1 x2.1 (upp_sub ha hn c (i2.mem (by simp)))
    have atM : ∀ a c, [a, m] <:+: upp S → [m, c] <:+: low S → 0 < det a m c := fun a c i1 i2 => by
      have x1 := upp_two ha hn i1
      have x2 := low_two ha hn i2
      have := strict_end (S := back S) (a := ng a) (z := ng m) (c := ng c) (wide_back hw) (fun q hq => by
        have := x1.2 (ng q) (mem_back.mp hq)
        rw [← det_ng, ng_ng] at this
        exact this) (fun q hq => by
        have := x2.2 (ng q) (mem_back.mp hq)
        rw [← det_ng, ng_ng] at this
        exact this) (lt_ng.mpr x1.1) (lt_ng.mpr x2.1) (mem_back.mpr (by rw [ng_ng]; exact low_sub ha hn c (i2.mem (by simp))))
      rw [det_ng] at this
      exact this
    have hk : ∃ t, low S = m :: k :: t := by
      cases L1 with
      | nil => cases h1
      | cons x L1 =>
        cases h1
        rw [eL]
        cases L1 with
        | nil =>
          rw [eR] at ek
          have : z = k := by simpa using ek
          subst this
          exact ⟨[], rfl⟩
        | cons y L1 =>
          rw [eR] at ek
          have : y = k := by simpa using ek
          subst this
          exact ⟨L1 ++ [z], rfl⟩
    obtain ⟨t, hk⟩ := hk
    have e1 : rim S ++ [m, k] = L1 ++ z :: (U1 ++ [m, k]) := by rw [eR]; simp
    rw [e1] at i
    have inL : ∀ {l : List P}, l <:+: L1 ++ [z] → l <:+: low S := fun h => by rw [eL]; exact h
    rcases infix_three i with j | j | j
    · exact low_three ha hn (inL j)
    · have e2 : z :: (U1 ++ [m, k]) = (z :: U1) ++ m :: [k] := rfl
      rw [e2] at j
      rcases infix_three j with j | j | j
      · rw [← eU] at j
        exact upp_three ha hn j
      · have := j.length_le
        simp at this
      · obtain ⟨rfl, j1, j2⟩ := j
        rw [← eU] at j1
        have : c = k := by
          obtain ⟨x, y, e⟩ := j2
          cases x with
          | nil => cases e; rfl
          | cons _ x => 
            have := congrArg List.length e
            simp at this
            omega
        subst this
        exact atM a c j1 (by rw [hk]; exact ⟨[], t, rfl⟩)
    · obtain ⟨rfl, j1, j2⟩ := j
      have j3 : [b, c] <:+: upp S := by
        rw [eU]
        have e2 : b :: (U1 ++ [m, k]) = (b :: U1) ++ m :: [k] := rfl
        rw [e2] at j2
        rcases infix_two j2 with q | q
        · exact q
        · exfalso
          obtain ⟨x, y, e⟩ := q
          cases x with
          | nil => cases e; exact lt_irr hl
          | cons _ x =>
            have := congrArg List.length e
            simp at this
            omega
      exact atZ a c (inL j1) j3
end HU
/-! the round of a round; wide rounds; rounds times a number -/
namespace HU
theorem rim_mem {S : List P} (ha : Asc S) (h2 : 2 ≤ S.length) : (∀ x ∈ low S, x ∈ rim S) ∧ ∀ x ∈ upp S, x ∈ rim S := by
  obtain ⟨m, z, L1, U1, hm, hz, hl, eL, eU, h1, eR⟩ := rim_shape ha h2
  rw [eR, eL, eU]
  refine ⟨fun x h => ?_, fun x h => ?_⟩
  · rcases List.mem_append.mp h with y | y
    · exact List.mem_append_left _ y
    · rw [List.mem_singleton.mp y]; simp
  · rcases List.mem_append.mp h with y | y
    · exact List.mem_append_right _ y
    · rw [List.mem_singleton.mp y]; exact List.mem_append_left _ (List.mem_of_head? h1)
theorem rim_between {S T : List P} (hS : Asc S) (hT : Asc T) (h2 : 2 ≤ S.length) (h1 : ∀ x ∈ rim S, x ∈ T) (h3 : ∀ x ∈ T, x ∈ S) : rim T = rim S := by
  have hn : S ≠ [] := fun e => by rw [e] at h2; simp at h2
  have mm := rim_mem hS h2
  have e1 : low T = low S := by
    unfold low
    rw [chain_between hS hT hn (fun x hx => h1 x (mm.1 x (by unfold low; exact List.mem_reverse.mpr hx))) h3]
  have e2 : upp T = upp S := by
    rw [upp_low, upp_low]
    unfold low
    rw [chain_between (asc_back hS) (asc_back hT) (back_ne hn) (fun x hx => ?_) (fun x hx => mem_back.mpr (h3 _ (mem_back.mp hx)))]
    refine mem_back.mpr (h1 _ (mm.2 _ ?_))
    rw [upp_low]
    exact List.mem_map_of_mem (by unfold low; exact List.mem_reverse.mpr hx)
  unfold rim
  rw [e1, e2]
theorem wide_of {S : List P} (ha : Asc S) (h2 : 2 ≤ S.length) (h3 : 3 ≤ (rim S).length) : Wide S := by
  have hn : S ≠ [] := fun e => by rw [e] at h2; simp at h2
  obtain ⟨m, z, L1, U1, hm, hz, hl, eL, eU, h1, eR⟩ := rim_shape ha h2
  have one : ∀ a b c, (∀ x ∈ [a, b, c], x ∈ S) → 0 < det a b c → Wide S := fun a b c h d => ⟨a, b, c, h a (by simp), h b (by simp), h c (by simp), by omega⟩
  rw [eR] at h3
  cases L1 with
  | nil => cases h1
  | cons x L1 =>
    cases L1 with
    | cons y L1 =>
      have : ∃ w t, low S = x :: y :: w :: t := by
        rw [eL]
        cases L1 with
        | nil => exact ⟨z, [], rfl⟩
        | cons w t => exact ⟨w, t ++ [z], rfl⟩
      obtain ⟨w, t, e⟩ := this
      exact one x y w (fun q hq => low_sub ha hn q (by rw [e]; simp at hq ⊢; rcases hq with h | h | h <;> simp [h])) (low_three ha hn (by rw [e]; exact ⟨[], t, rfl⟩))
    | nil =>
      cases U1 with
      | nil => simp at h3
      | cons y U1 =>
        have : ∃ w t, upp S = z :: y :: w :: t := by
          rw [eU]
          cases U1 with
          | nil => exact ⟨m, [], rfl⟩
          | cons w t => exact ⟨w, t ++ [m], rfl⟩
        obtain ⟨w, t, e⟩ := this
        exact one z y w (fun q hq => upp_sub ha hn q (by rw [e]; simp at hq ⊢; rcases hq with h | h | h <;> simp [h])) (upp_three ha hn (by rw [e]; exact ⟨[], t, rfl⟩))
theorem wide_rim {S : List P} (ha : Asc S) (h2 : 2 ≤ S.length) (hw : Wide S) : 3 ≤ (rim S).length := by
  have hn : S ≠ [] := fun e => by rw [e] at h2; simp at h2
  obtain ⟨m, z, L1, U1, hm, hz, hl, eL, eU, h1, eR⟩ := rim_shape ha h2
  rw [eR]
  cases L1 with
  | nil => cases h1
  | cons x L1 =>
    cases h1
    cases L1 with
    | cons y L1 => simp; omega
    | nil =>
      cases U1 with
      | cons y U1 => simp
      | nil =>
        exfalso
        have x1 := low_two ha hn (a := m) (b := z) (by rw [eL]; exact ⟨[], [], rfl⟩)
        have x2 := upp_two ha hn (a := z) (b := m) (by rw [eU]; exact ⟨[], [], rfl⟩)
        have all : ∀ q ∈ S, cr (sub z m) (sub q m) = 0 := fun q hq => by
          have := x1.2 q hq
          have := x2.2 q hq
          have e1 : det m z q = cr (sub z m) (sub q m) := rfl
          have e2 : det z m q = - cr (sub z m) (sub q m) := by unfold det cr sub; grind
          omega
        obtain ⟨p, q, r, hp, hq, hr, hd⟩ := hw
        refine hd ?_
        rw [det_cr]
        refine line_zero (pos_sub.mpr x1.1) ?_ ?_
        · have e : cr (sub z m) (sub q p) = cr (sub z m) (sub q m) - cr (sub z m) (sub p m) := by unfold cr sub; grind
          rw [e, all q hq, all p hp]; rfl
        · have e : cr (sub z m) (sub r p) = cr (sub z m) (sub r m) - cr (sub z m) (sub p m) := by unfold cr sub; grind
          rw [e, all r hr, all p hp]; rfl
def sc (c : Int) (a : P) : P := (c * a.1, c * a.2)
theorem det_sc (c : Int) (a b d : P) : det (sc c a) (sc c b) (sc c d) = c * c * det a b d := by unfold det sc; grind
theorem det_sc_pos {c : Int} (hc : 0 < c) (a b d : P) : 0 < det (sc c a) (sc c b) (sc c d) ↔ 0 < det a b d := by
  rw [det_sc]
  have : 0 < c * c := Int.mul_pos hc hc
  constructor
  · intro h
    rcases Int.lt_or_le 0 (det a b d) with z | z
    · exact z
    · have := Int.mul_nonpos_of_nonneg_of_nonpos (Int.le_of_lt this) z
      omega
  · exact Int.mul_pos this
theorem push_sc {c : Int} (hc : 0 < c) : ∀ (C : List P) (p : P), push (C.map (sc c)) (sc c p) = (push C p).map (sc c)
  | [], _ => rfl
  | [_], _ => rfl
  | t :: s :: r, p => by
    show (if 0 < det (sc c s) (sc c t) (sc c p) then _ else push ((s :: r).map (sc c)) (sc c p)) = _
    rw [push_sc hc (s :: r) p]
    show _ = (if 0 < det s t p then p :: t :: s :: r else push (s :: r) p).map (sc c)
    by_cases h : 0 < det s t p
    · rw [if_pos h, if_pos ((det_sc_pos hc s t p).mpr h)]; rfl
    · rw [if_neg h, if_neg (fun z => h ((det_sc_pos hc s t p).mp z))]
theorem chain_sc {c : Int} (hc : 0 < c) (T : List P) : chain (T.map (sc c)) = (chain T).map (sc c) := by
  have : ∀ (T C : List P), (T.map (sc c)).foldl push (C.map (sc c)) = (T.foldl push C).map (sc c) := by
    intro T
    induction T with
    | nil => exact fun _ => rfl
    | cons p T ih => exact fun C => by rw [List.map_cons, List.foldl_cons, List.foldl_cons, push_sc hc, ih]
  exact this T []
theorem rim_sc {c : Int} (hc : 0 < c) (T : List P) : rim (T.map (sc c)) = (rim T).map (sc c) := by
  unfold rim low upp
  rw [← List.map_reverse, chain_sc hc, chain_sc hc]
  simp [List.map_dropLast]
theorem lt_sc {c : Int} (hc : 0 < c) {a b : P} : lt (sc c a) (sc c b) ↔ lt a b := by
  unfold lt sc
  dsimp only
  have e : ∀ x y : Int, c * x < c * y ↔ x < y := fun x y => ⟨fun h => Int.lt_of_mul_lt_mul_left h (Int.le_of_lt hc), fun h => Int.mul_lt_mul_of_pos_left h hc⟩
  have e2 : ∀ x y : Int, c * x = c * y ↔ x = y := fun x y => ⟨fun h => Int.eq_of_mul_eq_mul_left (by omega) h, fun h => by rw [h]⟩
  rw [e, e, e2]
theorem sc_inj {c : Int} (hc : 0 < c) {a b : P} (h : sc c a = sc c b) : a = b := by
  unfold sc at h
  have h1 := congrArg Prod.fst h
  have h2 := congrArg Prod.snd h
  exact Prod.ext (Int.eq_of_mul_eq_mul_left (by omega) h1) (Int.eq_of_mul_eq_mul_left (by omega) h2)
theorem map_sc_inj {c : Int} (hc : 0 < c) : ∀ {S T : List P}, S.map (sc c) = T.map (sc c) → S = T
  | [], [], _ => rfl
  | [], _ :: _, h => by simp at h
  | _ :: _, [], h => by simp at h
  | a :: S, b :: T, h => by
    simp only [List.map_cons, List.cons.injEq] at h
    rw [sc_inj hc h.1, map_sc_inj hc h.2]
/-- rows in order with the same members -/
theorem asc_same : ∀ {S T : List P}, Asc S → Asc T → (∀ x, x ∈ S ↔ x ∈ T) → S = T
  | [], [], _, _, _ => rfl
  | [], b :: T, _, _, h => by have := (h b).mpr (by simp); cases this
  | a :: S, [], _, _, h => by have := (h a).mp (by simp); cases this
  | a :: S, b :: T, h1, h2, h => by
    have x1 := List.pairwise_cons.mp h1
    have x2 := List.pairwise_cons.mp h2
    have e : a = b := by
      rcases List.mem_cons.mp ((h a).mp (by simp)) with y | y
      · exact y
      · rcases List.mem_cons.mp ((h b).mpr (by simp)) with w | w
        · exact w.symm
        · exact absurd (lt_tr (x1.1 b w) (x2.1 a y)) lt_irr
    subst e
    rw [asc_same x1.2 x2.2 fun x => ⟨fun hx => ?_, fun hx => ?_⟩]
    · rcases List.mem_cons.mp ((h x).mp (List.mem_cons_of_mem _ hx)) with y | y
      · subst y; exact absurd (x1.1 x hx) lt_irr
      · exact y
    · rcases List.mem_cons.mp ((h x).mpr (List.mem_cons_of_mem _ hx)) with y | y
      · subst y; exact absurd (x2.1 x hx) lt_irr
      · exact y
end HU
/-! hulls as the program and the laws make them -/
namespace WF
open PySem PySem.Spec PyProof.Rows L2 PL
abbrev P := HU.P
abbrev dt (p : P) : D := .tuple [.int p.1, .int p.2]
abbrev cD (d : D) : Option Cell := some (.fz d)
abbrev cI (x : Int) : Option Cell := some (.fz (.int x))
theorem sSeq_nx {a b : M Out} {ρ ρ1 : PL.Env} {s s1 : S} (h : a ρ s = some (.nx ρ1, s1)) : sSeq a b ρ s = b ρ1 s1 := by
  unfold sSeq
  rw [h]
theorem sSeq_rt {a b : M Out} {ρ : PL.Env} {s s1 : S} {d : D} (h : a ρ s = some (.rt d, s1)) : sSeq a b ρ s = some (.rt d, s1) := by
  unfold sSeq
  rw [h]
theorem sSeq_bk {a b : M Out} {ρ ρ1 : PL.Env} {s s1 : S} (h : a ρ s = some (.bk ρ1, s1)) : sSeq a b ρ s = some (.bk ρ1, s1) := by
  unfold sSeq
  rw [h]
theorem sFor_at {it : M (List D)} {p : Pat} {body : M Out} {ρ : PL.Env} {s s1 : S} {xs : List D} (h : it ρ s = some (xs, s1)) : sFor it p body ρ s = forL p body xs ρ s1 := by
  unfold sFor
  rw [h]
theorem forL_nx {p : Pat} {body : M Out} {x : D} {xs : List D} {ρ ρ1 ρ2 : PL.Env} {s s1 s2 : S} (h1 : bnd p x ρ s = some (ρ1, s1)) (h2 : body ρ1 s1 = some (.nx ρ2, s2)) : forL p body (x :: xs) ρ s = forL p body xs ρ2 s2 := by
  conv => lhs; unfold forL
  rw [h1]
  simp only [h2]
theorem fnM_rt {n N : Nat} {body : M Out} {ds : List D} {s s' : S} {d : D} (hl : ds.length = n) (h : body (startE N ds) s = some (.rt d, s')) : fnM n N body ds s = some (d, s') := by
  unfold fnM
  rw [if_pos hl, h]
theorem whL_nx {c : M Bool} {b : M Out} {n : Nat} {ρ ρ2 : PL.Env} {s s1 s2 : S} (h1 : c ρ s = some (true, s1)) (h2 : b ρ s1 = some (.nx ρ2, s2)) : whL c b (n + 1) ρ s = whL c b n ρ2 s2 := by
  conv => lhs; unfold whL
  simp only [h1, h2]
theorem whL_bk {c : M Bool} {b : M Out} {n : Nat} {ρ ρ2 : PL.Env} {s s1 s2 : S} (h1 : c ρ s = some (true, s1)) (h2 : b ρ s1 = some (.bk ρ2, s2)) : whL c b (n + 1) ρ s = some (.nx ρ2, s2) := by
  conv => lhs; unfold whL
  simp only [h1, h2]
theorem whL_no {c : M Bool} {b : M Out} {n : Nat} {ρ : PL.Env} {s s1 : S} (h1 : c ρ s = some (false, s1)) : whL c b (n + 1) ρ s = some (.nx ρ, s1) := by
  conv => lhs; unfold whL
  simp only [h1]
/-- what push leaves below the new top -/
def pops : List P → P → List P
  | t :: s :: r, p => if 0 < HU.det s t p then t :: s :: r else pops (s :: r) p
  | C, _ => C
theorem push_pops : ∀ (C : List P) (p : P), HU.push C p = p :: pops C p
  | [], _ => rfl
  | [_], _ => rfl
  | t :: s :: r, p => by
    unfold HU.push pops
    by_cases h : 0 < HU.det s t p
    · rw [if_pos h, if_pos h]
    · rw [if_neg h, if_neg h]; exact push_pops (s :: r) p
def own (C : List P) : List D := (C.map dt).reverse
theorem own_cons (t : P) (C : List P) : own (t :: C) = own C ++ [dt t] := by simp [own]
theorem own_len (C : List P) : (own C).length = C.length := by simp [own]
theorem at1 (t : P) (C : List P) : atI (own (t :: C)) (-1) = some (dt t) := by
  rw [own_cons]
  simp [atI, ixN]
  have : (-1 + (((own C).length : Int) + 1)).toNat = (own C).length := by omega
  rw [this, if_pos (by omega), Option.bind_some, List.getElem?_append_right (Nat.le_refl _), Nat.sub_self]
  rfl
theorem at2 (t s : P) (C : List P) : atI (own (t :: s :: C)) (-2) = some (dt s) := by
  rw [own_cons, own_cons]
  simp [atI, ixN]
  have : (-2 + (((own C).length : Int) + 2)).toNat = (own C).length := by omega
  rw [this, if_pos (by omega), Option.bind_some, List.getElem?_append_right (Nat.le_refl _), Nat.sub_self]
  rfl
def HE (S : D) (C : List P) (x y u v p q : Option Cell) : PL.Env := [cD S, some (.ow (own C)), x, y, u, v, p, q]
def Sm (k : Nat) (p : P) : Prop := Bi p.1 k ∧ Bi p.2 k
theorem hh_step {k : Nat} (hk : k < 100000) {S : D} {t s p : P} {r : List P} {u v c d : Option Cell} {st : PL.S} (bt : Sm k t) (bs : Sm k s) (bp : Sm k p) :
    ∃ u' v' c' d', lb_half_hull_0 (HE S (t :: s :: r) (cI p.1) (cI p.2) u v c d) st = some (if 0 < HU.det s t p then .bk (HE S (t :: s :: r) (cI p.1) (cI p.2) u' v' c' d') else .nx (HE S (s :: r) (cI p.1) (cI p.2) u' v' c' d'), st) := by
  refine ⟨cI s.1, cI s.2, cI t.1, cI t.2, ?_⟩
  have := bt.1
  have := bt.2
  have := bs.1
  have := bs.2
  have := bp.1
  have := bp.2
  have k1 : dMul (.int (t.1 - s.1)) (.int (p.2 - s.2)) = _ := mulB (by omega)
  have k2 : dMul (.int (t.2 - s.2)) (.int (p.1 - s.1)) = _ := mulB (by omega)
  have a1 := at1 t (s :: r)
  have a2 := at2 t s r
  have e1 : sAsg (.tp [.tp [.nm 4, .nm 5], .tp [.nm 6, .nm 7]]) (mTup (aCons (mIxO 1 (m1 dNeg (mC (.int 2)))) (aCons (mIxO 1 (m1 dNeg (mC (.int 1)))) aNil))) (HE S (t :: s :: r) (cI p.1) (cI p.2) u v c d) st = some (.nx (HE S (t :: s :: r) (cI p.1) (cI p.2) (cI s.1) (cI s.2) (cI t.1) (cI t.2)), st) := by
    simp [HE, sAsg, mTup, aCons, aNil, mThen, mLift, mIxO, m1, mC, dNeg, owAt, iOf, a1, a2, isDs, isD, sizeLine_eq, bnd, bnds]
  unfold lb_half_hull_0
  rw [sSeq_nx e1]
  by_cases h : 0 < HU.det s t p
  · rw [if_pos h]
    have h : (t.2 - s.2) * (p.1 - s.1) < (t.1 - s.1) * (p.2 - s.2) := by unfold HU.det at h; omega
    simp [HE, sSeq, mIf, mB, m2, mThen, mLift, mVar, mC, dSub, k1, k2, dCmp, bOf, h, sBk]
  · rw [if_neg h]
    have h : ¬ (t.2 - s.2) * (p.1 - s.1) < (t.1 - s.1) * (p.2 - s.2) := by unfold HU.det at h; omega
    have e2 : (own (t :: s :: r)).dropLast = own (s :: r) := by rw [own_cons]; simp
    have e3 : own (t :: s :: r) ≠ [] := by rw [own_cons]; simp
    simp [HE, sSeq, mIf, mB, m2, mThen, mLift, mVar, mC, dSub, k1, k2, dCmp, bOf, h, sNx, sPop, owAt, e2, e3]
theorem hh_while {k : Nat} (hk : k < 100000) {S : D} {p : P} {st : PL.S} (bp : Sm k p) : ∀ (C : List P) (n : Nat) (u v c d : Option Cell), C.length < n → (∀ q ∈ C, Sm k q) →
    ∃ u' v' c' d', whL lc_half_hull_0 lb_half_hull_0 n (HE S C (cI p.1) (cI p.2) u v c d) st = some (.nx (HE S (pops C p) (cI p.1) (cI p.2) u' v' c' d'), st)
  | [], n + 1, u, v, c, d, _, _ => ⟨u, v, c, d, whL_no (by simp [lc_half_hull_0, HE, own, mB, m2, mLenO, owAt, mThen, mLift, mC, dCmp, bOf])⟩
  | [t], n + 1, u, v, c, d, _, _ => ⟨u, v, c, d, whL_no (by simp [lc_half_hull_0, HE, own, mB, m2, mLenO, owAt, mThen, mLift, mC, dCmp, bOf])⟩
  | t :: s :: r, n + 1, u, v, c, d, hn, hb => by
    have hc : lc_half_hull_0 (HE S (t :: s :: r) (cI p.1) (cI p.2) u v c d) st = some (true, st) := by
      have := own_len (t :: s :: r)
      simp [lc_half_hull_0, HE, mB, m2, mLenO, owAt, mThen, mLift, mC, dCmp, bOf, this]
      omega
    obtain ⟨u1, v1, c1, d1, e1⟩ := hh_step hk (S := S) (r := r) (u := u) (v := v) (c := c) (d := d) (st := st) (hb t (by simp)) (hb s (by simp)) bp
    unfold pops
    by_cases h : 0 < HU.det s t p
    · rw [if_pos h] at e1 ⊢
      exact ⟨u1, v1, c1, d1, whL_bk hc e1⟩
    · rw [if_neg h] at e1 ⊢
      rw [whL_nx hc e1]
      exact hh_while hk bp (s :: r) n u1 v1 c1 d1 (by simp at hn ⊢; omega) fun q hq => hb q (List.mem_cons_of_mem _ hq)
theorem pops_sub : ∀ (C : List P) (p : P), ∀ x ∈ pops C p, x ∈ C
  | [], _, x, h => h
  | [_], _, x, h => h
  | t :: s :: r, p, x, h => by
    unfold pops at h
    split at h
    · exact h
    · exact List.mem_cons_of_mem _ (pops_sub (s :: r) p x h)
theorem pops_len : ∀ (C : List P) (p : P), (pops C p).length ≤ C.length
  | [], _ => Nat.le_refl _
  | [_], _ => Nat.le_refl _
  | t :: s :: r, p => by
    unfold pops
    split
    · exact Nat.le_refl _
    · have := pops_len (s :: r) p
      simp at this ⊢
      omega
theorem hh_turn {k : Nat} (hk : k < 100000) {S : D} {p : P} {st : PL.S} {C : List P} {u v c d : Option Cell} (bp : Sm k p) (hb : ∀ q ∈ C, Sm k q) (hl : C.length < 10000) :
    ∃ u' v' c' d', lb_half_hull_1 (HE S C (cI p.1) (cI p.2) u v c d) st = some (.nx (HE S (HU.push C p) (cI p.1) (cI p.2) u' v' c' d'), st) := by
  have ht : t_half_hull_0 (HE S C (cI p.1) (cI p.2) u v c d) st = C.length + 1 := by
    simp [t_half_hull_0, HE, owAt, own_len]
  obtain ⟨u1, v1, c1, d1, e1⟩ := hh_while hk (S := S) (st := st) bp C (C.length + 1) u v c d (by omega) hb
  refine ⟨u1, v1, c1, d1, ?_⟩
  have e2 : sWh t_half_hull_0 lc_half_hull_0 lb_half_hull_0 (HE S C (cI p.1) (cI p.2) u v c d) st = some (.nx (HE S (pops C p) (cI p.1) (cI p.2) u1 v1 c1 d1), st) := by
    unfold sWh
    rw [ht]
    exact e1
  unfold lb_half_hull_1
  rw [sSeq_nx e2, push_pops]
  clear e1 e2 ht
  have h1 : (own (pops C p)).length < sizeLine := by
    rw [own_len, sizeLine_eq]
    have := pops_len C p
    omega
  simp [HE, sApp, mTup, aCons, aNil, mThen, mLift, mVar, isDs, isD, sizeLine_eq, owAt, own_cons] 
  rw [own_len]
  have := pops_len C p
  omega
theorem push_len (C : List P) (p : P) : (HU.push C p).length ≤ C.length + 1 := by
  rw [push_pops]
  have := pops_len C p
  simp
  omega
theorem push_sub (C : List P) (p : P) : ∀ x ∈ HU.push C p, x = p ∨ x ∈ C := fun x h => by
  rw [push_pops] at h
  rcases List.mem_cons.mp h with e | e
  · exact .inl e
  · exact .inr (pops_sub C p x e)
theorem hh_loop {k : Nat} (hk : k < 100000) {S : D} {st : PL.S} : ∀ (T C : List P) (x y u v c d : Option Cell), (∀ q ∈ T, Sm k q) → (∀ q ∈ C, Sm k q) → C.length + T.length < 10000 →
    ∃ x' y' u' v' c' d', forL (.tp [.nm 2, .nm 3]) lb_half_hull_1 (T.map dt) (HE S C x y u v c d) st = some (.nx (HE S (T.foldl HU.push C) x' y' u' v' c' d'), st)
  | [], C, x, y, u, v, c, d, _, _, _ => ⟨x, y, u, v, c, d, rfl⟩
  | p :: T, C, x, y, u, v, c, d, hT, hC, hl => by
    obtain ⟨u1, v1, c1, d1, e1⟩ := hh_turn hk (S := S) (st := st) (u := u) (v := v) (c := c) (d := d) (hT p (by simp)) hC (by simp at hl; omega)
    have e0 : bnd (.tp [.nm 2, .nm 3]) (dt p) (HE S C x y u v c d) st = some (HE S C (cI p.1) (cI p.2) u v c d, st) := by simp [bnd, bnds, HE]
    rw [List.map_cons, forL_nx e0 e1]
    refine hh_loop hk T (HU.push C p) _ _ u1 v1 c1 d1 (fun q hq => hT q (List.mem_cons_of_mem _ hq)) (fun q hq => ?_) ?_
    · rcases push_sub C p q hq with e | e
      · rw [e]; exact hT p (by simp)
      · exact hC q e
    · have := push_len C p
      simp at hl
      omega
theorem e_half_hull {k : Nat} (hk : k < 100000) {S : D} {T : List P} {st : PL.S} (hS : itOf S = some (T.map dt)) (hT : ∀ q ∈ T, Sm k q) (hl : T.length < 10000) :
    f_half_hull [S] st = some (.list ((HU.chain T).reverse.map dt), st) := by
  obtain ⟨x, y, u, v, c, d, e1⟩ := hh_loop hk (S := S) (st := st) T [] none none none none none none hT (by simp) (by simp; exact hl)
  have e0 : sOwn 1 (mLst aNil) (startE 8 [S]) st = some (.nx (HE S [] none none none none none none), st) := by
    simp [sOwn, mLst, aNil, mThen, mLift, isDs, startE, HE, own, List.replicate]
  have e2 : sFor (mIt (mVar 0)) (.tp [.nm 2, .nm 3]) lb_half_hull_1 (HE S [] none none none none none none) st = _ := (sFor_at (by simp [mIt, mThen, mVar, HE, mLift, hS])).trans e1
  refine fnM_rt rfl ?_
  unfold g_half_hull
  rw [sSeq_nx e0, sSeq_nx e2]
  have e3 : own (List.foldl HU.push [] T) = (HU.chain T).reverse.map dt := by
    unfold own HU.chain
    rw [List.map_reverse]
  simp [sFrz, frz, HE, sRet, mVar, mThen, mLift, e3]
end WF
/-! hulls as the laws make them -/
namespace WF
open PySem PySem.Spec PyProof.Rows L2 PL
theorem e_bend {k : Nat} (hk : k < 100000) {s t p : P} {st : PL.S} (bs : Sm k s) (bt : Sm k t) (bp : Sm k p) : f__law_bend [dt s, dt t, dt p] st = some (.int (HU.det s t p), st) := by
  have := bt.1
  have := bt.2
  have := bs.1
  have := bs.2
  have := bp.1
  have := bp.2
  have k1 : dMul (.int (t.1 - s.1)) (.int (p.2 - s.2)) = _ := mulB (by omega)
  have k2 : dMul (.int (t.2 - s.2)) (.int (p.1 - s.1)) = _ := mulB (by omega)
  simp [f__law_bend, fnM, g__law_bend, startE, sRet, m2, mThen, mLift, mVar, mC, dIx, atI, ixN, dSub, k1, k2, HU.det]
def LE (S : D) (C : List P) (x : Option Cell) : PL.Env := [cD S, some (.ow (own C)), x]
theorem lh_cond {k : Nat} (hk : k < 100000) {S : D} {t s p : P} {r : List P} {st : PL.S} (bt : Sm k t) (bs : Sm k s) (bp : Sm k p) : lc__law_chain_0 (LE S (t :: s :: r) (cD (dt p))) st = some (decide (HU.det s t p ≤ 0), st) := by
  have a1 := at1 t (s :: r)
  have a2 := at2 t s r
  have hl : (1 : Int) < (own (t :: s :: r)).length := by
    rw [own_len]
    simp
    omega
  simp [lc__law_chain_0, LE, mAnd, mIf, mB, m2, mLenO, owAt, mThen, mLift, mC, dCmp, bOf, hl, mF, aCons, aNil, mIxO, m1, dNeg, iOf, a1, a2, mVar, e_bend hk bs bt bp]
theorem lh_pop {S : D} {t s : P} {r : List P} {x : Option Cell} {st : PL.S} : lb__law_chain_0 (LE S (t :: s :: r) x) st = some (.nx (LE S (s :: r) x), st) := by
  have e2 : (own (t :: s :: r)).dropLast = own (s :: r) := by rw [own_cons]; simp
  have e3 : own (t :: s :: r) ≠ [] := by rw [own_cons]; simp
  simp [lb__law_chain_0, LE, sPop, owAt, e2, e3]
theorem lh_while {k : Nat} (hk : k < 100000) {S : D} {p : P} {st : PL.S} (bp : Sm k p) : ∀ (C : List P) (n : Nat), C.length < n → (∀ q ∈ C, Sm k q) →
    whL lc__law_chain_0 lb__law_chain_0 n (LE S C (cD (dt p))) st = some (.nx (LE S (pops C p) (cD (dt p))), st)
  | [], n + 1, _, _ => whL_no (by simp [lc__law_chain_0, LE, own, mAnd, mIf, mB, m2, mLenO, owAt, mThen, mLift, mC, dCmp, bOf, qC])
  | [t], n + 1, _, _ => whL_no (by simp [lc__law_chain_0, LE, own, mAnd, mIf, mB, m2, mLenO, owAt, mThen, mLift, mC, dCmp, bOf, qC])
  | t :: s :: r, n + 1, hn, hb => by
    have hc := lh_cond hk (S := S) (r := r) (st := st) (hb t (by simp)) (hb s (by simp)) bp
    unfold pops
    by_cases h : 0 < HU.det s t p
    · rw [if_pos h]
      rw [show decide (HU.det s t p ≤ 0) = false by simp; omega] at hc
      exact whL_no hc
    · rw [if_neg h]
      rw [show decide (HU.det s t p ≤ 0) = true by simp; omega] at hc
      rw [whL_nx hc lh_pop]
      exact lh_while hk bp (s :: r) n (by simp at hn ⊢; omega) fun q hq => hb q (List.mem_cons_of_mem _ hq)
theorem lh_turn {k : Nat} (hk : k < 100000) {S : D} {p : P} {st : PL.S} {C : List P} (bp : Sm k p) (hb : ∀ q ∈ C, Sm k q) (hl : C.length < 10000) :
    lb__law_chain_1 (LE S C (cD (dt p))) st = some (.nx (LE S (HU.push C p) (cD (dt p))), st) := by
  have ht : t__law_chain_0 (LE S C (cD (dt p))) st = C.length + 1 := by
    simp [t__law_chain_0, LE, owAt, own_len]
  have e2 : sWh t__law_chain_0 lc__law_chain_0 lb__law_chain_0 (LE S C (cD (dt p))) st = some (.nx (LE S (pops C p) (cD (dt p))), st) := by
    unfold sWh
    rw [ht]
    exact lh_while hk bp C (C.length + 1) (by omega) hb
  unfold lb__law_chain_1
  rw [sSeq_nx e2, push_pops]
  clear e2 ht
  simp [LE, sApp, mVar, mThen, mLift, isD, sizeLine_eq, owAt, own_cons]
  rw [own_len]
  have := pops_len C p
  omega
theorem lh_loop {k : Nat} (hk : k < 100000) {S : D} {st : PL.S} : ∀ (T C : List P) (x : Option Cell), (∀ q ∈ T, Sm k q) → (∀ q ∈ C, Sm k q) → C.length + T.length < 10000 →
    ∃ x', forL (.nm 2) lb__law_chain_1 (T.map dt) (LE S C x) st = some (.nx (LE S (T.foldl HU.push C) x'), st)
  | [], C, x, _, _, _ => ⟨x, rfl⟩
  | p :: T, C, x, hT, hC, hl => by
    have e1 := lh_turn hk (S := S) (st := st) (hT p (by simp)) hC (by simp at hl; omega)
    have e0 : bnd (.nm 2) (dt p) (LE S C x) st = some (LE S C (cD (dt p)), st) := by simp [bnd, LE]
    rw [List.map_cons, forL_nx e0 e1]
    refine lh_loop hk T (HU.push C p) _ (fun q hq => hT q (List.mem_cons_of_mem _ hq)) (fun q hq => ?_) ?_
    · rcases push_sub C p q hq with e | e
      · rw [e]; exact hT p (by simp)
      · exact hC q e
    · have := push_len C p
      simp at hl
      omega
theorem e_chain {k : Nat} (hk : k < 100000) {S : D} {T : List P} {st : PL.S} (hS : itOf S = some (T.map dt)) (hT : ∀ q ∈ T, Sm k q) (hl : T.length < 10000) :
    f__law_chain [S] st = some (.list ((HU.chain T).reverse.map dt), st) := by
  obtain ⟨x, e1⟩ := lh_loop hk (S := S) (st := st) T [] none hT (by simp) (by simp; exact hl)
  have e0 : sOwn 1 (mLst aNil) (startE 3 [S]) st = some (.nx (LE S [] none), st) := by
    simp [sOwn, mLst, aNil, mThen, mLift, isDs, startE, LE, own, List.replicate]
  have e2 : sFor (mIt (mVar 0)) (.nm 2) lb__law_chain_1 (LE S [] none) st = _ := (sFor_at (by simp [mIt, mThen, mVar, LE, mLift, hS])).trans e1
  refine fnM_rt rfl ?_
  unfold g__law_chain
  rw [sSeq_nx e0, sSeq_nx e2]
  have e3 : own (List.foldl HU.push [] T) = (HU.chain T).reverse.map dt := by
    unfold own HU.chain
    rw [List.map_reverse]
  simp [sFrz, frz, LE, sRet, mVar, mThen, mLift, e3]
end WF
/-! the laws' sack, draws, least terms -/
namespace WF
open PySem PySem.Spec PyProof.Rows L2 PL
def Sk (n : Nat) (s : S) : Prop := ∃ a b c : Int, s = [.int a, .int b, .int c] ∧ 0 ≤ a ∧ 0 ≤ b ∧ b < 2147483543 ∧ 0 ≤ c ∧ c ≤ n
theorem Sk.mono {n m : Nat} {s : S} (h : Sk n s) (l : n ≤ m) : Sk m s := by
  obtain ⟨a, b, c, e, h1, h2, h3, h4, h5⟩ := h
  exact ⟨a, b, c, e, h1, h2, h3, h4, by omega⟩
theorem biOf {x : Int} {n : Nat} (h0 : 0 ≤ x) (h : x < 2 ^ n) : Bi x n := ⟨by
  have : (x.natAbs : Int) = x := by omega
  have h2 : ((x.natAbs : Nat) : Int) < ((2 ^ n : Nat) : Int) := by rw [this]; push_cast; exact h
  exact Int.ofNat_lt.mp h2⟩
theorem bi31 {x : Int} (h0 : 0 ≤ x) (h : x < 2147483648) : Bi x 31 := biOf h0 (by
  have : (2 : Int) ^ 31 = 2147483648 := by decide
  omega)
theorem biAbs {x : Int} {n : Nat} (h : x.natAbs < 2 ^ n) : Bi x n := ⟨h⟩
theorem e_draw {n : Nat} {s : S} {z : Int} (h : Sk n s) (hn : n ≤ 1000000) (z0 : 0 < z) (z1 : z < 1073741824) : ∃ i s', f__law_draw [SACK, .int z] s = some (.int i, s') ∧ 0 ≤ i ∧ i < z ∧ Sk (n + 1) s' := by
  obtain ⟨a, b, c, rfl, ha, hb, hb2, hc, hc2⟩ := h
  by_cases h0 : 0 < a
  · refine ⟨a % z, [.int (a / z), .int b, .int c], ?_, Int.emod_nonneg _ (by omega), Int.emod_lt_of_pos _ z0, a / z, b, c, rfl, Int.ediv_nonneg ha (by omega), hb, hb2, hc, by omega⟩
    simp [f__law_draw, fnM, g__law_draw, startE, sSeq, mIf, mB, m2, mThen, mLift, mSk, SACK, mC, dCmp, bOf, h0, sAsg, mCall, aCons, aNil, mVar, bDivmod, z0, z1, bnd, bnds, isD, sRet]
  · have b16 : Bi 16807 31 := biAbs (by decide)
    have b48 : Bi 48611 31 := biAbs (by decide)
    have b11 : Bi 11 31 := biAbs (by decide)
    have b523 : Bi 523 31 := biAbs (by decide)
    have hbb := bi31 hb (by omega)
    have hcc := bi31 (by omega : 0 ≤ c + 1) (by omega)
    have m1' : dMul (.int b) (.int 16807) = _ := mulB (by decide)
    have m2' : dMul (.int (c + 1)) (.int 48611) = _ := mulB (by decide)
    have md1 : dMod (.int (b * 16807 + (c + 1) * 48611)) (.int 2147483543) = _ := modB (by decide)
    generalize hx : (b * 16807 + (c + 1) * 48611) % 2147483543 = x at md1
    have hx0 : 0 ≤ x := by rw [← hx]; exact Int.emod_nonneg _ (by decide)
    have hx1 : x < 2147483543 := by rw [← hx]; exact Int.emod_lt_of_pos _ (by decide)
    have dv : dDiv (.int x) (.int 11) = _ := divB (by decide) (by decide)
    have md2 : dMod (.int (x / 11)) (.int 3001) = _ := modB (by decide)
    generalize hy : x / 11 % 3001 = y at md2
    have hy0 : 0 ≤ y := by rw [← hy]; exact Int.emod_nonneg _ (by decide)
    have hy1 : y < 3001 := by rw [← hy]; exact Int.emod_lt_of_pos _ (by decide)
    have hxx := bi31 hx0 (by omega)
    have hyy := bi31 (by omega : 0 ≤ y + 10007) (by omega)
    have m3 : dMul (.int x) (.int (y + 10007)) = _ := mulB (by decide)
    have md3 : dMod (.int (x * (y + 10007) + 29)) (.int 2147483543) = _ := modB (by decide)
    generalize hw : (x * (y + 10007) + 29) % 2147483543 = w at md3
    have hw0 : 0 ≤ w := by rw [← hw]; exact Int.emod_nonneg _ (by decide)
    have hw1 : w < 2147483543 := by rw [← hw]; exact Int.emod_lt_of_pos _ (by decide)
    have dv2 : dDiv (.int w) (.int 523) = _ := divB (by decide) (by decide)
    have md4 : dMod (.int (w / 523)) (.int z) = _ := modB z0
    refine ⟨w / 523 % z, [.int a, .int w, .int (c + 1)], ?_, Int.emod_nonneg _ (by omega), Int.emod_lt_of_pos _ z0, a, w, c + 1, rfl, ha, hw0, hw1, by omega, by omega⟩
    simp [f__law_draw, fnM, g__law_draw, startE, sSeq, mIf, mB, m2, mThen, mLift, mSk, SACK, mC, dCmp, bOf, h0, sNx, sAsg, mCall, aCons, aNil, mVar, bnd, bnds, isD, sRet, dAdd, m1', m2', md1, bInt, dv, md2, m3, md3, dv2, md4]
theorem atI_nat' {ds : List D} {i : Int} (h0 : 0 ≤ i) (h1 : i < ds.length) : ∃ d, atI ds i = some d ∧ d ∈ ds := by
  have hl : i.toNat < ds.length := by omega
  refine ⟨ds[i.toNat], ?_, List.getElem_mem hl⟩
  unfold atI ixN
  simp [h0, h1, hl]
/-- one of some -/
theorem e_one {n : Nat} {s : S} {x : D} {ds : List D} (h : Sk n s) (hn : n ≤ 1000000) (hx : itOf x = some ds) (h0 : ds ≠ []) (h1 : ds.length < 10000) : ∃ d ∈ ds, ∃ s', f__law_one [SACK, x] s = some (d, s') ∧ Sk (n + 1) s' := by
  have z0 : (0 : Int) < ds.length := by
    cases ds with
    | nil => exact absurd rfl h0
    | cons _ _ => simp
  obtain ⟨i, s', e, i0, i1, k⟩ := e_draw h hn z0 (by omega)
  obtain ⟨d, hd, hm⟩ := atI_nat' i0 i1
  refine ⟨d, hm, s', ?_, k⟩
  cases x with
  | list es =>
    cases hx
    simp [f__law_one, g__law_one, fnM, startE, sRet, m2, mThen, mLift, mVar, mF, aCons, aNil, mCall, bLen, e, dIx, hd]
  | tuple es =>
    cases hx
    simp [f__law_one, g__law_one, fnM, startE, sRet, m2, mThen, mLift, mVar, mF, aCons, aNil, mCall, bLen, e, dIx, hd]
  | _ => cases hx
/-! Euclid -/
theorem gcdI_step {a b : Int} (ha : 0 ≤ a) (hb : 0 < b) : gcdI b (a % b) = gcdI a b := by
  unfold gcdI
  congr 1
  rw [Int.natAbs_emod_of_nonneg ha, Nat.gcd_comm a.natAbs b.natAbs]
  rw [Nat.gcd_comm b.natAbs (a.natAbs % b.natAbs), ← Nat.gcd_rec]
def GE (a b : Int) : PL.Env := [cI a, cI b]
theorem gcd_while {s : S} : ∀ (n : Nat) (a b : Int), 0 ≤ a → 0 ≤ b → b.natAbs < n → whL lc__law_gcd_0 lb__law_gcd_0 n (GE a b) s = some (.nx (GE (gcdI a b) 0), s)
  | 0, _, _, _, _, h => by omega
  | n + 1, a, b, ha, hb, h => by
    by_cases z : b = 0
    · subst z
      have e : gcdI a 0 = a := by unfold gcdI; simp; omega
      rw [e]
      exact whL_no (by simp [lc__law_gcd_0, GE, mB, m2, mThen, mLift, mVar, mC, neI, bOf])
    · have e1 : lc__law_gcd_0 (GE a b) s = some (true, s) := by simp [lc__law_gcd_0, GE, mB, m2, mThen, mLift, mVar, mC, neI, bOf, z]
      have md : dMod (.int a) (.int b) = _ := modB (by omega)
      have e2 : lb__law_gcd_0 (GE a b) s = some (.nx (GE b (a % b)), s) := by simp [lb__law_gcd_0, GE, sPar, aCons, aNil, m2, mThen, mLift, mVar, mCall, bInt, md, isD]
      have l0 := Int.emod_nonneg a z
      have l1 := Int.emod_lt_of_pos a (by omega : 0 < b)
      rw [whL_nx e1 e2, gcd_while n b (a % b) hb l0 (by omega), gcdI_step ha (by omega)]
theorem gcdI_abs {a b : Int} : gcdI (a.natAbs : Int) (b.natAbs : Int) = gcdI a b := by
  unfold gcdI
  simp
theorem abs_is {a : Int} : (if a < 0 then -a else a) = (a.natAbs : Int) := by split <;> omega
theorem e_gcd {a b : Int} {s : S} : f__law_gcd [.int a, .int b] s = some (.int (gcdI a b), s) := by
  refine fnM_rt rfl ?_
  have e0 : sPar 0 1 (aCons (mCall bAbs (aCons (mVar 0) aNil)) (aCons (mCall bAbs (aCons (mVar 1) aNil)) aNil)) (startE 2 [.int a, .int b]) s = some (.nx (GE a.natAbs b.natAbs), s) := by
    simp [sPar, startE, aCons, aNil, mCall, mThen, mLift, mVar, bAbs, GE, isD, abs_is]
  have e1 : sWh t__law_gcd_0 lc__law_gcd_0 lb__law_gcd_0 (GE a.natAbs b.natAbs) s = some (.nx (GE (gcdI a b) 0), s) := by
    unfold sWh
    have ht : t__law_gcd_0 (GE a.natAbs b.natAbs) s = b.natAbs + 1 := by simp [t__law_gcd_0, GE]
    rw [ht, gcd_while _ _ _ (by omega) (by omega) (by omega), gcdI_abs]
  unfold g__law_gcd
  rw [sSeq_nx e0, sSeq_nx e1]
  simp [GE, sRet, mThen, mLift, mVar]
theorem gcd_two {a b c : Int} : gcdI (gcdI a b) c = gcdI3 a b c := by
  unfold gcdI gcdI3
  simp
theorem e_spot {x y w : Int} {s : S} {m : Nat} (hw : 0 < w) [p : Bi w m] (hm : m < 8999) : f__law_spot [.int x, .int y, .int w] s = some (nm3 x y w, s) := by
  have h2 := gcd3_pos (a := x) (b := y) hw
  have i1 := gcd3_bi (a := x) (b := y) hw p
  have h3 : ∀ z, dDiv (.int z) (.int (gcdI3 x y w)) = some (.int (z / gcdI3 x y w)) := fun z => divB h2 hm
  unfold nm3
  simp [f__law_spot, g__law_spot, fnM, startE, sSeq, sAsg, bnd, bnds, mThen, mLift, mVar, m1, m2, mC, mF, aCons, aNil, mCall, mTup, isDs, isD, mIf, mB, bOf, mNot, mOr, mAnd, mAndV, mOrV, qC, sNx, sRet, sEx, dIx, atI, ixN, dCmp, dAdd, dSub, dNeg, dNot, dIs, isT, bInt, bAbs, bLen, mL, mLst, mIt, itOf, sizeLine_eq, e_gcd, gcd_two, h3]
end WF
/-! comprehensions, the law's boats -/
namespace WF
open PySem PySem.Spec PyProof.Rows L2 PL PLS
theorem lcGo_map {α : Type} {p : Pat} {f : M D} {ρ0 : PL.Env} {enc g : α → D} {s : S} : ∀ (xs : List α), (∀ x ∈ xs, ∃ ρ1, bnd p (enc x) ρ0 s = some (ρ1, s) ∧ f ρ1 s = some (g x, s) ∧ isD (g x) = true) →
    lcGo p (qC true) f ρ0 (xs.map enc) s = some (xs.map g, s)
  | [], _ => rfl
  | x :: xs, h => by
    obtain ⟨ρ1, e1, e2, e3⟩ := h x (by simp)
    have ih := lcGo_map xs fun y hy => h y (List.mem_cons_of_mem _ hy)
    rw [List.map_cons, List.map_cons]
    conv => lhs; unfold lcGo
    simp only [e1, qC, e2, e3]
    rw [ih]
    rfl
theorem lcGo_fm {α : Type} {p : Pat} {c : M Bool} {f : M D} {ρ0 : PL.Env} {enc g : α → D} {b : α → Bool} {s : S} : ∀ (xs : List α), (∀ x ∈ xs, ∃ ρ1, bnd p (enc x) ρ0 s = some (ρ1, s) ∧ c ρ1 s = some (b x, s) ∧ (b x = true → f ρ1 s = some (g x, s) ∧ isD (g x) = true)) →
    lcGo p c f ρ0 (xs.map enc) s = some ((xs.filter b).map g, s)
  | [], _ => rfl
  | x :: xs, h => by
    obtain ⟨ρ1, e1, e2, e3⟩ := h x (by simp)
    have ih := lcGo_fm xs fun y hy => h y (List.mem_cons_of_mem _ hy)
    rw [List.map_cons]
    conv => lhs; unfold lcGo
    cases hb : b x with
    | true =>
      obtain ⟨e4, e5⟩ := e3 hb
      rw [hb] at e2
      simp only [e1, e2, e4, e5]
      rw [ih, List.filter_cons, hb]
      rfl
    | false =>
      rw [hb] at e2
      simp only [e1, e2]
      rw [ih, List.filter_cons, hb]
      rfl
theorem le_size {n : Nat} (h : n ≤ 10000) : n ≤ sizeLine := by rw [sizeLine_eq]; omega
theorem mLc_map {α : Type} {it : M (List D)} {vs : List Nat} {p : Pat} {f : M D} {ρ : PL.Env} {enc g : α → D} {s s0 : S} {xs : List α} (hit : it ρ s0 = some (xs.map enc, s)) (hl : xs.length ≤ 10000)
    (h : ∀ x ∈ xs, ∃ ρ1, bnd p (enc x) (wipeE ρ vs) s = some (ρ1, s) ∧ f ρ1 s = some (g x, s) ∧ isD (g x) = true) : mLc it vs p (qC true) f ρ s0 = some (xs.map g, s) := by
  unfold mLc
  rw [hit]
  show (if (xs.map enc).length ≤ sizeLine then _ else _) = _
  rw [List.length_map, if_pos (le_size hl)]
  exact lcGo_map xs h
theorem mLc_fm {α : Type} {it : M (List D)} {vs : List Nat} {p : Pat} {c : M Bool} {f : M D} {ρ : PL.Env} {enc g : α → D} {b : α → Bool} {s s0 : S} {xs : List α} (hit : it ρ s0 = some (xs.map enc, s)) (hl : xs.length ≤ 10000)
    (h : ∀ x ∈ xs, ∃ ρ1, bnd p (enc x) (wipeE ρ vs) s = some (ρ1, s) ∧ c ρ1 s = some (b x, s) ∧ (b x = true → f ρ1 s = some (g x, s) ∧ isD (g x) = true)) : mLc it vs p c f ρ s0 = some ((xs.filter b).map g, s) := by
  unfold mLc
  rw [hit]
  show (if (xs.map enc).length ≤ sizeLine then _ else _) = _
  rw [List.length_map, if_pos (le_size hl)]
  exact lcGo_fm xs h
theorem itOf_isD' {X : D} {xs : List D} (h : itOf X = some xs) : isD X = true := by cases X <;> first | rfl | cases h
/-- a row's points over m, in least terms -/
abbrev said (R : List P) (m : Int) : D := .tuple (R.map fun r => nm3 r.1 r.2 m)
theorem e_said {R : List P} {m : Int} {X : D} {s : S} {j : Nat} (hX : itOf X = some (R.map dt)) (hm : 0 < m) [Bi m j] (hj : j < 8999) (hl : R.length ≤ 10000) : f__law_said [X, .int m] s = some (said R m, s) := by
  have e1 : mLc (mIt (mVar 0)) [2, 3] (.tp [.nm 2, .nm 3]) (qC true) le__law_said_0 (startE 4 [X, .int m]) s = some (R.map fun r => nm3 r.1 r.2 m, s) := by
    refine mLc_map (enc := dt) (by simp [startE, mIt, mThen, mVar, mLift, hX]) hl fun r _ => ⟨[cD X, cI m, cI r.1, cI r.2], by simp [startE, wipeE, bnd, bnds], ?_, rfl⟩
    simp [le__law_said_0, mF, aCons, aNil, mThen, mLift, mVar, e_spot hm hj]
  refine fnM_rt rfl ?_
  unfold g__law_said
  generalize mLc (mIt (mVar 0)) [2, 3] (.tp [.nm 2, .nm 3]) (qC true) le__law_said_0 = L at e1 ⊢
  simp [sRet, mCall, aCons, aNil, mThen, mLift, mL, e1, bTuple]
/-! sorted rows of points -/
theorem tD_dt (p : P) : tD [p.1, p.2] = dt p := rfl
def enK (p : P) : List Int := [p.1, p.2]
def deK (k : List Int) : P := (k.getD 0 0, k.getD 1 0)
theorem lex_lt {p q : P} (h : lexL (enK p) (enK q) = true) : HU.lt p q := by
  unfold enK lexL at h
  unfold HU.lt
  by_cases e : p.1 = q.1
  · rw [if_pos e] at h
    unfold lexL at h
    by_cases e2 : p.2 = q.2
    · rw [if_pos e2] at h
      unfold lexL at h
      cases h
    · rw [if_neg e2, decide_eq_true_eq] at h
      exact .inr ⟨e, h⟩
  · rw [if_neg e, decide_eq_true_eq] at h
    exact .inl h
theorem uniq_len : ∀ ks : List (List Int), (uniqS ks).length ≤ ks.length
  | [] => Nat.le_refl _
  | k :: ks => by
    unfold uniqS
    have := uniq_len ks
    split
    · simp; omega
    · simp; omega
theorem sort_pts (T : List P) : ∃ S : List P, HU.Asc S ∧ (∀ x, x ∈ S ↔ x ∈ T) ∧ S.length ≤ T.length ∧ (sortS (uniqS (T.map enK))).map tD = S.map dt := by
  have hk : ∀ k ∈ sortS (uniqS (T.map enK)), ∃ p ∈ T, k = enK p := fun k h => by
    have h2 := uniq_mem.mp ((sort_perm _).mem_iff.mp h)
    obtain ⟨p, hp, e⟩ := List.mem_map.mp h2
    exact ⟨p, hp, e.symm⟩
  have nd : (sortS (uniqS (T.map enK))).Nodup := (sort_perm _).nodup_iff.mpr (uniq_nodup _)
  have as := sort_asc (uniqS (T.map enK))
  have ln : (sortS (uniqS (T.map enK))).length ≤ T.length := by
    rw [(sort_perm _).length_eq]
    exact Nat.le_trans (uniq_len _) (by simp)
  have mem : ∀ p, enK p ∈ sortS (uniqS (T.map enK)) ↔ p ∈ T := fun p => by
    rw [(sort_perm _).mem_iff, uniq_mem, List.mem_map]
    refine ⟨fun ⟨q, hq, e⟩ => ?_, fun h => ⟨p, h, rfl⟩⟩
    have e1 : q.1 = p.1 := by unfold enK at e; simp at e; exact e.1
    have e2 : q.2 = p.2 := by unfold enK at e; simp at e; exact e.2
    have : q = p := Prod.ext e1 e2
    rw [← this]
    exact hq
  generalize sortS (uniqS (T.map enK)) = L at *
  have back : L = (L.map deK).map enK := by
    rw [List.map_map]
    conv => lhs; rw [← List.map_id L]
    refine List.map_congr_left fun k hk2 => ?_
    obtain ⟨p, _, e⟩ := hk k hk2
    subst e
    rfl
  generalize L.map deK = S at back
  subst back
  refine ⟨S, ?_, fun x => ?_, by simpa using ln, by rw [List.map_map]; rfl⟩
  · have h1 : S.Pairwise fun x y => lexL (enK y) (enK x) = false := by
      have := List.pairwise_map.mp as
      exact this
    have h2 : S.Pairwise fun x y => enK x ≠ enK y := List.pairwise_map.mp nd
    refine (h1.and h2).imp fun {p q} ⟨a, b⟩ => lex_lt ?_
    rcases lexL_tri (enK p) (enK q) with c | c | c
    · exact c
    · exact absurd c b
    · rw [a] at c; cases c
  · rw [← mem x, List.mem_map]
    refine ⟨fun h => ⟨x, h, rfl⟩, fun ⟨q, hq, e⟩ => ?_⟩
    have e1 : q.1 = x.1 := by unfold enK at e; simp at e; exact e.1
    have e2 : q.2 = x.2 := by unfold enK at e; simp at e; exact e.2
    have : q = x := Prod.ext e1 e2
    rw [← this]
    exact hq
theorem all_isTD (T : List P) : (T.map dt).all isTD = true := by
  rw [List.all_map, List.all_eq_true]
  intro x _
  rfl
theorem bk_dt (T : List P) : (T.map dt).map bkD = T.map enK := by
  rw [List.map_map]
  rfl
theorem srtU_pts {T : List P} (hl : T.length < 64) : ∃ S : List P, HU.Asc S ∧ (∀ x, x ∈ S ↔ x ∈ T) ∧ S.length ≤ T.length ∧ srtU (T.map dt) = some (S.map dt) := by
  obtain ⟨S, h1, h2, h4, h3⟩ := sort_pts T
  refine ⟨S, h1, h2, h4, ?_⟩
  unfold srtU
  rw [if_pos ⟨all_isTD T, by rw [List.length_map]; exact hl⟩, bk_dt, h3]
end WF
/-! the law's rims and boats -/
namespace WF
open PySem PySem.Spec PyProof.Rows L2 PL PLS
theorem cut_last (xs : List D) : PL.cutD xs none (some (-1)) = xs.dropLast := by
  show ((xs.drop 0).take ((if (-1 : Int) < 0 then ((-1 : Int) + (xs.length : Int)).toNat else min (-1 : Int).toNat xs.length) - 0)) = _
  rw [if_pos (by decide), List.drop_zero, Nat.sub_zero, List.dropLast_eq_take]
  congr 1
  omega
theorem itL (ds : List D) : itOf (.list ds) = some ds := rfl
theorem itT (ds : List D) : itOf (.tuple ds) = some ds := rfl
theorem chain_le (S : List P) : (HU.chain S).length ≤ S.length := by
  have h : ∀ (T C : List P), (T.foldl HU.push C).length ≤ C.length + T.length := by
    intro T
    induction T with
    | nil => intro C; simp
    | cons p T ih =>
      intro C
      have h1 := ih (HU.push C p)
      have h2 := push_len C p
      simp only [List.foldl_cons, List.length_cons]
      omega
  have := h S []
  simpa [HU.chain] using this
theorem rim_le (S : List P) : (HU.rim S).length ≤ 2 * S.length := by
  have h1 := chain_le S
  have h2 := chain_le S.reverse
  unfold HU.rim HU.low HU.upp
  simp only [List.length_append, List.length_dropLast, List.length_reverse] at *
  omega
/-- both chains, as the program and the law tell them -/
theorem two_chains {S : List P} : ((HU.chain S).reverse.map dt).dropLast ++ ((HU.chain S.reverse).reverse.map dt).dropLast = (HU.rim S).map dt := by
  unfold HU.rim HU.low HU.upp
  rw [List.map_append, List.map_dropLast, List.map_dropLast]
theorem e_rim {k : Nat} (hk : k < 100000) {T : List P} {st : PL.S} (hT : ∀ q ∈ T, Sm k q) (hl : T.length < 64) :
    ∃ S : List P, HU.Asc S ∧ (∀ x, x ∈ S ↔ x ∈ T) ∧ S.length ≤ T.length ∧ f__law_rim [.list (T.map dt)] st = some (.list ((if S.length < 3 then S else HU.rim S).map dt), st) := by
  obtain ⟨S, h1, h2, h4, h3⟩ := srtU_pts hl
  refine ⟨S, h1, h2, h4, ?_⟩
  have hS : ∀ q ∈ S, Sm k q := fun q hq => hT q ((h2 q).mp hq)
  refine fnM_rt rfl ?_
  have e0 : sAsg (.nm 1) (mL (mSrtU (mLo (mVar 0)))) (startE 2 [.list (T.map dt)]) st = some (.nx [cD (.list (T.map dt)), cD (.list (S.map dt))], st) := by
    simp [sAsg, startE, mL, mSrtU, mLo, mThen, mLift, mVar, bnd]
    rw [h3]
  unfold g__law_rim
  rw [sSeq_nx e0]
  by_cases hz : S.length < 3
  · rw [if_pos hz]
    have hi : ((S.length : Nat) : Int) < 3 := by omega
    simp [fnM, startE, sSeq, sAsg, bnd, bnds, mThen, mLift, mVar, m1, m2, mC, mF, aCons, aNil, mCall, mTup, isDs, isD, mIf, mB, bOf, mNot, mOr, mAnd, mAndV, mOrV, qC, sNx, sRet, sEx, dIx, atI, ixN, dCmp, dAdd, dSub, dNeg, dNot, dIs, isT, bInt, bAbs, bLen, mL, mLst, mIt, itOf, sizeLine_eq, hi]
  · rw [if_neg hz]
    have hi : ¬ ((S.length : Int) < 3) := by omega
    have c1 := e_chain hk (S := .list (S.map dt)) (T := S) (st := st) (itL _) hS (by omega)
    have c2 := e_chain hk (S := .list ((S.map dt).reverse)) (T := S.reverse) (st := st) (by rw [itL, List.map_reverse]) (fun q hq => hS q (List.mem_reverse.mp hq)) (by rw [List.length_reverse]; omega)
    have e1 : mIf (mB (m2 (dCmp fun i j => decide (i < j)) (mCall bLen (aCons (mVar 1) aNil)) (mC (.int 3)))) (sRet (mVar 1)) (sNx) [cD (.list (T.map dt)), cD (.list (S.map dt))] st = some (.nx [cD (.list (T.map dt)), cD (.list (S.map dt))], st) := by
      simp [fnM, startE, sSeq, sAsg, bnd, bnds, mThen, mLift, mVar, m1, m2, mC, mF, aCons, aNil, mCall, mTup, isDs, isD, mIf, mB, bOf, mNot, mOr, mAnd, mAndV, mOrV, qC, sNx, sRet, sEx, dIx, atI, ixN, dCmp, dAdd, dSub, dNeg, dNot, dIs, isT, bInt, bAbs, bLen, mL, mLst, mIt, itOf, sizeLine_eq, hi]
    rw [sSeq_nx e1]
    have a1 := chain_le S
    have a2 := chain_le S.reverse
    rw [List.length_reverse] at a2
    have hadd : dAdd (.list ((HU.chain S).reverse.map dt).dropLast) (.list ((HU.chain S.reverse).reverse.map dt).dropLast) = some (.list ((HU.rim S).map dt)) := by
      show (if _ then _ else _) = _
      rw [if_pos (le_size (by simp only [List.length_dropLast, List.length_map, List.length_reverse]; omega)), two_chains]
    generalize (HU.chain S).reverse.map dt = A at *
    generalize (HU.chain S.reverse).reverse.map dt = B at *
    simp [sRet, m2, mThen, mLift, mVar, mSl, mF, aCons, aNil, oNo, oSome, m1, dNeg, mC, c1, c2, dSl, mL, mRev, mLo, cut_last, hadd]
def Bx (c : Nat) (p : P) : Prop := p.1.natAbs ≤ c ∧ p.2.natAbs ≤ c
theorem Bx.mono {c d : Nat} {p : P} (h : Bx c p) (l : c ≤ d) : Bx d p := ⟨by have := h.1; omega, by have := h.2; omega⟩
theorem Bx.sm {c k : Nat} {p : P} (h : Bx c p) (l : c < 2 ^ k) : Sm k p := ⟨⟨by have := h.1; omega⟩, ⟨by have := h.2; omega⟩⟩
def BE (T : List P) (br tu wi hi x y rm : Option Cell) : PL.Env := [some (.fz SACK), some (.ow (T.map dt)), br, tu, wi, hi, x, y, rm]
theorem boat_step {n : Nat} {s : S} {T : List P} {br tu wi hi x y rm : Option Cell} (h : Sk n s) (hn : n + 2 ≤ 1000000) (hl : T.length < 30) :
    ∃ p s', lb__law_boat_0 (BE T br tu wi hi x y rm) s = some (.nx (BE (T ++ [p]) br tu wi hi x y rm), s') ∧ Bx 4 p ∧ Sk (n + 2) s' := by
  obtain ⟨i, s1, e1, i0, i1, k1⟩ := e_draw (z := 9) h (by omega) (by decide) (by decide)
  obtain ⟨j, s2, e2, j0, j1, k2⟩ := e_draw (z := 9) k1 (by omega) (by decide) (by decide)
  have hz : (T.map dt).length < sizeLine := by rw [List.length_map, sizeLine_eq]; omega
  rw [List.length_map] at hz
  refine ⟨(i - 4, j - 4), s2, ?_, ⟨by show (i - 4).natAbs ≤ 4; omega, by show (j - 4).natAbs ≤ 4; omega⟩, k2⟩
  simp [lb__law_boat_0, BE, sApp, mTup, aCons, aNil, m2, mThen, mLift, mF, mVar, mC, e1, e2, dSub, isDs, isD, owAt]
  rw [if_pos (le_size (by decide))]
  simp [hz]
theorem boat_loop {br wi hi x y rm : Option Cell} : ∀ (xs : List D) (n : Nat) (s : S) (T : List P) (tu : Option Cell), Sk n s → n + 2 * xs.length ≤ 1000000 → T.length + xs.length ≤ 30 →
    ∃ T' tu' s', forL (.nm 3) lb__law_boat_0 xs (BE T br tu wi hi x y rm) s = some (.nx (BE (T ++ T') br tu' wi hi x y rm), s') ∧ (∀ p ∈ T', Bx 4 p) ∧ T'.length = xs.length ∧ Sk (n + 2 * xs.length) s'
  | [], n, s, T, tu, h, _, _ => ⟨[], tu, s, by rw [List.append_nil]; rfl, by simp, rfl, h⟩
  | d :: xs, n, s, T, tu, h, hn, hl => by
    rw [List.length_cons] at hn hl
    obtain ⟨p, s1, e1, b1, k1⟩ := boat_step (br := br) (tu := cD d) (wi := wi) (hi := hi) (x := x) (y := y) (rm := rm) h (by omega) (by omega : T.length < 30)
    obtain ⟨T', tu', s2, e2, b2, l2, k2⟩ := boat_loop xs (n + 2) s1 (T ++ [p]) (cD d) k1 (by omega) (by rw [List.length_append, List.length_singleton]; omega)
    refine ⟨p :: T', tu', s2, ?_, ?_, by simp [l2], ?_⟩
    · have e0 : bnd (.nm 3) d (BE T br tu wi hi x y rm) s = some (BE T br (cD d) wi hi x y rm, s) := by simp [bnd, BE]
      rw [forL_nx e0 e1, e2, List.append_assoc]
      rfl
    · intro q hq
      rcases List.mem_cons.mp hq with z | z
      · rw [z]; exact b1
      · exact b2 q z
    · rw [List.length_cons]
      have : n + 2 * (xs.length + 1) = n + 2 + 2 * xs.length := by omega
      rw [this]
      exact k2
def boatMid : M Out := mIf (mB (m2 (dCmp fun i j => decide (i < j)) (mVar 2) (mC (.int 2)))) (sOwn 1 (mCat (mItO 1) (mLst (aCons (mTup (aCons (m2 dAdd (mC (.int 1)) (mVar 2)) (aCons (mC (.int 0)) aNil))) (aCons (mTup (aCons (m2 dSub (mC (.int 0)) (mVar 2)) (aCons (mC (.int 1)) aNil))) (aCons (mTup (aCons (m1 dNeg (mC (.int 1))) (aCons (m1 dNeg (mC (.int 1))) aNil))) aNil)))))) (mIf (mB (m2 (dEq) (mVar 2) (mC (.int 2)))) (sSeq (sAsg (.tp [.nm 4, .nm 5]) (mTup (aCons (mF f__law_one (aCons (mVar 0) (aCons (mTup (aCons (mC (.int 1)) (aCons (m1 dNeg (mC (.int 1))) aNil))) aNil))) (aCons (mF f__law_one (aCons (mVar 0) (aCons (mTup (aCons (mC (.int 1)) (aCons (m1 dNeg (mC (.int 1))) aNil))) aNil))) aNil)))) (sOwn 1 (mCat (mLc (mItO 1) [6, 7] (.tp [.nm 6, .nm 7]) (qC true) le__law_boat_1) (mLst (aCons (mTup (aCons (mVar 4) (aCons (mC (.int 0)) aNil))) (aCons (mTup (aCons (mVar 4) (aCons (m2 dMul (mC (.int 2)) (mVar 5)) aNil))) aNil)))))) (sNx))
theorem one_sign {n : Nat} {s : S} (h : Sk n s) (hn : n ≤ 1000000) : ∃ (w : Int) (s' : S), f__law_one [SACK, .tuple [.int 1, .int (-1)]] s = some (.int w, s') ∧ (w = 1 ∨ w = -1) ∧ Sk (n + 1) s' := by
  obtain ⟨d, hd, s', e, k⟩ := e_one h hn (itT [.int 1, .int (-1)]) (by simp) (by simp)
  rcases List.mem_cons.mp hd with z | z
  · subst z; exact ⟨1, s', e, .inl rfl, k⟩
  · rw [List.mem_singleton] at z
    subst z; exact ⟨-1, s', e, .inr rfl, k⟩
theorem boat_mid {n : Nat} {s : S} {T : List P} {b : Int} {tu : Option Cell} (h : Sk n s) (hn : n + 2 ≤ 1000000) (hl : T.length ≤ 20) (b0 : 0 ≤ b) (b5 : b < 5) (hT : ∀ p ∈ T, Bx 4 p) (h0 : (0, 0) ∈ T) :
    ∃ T' wi hi s', boatMid (BE T (cI b) tu none none none none none) s = some (.nx (BE T' (cI b) tu wi hi none none none), s') ∧ (∀ p ∈ T', Bx 4 p) ∧ (0, 0) ∈ T' ∧ T'.length ≤ T.length + 3 ∧ Sk (n + 2) s' := by
  have z2 : (2 : Nat) ≤ sizeLine := le_size (by decide)
  have z3 : (3 : Nat) ≤ sizeLine := le_size (by decide)
  by_cases c1 : b < 2
  · refine ⟨T ++ [(1 + b, 0), (0 - b, 1), (-1, -1)], none, none, s, ?_, ?_, List.mem_append_left _ h0, by simp, h.mono (by omega)⟩
    · have hz : T.length + 3 ≤ sizeLine := le_size (by omega)
      simp [boatMid, BE, mIf, mB, m2, mThen, mLift, mVar, mC, dCmp, bOf, c1, sOwn, mCat, mItO, owAt, mLst, aCons, aNil, mTup, dAdd, dSub, m1, dNeg, isDs, isD, z2, z3, hz]
    · intro p hp
      rcases List.mem_append.mp hp with q | q
      · exact hT p q
      · simp only [List.mem_cons, List.not_mem_nil, or_false] at q
        rcases q with q | q | q <;> subst q
        · exact ⟨by show (1 + b).natAbs ≤ 4; omega, by show (0 : Int).natAbs ≤ 4; decide⟩
        · exact ⟨by show (0 - b).natAbs ≤ 4; omega, by show (1 : Int).natAbs ≤ 4; decide⟩
        · exact ⟨by decide, by decide⟩
  · by_cases c2 : b = 2
    · subst c2
      obtain ⟨w, s1, e1, w1, k1⟩ := one_sign h (by omega)
      obtain ⟨v, s2, e2, v1, k2⟩ := one_sign k1 (by omega)
      have ww : w.natAbs = 1 := by omega
      have vv : v.natAbs = 1 := by omega
      have bw : Bi w 1 := ⟨by omega⟩
      have bv : Bi v 1 := ⟨by omega⟩
      have m2v : dMul (.int 2) (.int v) = _ := mulB (by decide)
      have hz : T.length + 2 ≤ sizeLine := le_size (by omega)
      refine ⟨T.map (fun p => (w * (p.1.natAbs : Int), v * (p.2.natAbs : Int))) ++ [(w, 0), (w, 2 * v)], cI w, cI v, s2, ?_, ?_, ?_, by simp, k2⟩
      · have q1 : sAsg (.tp [.nm 4, .nm 5]) (mTup (aCons (mF f__law_one (aCons (mVar 0) (aCons (mTup (aCons (mC (.int 1)) (aCons (m1 dNeg (mC (.int 1))) aNil))) aNil))) (aCons (mF f__law_one (aCons (mVar 0) (aCons (mTup (aCons (mC (.int 1)) (aCons (m1 dNeg (mC (.int 1))) aNil))) aNil))) aNil))) (BE T (cI 2) tu none none none none none) s = some (.nx (BE T (cI 2) tu (cI w) (cI v) none none none), s2) := by
          simp [BE, sAsg, mTup, aCons, aNil, mF, mThen, mLift, mVar, mC, m1, dNeg, isDs, isD, z2, e1, e2, bnd, bnds]
        have q2 : mLc (mItO 1) [6, 7] (.tp [.nm 6, .nm 7]) (qC true) le__law_boat_1 (BE T (cI 2) tu (cI w) (cI v) none none none) s2 = some ((T.map (fun p => dt (w * (p.1.natAbs : Int), v * (p.2.natAbs : Int)))), s2) := by
          refine mLc_map (enc := dt) (by simp [BE, mItO, owAt]) (by omega) fun p hp => ⟨[some (.fz SACK), some (.ow (T.map dt)), cI 2, tu, cI w, cI v, cI p.1, cI p.2, none], by simp [BE, wipeE, bnd, bnds], ?_, rfl⟩
          have bp := hT p hp
          have x1 : Bi (p.1.natAbs : Int) 3 := ⟨by have := bp.1; omega⟩
          have x2 : Bi (p.2.natAbs : Int) 3 := ⟨by have := bp.2; omega⟩
          have y1 : dMul (.int w) (.int (p.1.natAbs : Int)) = _ := mulB (by decide)
          have y2 : dMul (.int v) (.int (p.2.natAbs : Int)) = _ := mulB (by decide)
          simp [le__law_boat_1, mTup, aCons, aNil, m2, mThen, mLift, mVar, mCall, bAbs, abs_is, y1, y2, isDs, isD, z2]
        unfold boatMid
        generalize mLc (mItO 1) [6, 7] (.tp [.nm 6, .nm 7]) (qC true) le__law_boat_1 = L at q2 ⊢
        generalize sAsg (.tp [.nm 4, .nm 5]) _ = A at q1 ⊢
        have q0 : mIf (mB (m2 (dCmp fun i j => decide (i < j)) (mVar 2) (mC (.int 2)))) (sOwn 1 (mCat (mItO 1) (mLst (aCons (mTup (aCons (m2 dAdd (mC (.int 1)) (mVar 2)) (aCons (mC (.int 0)) aNil))) (aCons (mTup (aCons (m2 dSub (mC (.int 0)) (mVar 2)) (aCons (mC (.int 1)) aNil))) (aCons (mTup (aCons (m1 dNeg (mC (.int 1))) (aCons (m1 dNeg (mC (.int 1))) aNil))) aNil)))))) (mIf (mB (m2 (dEq) (mVar 2) (mC (.int 2)))) (sSeq A (sOwn 1 (mCat L (mLst (aCons (mTup (aCons (mVar 4) (aCons (mC (.int 0)) aNil))) (aCons (mTup (aCons (mVar 4) (aCons (m2 dMul (mC (.int 2)) (mVar 5)) aNil))) aNil)))))) (sNx)) (BE T (cI 2) tu none none none none none) s = sSeq A (sOwn 1 (mCat L (mLst (aCons (mTup (aCons (mVar 4) (aCons (mC (.int 0)) aNil))) (aCons (mTup (aCons (mVar 4) (aCons (m2 dMul (mC (.int 2)) (mVar 5)) aNil))) aNil))))) (BE T (cI 2) tu none none none none none) s := by
          simp [BE, mIf, mB, m2, mThen, mLift, mVar, mC, dCmp, bOf, eqI]
        rw [q0, sSeq_nx q1]
        simp only [sOwn, mCat, mThen, q2]
        simp [BE, mThen, mLift, mLst, aCons, aNil, mTup, mVar, mC, m2, m2v, isDs, isD, z2, hz]
      · intro p hp
        rcases List.mem_append.mp hp with q | q
        · obtain ⟨r, hr, e⟩ := List.mem_map.mp q
          subst e
          have b := hT r hr
          refine ⟨?_, ?_⟩
          · show (w * (r.1.natAbs : Int)).natAbs ≤ 4
            rw [Int.natAbs_mul, ww]
            have := b.1
            omega
          · show (v * (r.2.natAbs : Int)).natAbs ≤ 4
            rw [Int.natAbs_mul, vv]
            have := b.2
            omega
        · simp only [List.mem_cons, List.not_mem_nil, or_false] at q
          rcases q with q | q <;> subst q
          · exact ⟨by show w.natAbs ≤ 4; omega, by show (0 : Int).natAbs ≤ 4; decide⟩
          · exact ⟨by show w.natAbs ≤ 4; omega, by show (2 * v).natAbs ≤ 4; omega⟩
      · refine List.mem_append_left _ (List.mem_map.mpr ⟨(0, 0), h0, ?_⟩)
        simp
    · refine ⟨T, none, none, s, ?_, hT, h0, by omega, h.mono (by omega)⟩
      simp [boatMid, BE, mIf, mB, m2, mThen, mLift, mVar, mC, dCmp, bOf, c1, c2, eqI, sNx]
end WF
/-! a whole boat -/
namespace WF
open PySem PySem.Spec PyProof.Rows L2 PL PLS
/-- a rim, of dots of at most eight, nought among them -/
structure Rim (S R : List P) : Prop where
  asc : HU.Asc S
  eq : R = HU.rim S
  three : 3 ≤ R.length
  o : (0, 0) ∈ S
  bx : ∀ p ∈ S, Bx 4 p
  len : S.length ≤ 20
theorem Rim.two {S R : List P} (h : Rim S R) : 2 ≤ S.length := by
  have h1 := rim_le S
  have h2 := h.three
  rw [h.eq] at h2
  omega
theorem Rim.rd {S R : List P} (h : Rim S R) : HU.Rd S R := by
  rw [h.eq]
  exact HU.rim_rd h.asc h.two
theorem Rim.bR {S R : List P} (h : Rim S R) : ∀ p ∈ R, Bx 4 p := fun p hp => h.bx p (h.rd.sub p hp)
theorem Rim.lenR {S R : List P} (h : Rim S R) : R.length ≤ 40 := by
  have h1 := rim_le S
  have h2 := h.len
  rw [h.eq]
  omega
theorem boat_end {n : Nat} {s : S} {T : List P} {br tu wi hi : Option Cell} (h : Sk n s) (hn : n + 2 ≤ 1000000) (hl : T.length ≤ 10) (hT : ∀ p ∈ T, Bx 4 p) (h0 : (0, 0) ∈ T) :
    ∃ S R m s', sFrz 1 (sSeq (sAsg (.nm 8) (mF f__law_rim (aCons (mVar 1) aNil))) (sSeq (mIf (mB (m2 (dCmp fun i j => decide (i < j)) (mCall bLen (aCons (mVar 8) aNil)) (mC (.int 3)))) (sAsg (.nm 8) (mF f__law_rim (aCons (m2 dAdd (mVar 1) (mL (mLst (aCons (mTup (aCons (mC (.int 1)) (aCons (mC (.int 2)) aNil))) (aCons (mTup (aCons (mC (.int 2)) (aCons (m1 dNeg (mC (.int 1))) aNil))) aNil))))) aNil))) (sNx)) (sRet (mL (mLst (aCons (mVar 8) (aCons (m2 dAdd (mC (.int 1)) (mF f__law_draw (aCons (mVar 0) (aCons (mC (.int 3)) aNil)))) aNil))))))) (BE T br tu wi hi none none none) s = some (.rt (.list [.list (R.map dt), .int m]), s') ∧ Rim S R ∧ 1 ≤ m ∧ m ≤ 3 ∧ Sk (n + 1) s' := by
  have z2 : (2 : Nat) ≤ sizeLine := le_size (by decide)
  have sm : ∀ (T : List P), (∀ p ∈ T, Bx 4 p) → ∀ q ∈ T, Sm 3 q := fun T hT q hq => (hT q hq).sm (by decide)
  obtain ⟨S, h1, h2, h4, h3⟩ := e_rim (k := 3) (by decide) (st := s) (sm T hT) (by omega)
  obtain ⟨d, s1, e1, d0, d1, k1⟩ := e_draw (z := 3) h (by omega) (by decide) (by decide)
  have fin : ∀ S R : List P, Rim S R → (sSeq (sAsg (.nm 8) (mF f__law_rim (aCons (mVar 1) aNil))) (mIf (mB (m2 (dCmp fun i j => decide (i < j)) (mCall bLen (aCons (mVar 8) aNil)) (mC (.int 3)))) (sAsg (.nm 8) (mF f__law_rim (aCons (m2 dAdd (mVar 1) (mL (mLst (aCons (mTup (aCons (mC (.int 1)) (aCons (mC (.int 2)) aNil))) (aCons (mTup (aCons (mC (.int 2)) (aCons (m1 dNeg (mC (.int 1))) aNil))) aNil))))) aNil))) (sNx))) [some (.fz SACK), cD (.list (T.map dt)), br, tu, wi, hi, none, none, none] s = some (.nx [some (.fz SACK), cD (.list (T.map dt)), br, tu, wi, hi, none, none, cD (.list (R.map dt))], s) →
      ∃ S R m s', sFrz 1 (sSeq (sAsg (.nm 8) (mF f__law_rim (aCons (mVar 1) aNil))) (sSeq (mIf (mB (m2 (dCmp fun i j => decide (i < j)) (mCall bLen (aCons (mVar 8) aNil)) (mC (.int 3)))) (sAsg (.nm 8) (mF f__law_rim (aCons (m2 dAdd (mVar 1) (mL (mLst (aCons (mTup (aCons (mC (.int 1)) (aCons (mC (.int 2)) aNil))) (aCons (mTup (aCons (mC (.int 2)) (aCons (m1 dNeg (mC (.int 1))) aNil))) aNil))))) aNil))) (sNx)) (sRet (mL (mLst (aCons (mVar 8) (aCons (m2 dAdd (mC (.int 1)) (mF f__law_draw (aCons (mVar 0) (aCons (mC (.int 3)) aNil)))) aNil))))))) (BE T br tu wi hi none none none) s = some (.rt (.list [.list (R.map dt), .int m]), s') ∧ Rim S R ∧ 1 ≤ m ∧ m ≤ 3 ∧ Sk (n + 1) s' := by
    intro S R hR e
    refine ⟨S, R, 1 + d, s1, ?_, hR, by omega, by omega, k1⟩
    have ef : frz 1 (BE T br tu wi hi none none none) = [some (.fz SACK), cD (.list (T.map dt)), br, tu, wi, hi, none, none, none] := by simp [frz, BE]
    unfold sFrz
    rw [ef]
    generalize sAsg (.nm 8) (mF f__law_rim (aCons (mVar 1) aNil)) = A at e ⊢
    generalize mIf (mB (m2 (dCmp fun i j => decide (i < j)) (mCall bLen (aCons (mVar 8) aNil)) (mC (.int 3)))) _ _ = B at e ⊢
    cases q : A [some (.fz SACK), cD (.list (T.map dt)), br, tu, wi, hi, none, none, none] s with
    | none => unfold sSeq at e; rw [q] at e; cases e
    | some r =>
      obtain ⟨o, s2⟩ := r
      cases o with
      | nx ρ =>
        rw [sSeq_nx q] at e ⊢
        rw [sSeq_nx e]
        simp [sRet, mL, mLst, aCons, aNil, mThen, mLift, mVar, m2, mC, mF, e1, dAdd, isDs, isD, z2]
      | _ => unfold sSeq at e; rw [q] at e; cases e
  have q1 : sAsg (.nm 8) (mF f__law_rim (aCons (mVar 1) aNil)) [some (.fz SACK), cD (.list (T.map dt)), br, tu, wi, hi, none, none, none] s = some (.nx [some (.fz SACK), cD (.list (T.map dt)), br, tu, wi, hi, none, none, cD (.list ((if S.length < 3 then S else HU.rim S).map dt))], s) := by
    generalize (if S.length < 3 then S else HU.rim S) = R at *
    simp [sAsg, mF, aCons, aNil, mThen, mLift, mVar, h3, bnd]
  by_cases c : (if S.length < 3 then S else HU.rim S).length < 3
  · have hT2 : ∀ p ∈ T ++ [(1, 2), (2, -1)], Bx 4 p := by
      intro p hp
      rcases List.mem_append.mp hp with q | q
      · exact hT p q
      · simp only [List.mem_cons, List.not_mem_nil, or_false] at q
        rcases q with q | q <;> subst q <;> exact ⟨by decide, by decide⟩
    obtain ⟨S2, g1, g2, g4, g3⟩ := e_rim (k := 3) (by decide) (st := s) (sm _ hT2) (by simp; omega)
    have two : 2 ≤ S2.length := by
      have a := (g2 (0, 0)).mpr (List.mem_append_left _ h0)
      have b := (g2 (1, 2)).mpr (List.mem_append_right _ (by simp))
      cases S2 with
      | nil => cases a
      | cons x t =>
        cases t with
        | nil =>
          rw [List.mem_singleton] at a b
          rw [← a] at b
          cases b
        | cons y t => simp
    have wd : HU.Wide S2 := ⟨(0, 0), (2, -1), (1, 2), (g2 _).mpr (List.mem_append_left _ h0), (g2 _).mpr (List.mem_append_right _ (by simp)), (g2 _).mpr (List.mem_append_right _ (by simp)), by decide⟩
    have w3 := HU.wide_rim g1 two wd
    have n3 : ¬ S2.length < 3 := fun z => by
      have hs : ∀ x ∈ ([(0, 0), (2, -1), (1, 2)] : List P), x ∈ S2 := by
        intro x hx
        simp only [List.mem_cons, List.not_mem_nil, or_false] at hx
        rcases hx with e | e | e <;> subst e
        · exact (g2 _).mpr (List.mem_append_left _ h0)
        · exact (g2 _).mpr (List.mem_append_right _ (by simp))
        · exact (g2 _).mpr (List.mem_append_right _ (by simp))
      match S2, z, hs with
      | [], _, hs => exact absurd (hs (0, 0) (by simp)) (by simp)
      | [a], _, hs =>
        have x := List.mem_singleton.mp (hs (0, 0) (by simp))
        have y := List.mem_singleton.mp (hs (1, 2) (by simp))
        rw [← x] at y
        cases y
      | [a, b], _, hs =>
        have x := hs (0, 0) (by simp)
        have y := hs (1, 2) (by simp)
        have w := hs (2, -1) (by simp)
        simp only [List.mem_cons, List.not_mem_nil, or_false] at x y w
        rcases x with x | x <;> rcases y with y | y <;> rcases w with w | w <;> (first | (rw [← x] at y; cases y; done) | (rw [← x] at w; cases w; done) | (rw [← y] at w; cases w; done))
    rw [if_neg n3] at g3
    refine fin S2 (HU.rim S2) ⟨g1, rfl, w3, (g2 _).mpr (List.mem_append_left _ h0), fun p hp => hT2 p ((g2 p).mp hp), by simp at g4; omega⟩ ?_
    rw [sSeq_nx q1]
    generalize (if S.length < 3 then S else HU.rim S) = R at *
    have hz : T.length + 2 ≤ sizeLine := le_size (by omega)
    have ea : T.map dt ++ [.tuple [.int 1, .int 2], .tuple [.int 2, .int (-1)]] = (T ++ [(1, 2), (2, -1)]).map dt := by simp
    have c' : (R.length : Int) < 3 := by omega
    simp [mIf, mB, m2, mThen, mLift, mVar, mC, dCmp, bOf, mCall, bLen, aCons, aNil, c', sAsg, mF, mL, mLst, mTup, m1, dNeg, isDs, isD, z2, dAdd, hz, bnd]
    rw [ea, g3]
  · rw [if_neg (fun z => c (by rw [if_pos z]; exact z))] at q1 c
    have n3 := c
    refine fin S (HU.rim S) ⟨h1, rfl, by omega, (h2 _).mpr h0, fun p hp => hT p ((h2 p).mp hp), by omega⟩ ?_
    rw [sSeq_nx q1]
    generalize HU.rim S = R at *
    have c' : ¬ (R.length : Int) < 3 := by omega
    simp [mIf, mB, m2, mThen, mLift, mVar, mC, dCmp, bOf, mCall, bLen, aCons, aNil, c', sNx]
theorem e_boat {n : Nat} {s : S} (h : Sk n s) (hn : n + 20 ≤ 1000000) : ∃ S R m s', f__law_boat [SACK] s = some (.list [.list (R.map dt), .int m], s') ∧ Rim S R ∧ 1 ≤ m ∧ m ≤ 3 ∧ Sk (n + 20) s' := by
  obtain ⟨b, s1, e1, b0, b1, k1⟩ := e_draw (z := 5) h (by omega) (by decide) (by decide)
  obtain ⟨d, s2, e2, d0, d1, k2⟩ := e_draw (z := 3) k1 (by omega) (by decide) (by decide)
  have hx : (rgD 0 (1 + d).toNat).length ≤ 3 := by unfold rgD; simp; omega
  obtain ⟨T', tu, s3, e3, t3, l3, k3⟩ := boat_loop (br := cI b) (wi := none) (hi := none) (x := none) (y := none) (rm := none) (rgD 0 (1 + d).toNat) (n + 1 + 1) s2 [(0, 0)] none k2 (by omega) (by simp; omega)
  have hT : ∀ p ∈ [(0, 0)] ++ T', Bx 4 p := by
    intro p hp
    rcases List.mem_append.mp hp with q | q
    · rw [List.mem_singleton.mp q]; exact ⟨by decide, by decide⟩
    · exact t3 p q
  obtain ⟨T2, wi, hi, s4, e4, t4, o4, l4, k4⟩ := boat_mid (tu := tu) k3 (by omega) (by simp; omega) b0 b1 hT (by simp)
  obtain ⟨S, R, m, s5, e5, r5, m0, m1, k5⟩ := boat_end (br := cI b) (tu := tu) (wi := wi) (hi := hi) k4 (by omega) (by simp at l4; omega) t4 o4
  refine ⟨S, R, m, s5, ?_, r5, m0, m1, k5.mono (by omega)⟩
  refine fnM_rt rfl ?_
  have q1 : sParOF 1 2 (mLst (aCons (mTup (aCons (mC (.int 0)) (aCons (mC (.int 0)) aNil))) aNil)) (mF f__law_draw (aCons (mVar 0) (aCons (mC (.int 5)) aNil))) (startE 9 [SACK]) s = some (.nx (BE [(0, 0)] (cI b) none none none none none none), s1) := by
    simp [sParOF, startE, mLst, mTup, aCons, aNil, mC, mThen, mLift, isDs, isD, le_size, mF, mVar, e1, BE]
  have ok : okRg (1 + d) = true := by
    unfold okRg
    rw [Bool.and_eq_true]
    exact ⟨decide_eq_true (by omega), decide_eq_true (by omega)⟩
  have q2 : sFor (mA rg1 (aCons (m2 dAdd (mC (.int 1)) (mF f__law_draw (aCons (mVar 0) (aCons (mC (.int 3)) aNil)))) aNil)) (.nm 3) lb__law_boat_0 (BE [(0, 0)] (cI b) none none none none none none) s1 = _ := (sFor_at (by
    simp [mA, aCons, aNil, m2, mThen, mLift, mC, mF, mVar, BE, e2, dAdd, rg1, ok])).trans e3
  unfold g__law_boat
  rw [sSeq_nx q1, sSeq_nx q2]
  show sSeq boatMid _ _ _ = _
  rw [sSeq_nx e4]
  exact e5
end WF
/-! hulls of rows over a number: the program's shape_hull, is_polygon -/
namespace WF
open PySem PySem.Spec PyProof.Rows L2 PL PLS
theorem gcd3_mul {c a b w : Int} (hc : 0 < c) : gcdI3 (c * a) (c * b) (c * w) = c * gcdI3 a b w := by
  unfold gcdI3
  rw [Int.natAbs_mul, Int.natAbs_mul, Int.natAbs_mul, Nat.gcd_mul_left, Nat.gcd_mul_left]
  push_cast
  rw [Int.natAbs_of_nonneg (Int.le_of_lt hc)]
theorem nm3_mul {c a b w : Int} (hc : 0 < c) : nm3 (c * a) (c * b) (c * w) = nm3 a b w := by
  unfold nm3
  rw [gcd3_mul hc, Int.mul_ediv_mul_of_pos _ _ hc, Int.mul_ediv_mul_of_pos _ _ hc, Int.mul_ediv_mul_of_pos _ _ hc]
/-- a triple in least terms -/
theorem red3 {a b w : Int} (hw : 0 < gcdI3 a b w) : gcdI3 (a / gcdI3 a b w) (b / gcdI3 a b w) (w / gcdI3 a b w) = 1 := by
  have h : gcdI3 (gcdI3 a b w * (a / gcdI3 a b w)) (gcdI3 a b w * (b / gcdI3 a b w)) (gcdI3 a b w * (w / gcdI3 a b w)) = gcdI3 a b w := by
    rw [Int.mul_ediv_cancel' gcd3_d1, Int.mul_ediv_cancel' gcd3_d2, Int.mul_ediv_cancel' gcd3_d3]
  rw [gcd3_mul hw] at h
  have : gcdI3 a b w * gcdI3 (a / gcdI3 a b w) (b / gcdI3 a b w) (w / gcdI3 a b w) = gcdI3 a b w * 1 := by rw [h, Int.mul_one]
  exact Int.eq_of_mul_eq_mul_left (by omega) this
theorem nm3_of_red {a b w : Int} (h : gcdI3 a b w = 1) : nm3 a b w = pD a b w := by
  unfold nm3
  rw [h]
  simp
theorem e_is_point_nm {x y w : Int} {s : S} (hw : 0 < w) : f_is_point [nm3 x y w] s = some (.bool true, s) := by
  have h := gcd3_pos (a := x) (b := y) hw
  exact e_is_point (Int.ediv_pos_of_pos_of_dvd hw (by omega) gcd3_d3) (red3 h)
theorem plain_map {α : Type} {f : α → D} (h : ∀ a, (f a).plain = true) : ∀ L : List α, PyData.plainAll (L.map f) = true
  | [] => rfl
  | a :: L => by
    rw [List.map_cons, PyData.plainAll, h a, plain_map h L]
    rfl
theorem depth_map {α : Type} {f : α → D} {n : Nat} (h : ∀ a, (f a).depth ≤ n) : ∀ L : List α, PyData.depthAll (L.map f) ≤ n
  | [] => by simp [PyData.depthAll]
  | a :: L => by
    have := depth_map h L
    have := h a
    simp only [List.map_cons, PyData.depthAll]
    omega
theorem pD_plain (a b c : Int) : (pD a b c).plain = true := rfl
theorem pD_depth (a b c : Int) : (pD a b c).depth ≤ 5 := by simp [PyData.depth, PyData.depthAll]
theorem okEq_row {α : Type} {f : α → D} {L : List α} (h : ∀ a, (f a).plain = true) (g : ∀ a, (f a).depth ≤ 5) : okEq (.tuple (L.map f)) = true := by
  unfold okEq
  rw [Bool.and_eq_true]
  refine ⟨?_, decide_eq_true ?_⟩
  · show PyData.plainAll (L.map f) = true
    exact plain_map h L
  · have := depth_map g L
    simp only [PyData.depth]
    omega
theorem okEq_said (R : List P) (m : Int) : okEq (said R m) = true := okEq_row (fun _ => rfl) fun _ => pD_depth _ _ _
theorem eq_self {d : D} (h : okEq d = true) : dEq d d = some (.bool true) := by
  unfold dEq
  rw [if_pos ⟨h, h⟩, PySem.SeqAt.eqv_refl_plain d (okEq_plain h)]
theorem eq_nil {d : D} {ds : List D} (h : okEq (.tuple (d :: ds)) = true) : dEq (.tuple (d :: ds)) (.tuple []) = some (.bool false) := by
  unfold dEq
  rw [if_pos ⟨h, rfl⟩]
  rfl
/-! the common bottom -/
def wd (m : Int) (r : P) : Int := m / gcdI3 r.1 r.2 m
theorem wd_pos {m : Int} (hm : 0 < m) (r : P) : 0 < wd m r := Int.ediv_pos_of_pos_of_dvd hm (by have := gcd3_pos (a := r.1) (b := r.2) hm; omega) gcd3_d3
theorem wd_dvd {m : Int} (r : P) : wd m r ∣ m := ⟨gcdI3 r.1 r.2 m, by unfold wd; rw [Int.ediv_mul_cancel gcd3_d3]⟩
theorem lcm_dvd {a b m : Int} (h : a ∣ m) (k : b ∣ m) : lcmI a b ∣ m := by
  unfold lcmI
  exact Int.ofNat_dvd_left.mpr (Nat.lcm_dvd (Int.natAbs_dvd_natAbs.mpr h) (Int.natAbs_dvd_natAbs.mpr k))
theorem lcm_pos {a b : Int} (h : 0 < a) (k : 0 < b) : 0 < lcmI a b := by
  unfold lcmI
  have := Nat.lcm_pos (m := a.natAbs) (n := b.natAbs) (by omega) (by omega)
  omega
theorem lcm_l {a b : Int} : a ∣ lcmI a b := by
  unfold lcmI
  exact Int.natAbs_dvd.mp (Int.ofNat_dvd.mpr (Nat.dvd_lcm_left _ _))
theorem lcm_r {a b : Int} : b ∣ lcmI a b := by
  unfold lcmI
  exact Int.natAbs_dvd.mp (Int.ofNat_dvd.mpr (Nat.dvd_lcm_right _ _))
def HB (X : D) (L : Int) (pt sp x y w : Option Cell) : PL.Env := [cD X, cI L, pt, sp, x, y, w]
theorem bottom_step {X : D} {L m : Int} {r : P} {sp x y w : Option Cell} {s : S} {j : Nat} (hL : L ∣ m) (L0 : 0 < L) (hm : 0 < m) [bm : Bi m j] (hj : j < 5000) :
    lb_shape_hull_0 (HB X L (cD (nm3 r.1 r.2 m)) sp x y w) s = some (.nx (HB X (lcmI L (wd m r)) (cD (nm3 r.1 r.2 m)) sp x y w), s) := by
  have l1 := Int.le_of_dvd hm hL
  have l2 := Int.le_of_dvd hm (wd_dvd (m := m) r)
  have w0 := wd_pos hm r
  have h1 : L.natAbs.log2 < 6000 := by
    have : Bi L j := ⟨by have := bm.h; omega⟩
    exact this.log (by omega)
  have h2 : (wd m r).natAbs.log2 < 6000 := by
    have : Bi (wd m r) j := ⟨by have := bm.h; omega⟩
    exact this.log (by omega)
  unfold wd at *
  simp [lb_shape_hull_0, HB, sAsg, mCall, aCons, aNil, mThen, mLift, mVar, m2, mC, nm3, dIx, atI, ixN, bLcm, h1, h2, bnd]
theorem bottom_loop {X : D} {m : Int} {sp x y w : Option Cell} {s : S} {j : Nat} (hm : 0 < m) [bm : Bi m j] (hj : j < 5000) : ∀ (R : List P) (L : Int) (pt : Option Cell), L ∣ m → 0 < L →
    ∃ L' pt', forL (.nm 2) lb_shape_hull_0 (R.map fun r => nm3 r.1 r.2 m) (HB X L pt sp x y w) s = some (.nx (HB X L' pt' sp x y w), s) ∧ L' ∣ m ∧ 0 < L' ∧ L ∣ L' ∧ ∀ r ∈ R, wd m r ∣ L'
  | [], L, pt, h1, h2 => ⟨L, pt, rfl, h1, h2, Int.dvd_refl _, by simp⟩
  | r :: R, L, pt, h1, h2 => by
    have e1 := bottom_step (X := X) (r := r) (sp := sp) (x := x) (y := y) (w := w) (s := s) h1 h2 hm hj
    obtain ⟨L', pt', e2, g1, g2, g3, g4⟩ := bottom_loop (X := X) (sp := sp) (x := x) (y := y) (w := w) (s := s) hm hj R (lcmI L (wd m r)) (cD (nm3 r.1 r.2 m)) (lcm_dvd h1 (wd_dvd r)) (lcm_pos h2 (wd_pos hm r))
    refine ⟨L', pt', ?_, g1, g2, Int.dvd_trans lcm_l g3, fun q hq => ?_⟩
    · rw [List.map_cons]
      have e0 : bnd (.nm 2) (nm3 r.1 r.2 m) (HB X L pt sp x y w) s = some (HB X L (cD (nm3 r.1 r.2 m)) sp x y w, s) := by simp [bnd, HB]
      rw [forL_nx e0 e1]
      exact e2
    · rcases List.mem_cons.mp hq with z | z
      · rw [z]; exact Int.dvd_trans lcm_r g3
      · exact g4 q z
/-- a point times the common bottom -/
def sp (m L : Int) (r : P) : P := ((r.1 / gcdI3 r.1 r.2 m) * (L / wd m r), (r.2 / gcdI3 r.1 r.2 m) * (L / wd m r))
theorem sp_sc {m L : Int} {r : P} (hm : 0 < m) (hL : L ∣ m) (L0 : 0 < L) (hw : wd m r ∣ L) : HU.sc (m / L) (sp m L r) = r := by
  obtain ⟨t, ht⟩ := hw
  obtain ⟨c, hc⟩ := hL
  have g0 := gcd3_pos (a := r.1) (b := r.2) hm
  have w0 := wd_pos hm r
  have gm : gcdI3 r.1 r.2 m * wd m r = m := by unfold wd; exact Int.mul_ediv_cancel' gcd3_d3
  have t1 : L / wd m r = t := by rw [ht]; exact Int.mul_ediv_cancel_left _ (by omega)
  have c1 : m / L = c := by rw [hc]; exact Int.mul_ediv_cancel_left _ (by omega)
  have ct : c * t = gcdI3 r.1 r.2 m := by
    have : wd m r * (c * t) = wd m r * gcdI3 r.1 r.2 m := by
      rw [Int.mul_comm (wd m r) (gcdI3 r.1 r.2 m), gm]
      conv => rhs; rw [hc, ht]
      grind
    exact Int.eq_of_mul_eq_mul_left (by omega) this
  have x1 : gcdI3 r.1 r.2 m * (r.1 / gcdI3 r.1 r.2 m) = r.1 := Int.mul_ediv_cancel' gcd3_d1
  have y1 : gcdI3 r.1 r.2 m * (r.2 / gcdI3 r.1 r.2 m) = r.2 := Int.mul_ediv_cancel' gcd3_d2
  unfold HU.sc sp
  rw [t1, c1]
  dsimp only
  refine Prod.ext ?_ ?_
  · show c * (r.1 / gcdI3 r.1 r.2 m * t) = r.1
    rw [← ct] at x1
    grind
  · show c * (r.2 / gcdI3 r.1 r.2 m * t) = r.2
    rw [← ct] at y1
    grind
theorem le_mul_abs {c x : Int} (hc : 0 < c) : x.natAbs ≤ (c * x).natAbs := by
  rw [Int.natAbs_mul]
  exact Nat.le_mul_of_pos_left _ (by omega)
/-- the hull of a row over m -/
theorem e_shape_hull {T : List P} {m : Int} {s : S} {j k : Nat} (hm : 0 < m) [bm : Bi m j] (hj : j < 5000) (hk : k < 90000) (hT : ∀ q ∈ T, Sm k q) (hl : T.length < 64) :
    ∃ S : List P, HU.Asc S ∧ (∀ x, x ∈ S ↔ x ∈ T) ∧ S.length ≤ T.length ∧ f_shape_hull [said T m] s = some (said (if S.length ≤ 1 then S else HU.rim S) m, s) := by
  obtain ⟨L, pt, e1, L1, L0, _, L2⟩ := bottom_loop (X := said T m) (sp := none) (x := none) (y := none) (w := none) (s := s) hm hj T 1 none (Int.one_dvd m) (by decide)
  have c0 : 0 < m / L := Int.ediv_pos_of_pos_of_dvd hm (by omega) L1
  have lL := Int.le_of_dvd hm L1
  have bL : Bi L j := ⟨by have := bm.h; omega⟩
  have hs : ∀ q ∈ T.map (WF.sp m L), Sm k q := by
    intro q hq
    obtain ⟨r, hr, e⟩ := List.mem_map.mp hq
    have e2 := sp_sc hm L1 L0 (L2 r hr)
    rw [e] at e2
    have b := hT r hr
    rw [← e2] at b
    unfold HU.sc at b
    exact ⟨⟨Nat.lt_of_le_of_lt (le_mul_abs c0) b.1.h⟩, ⟨Nat.lt_of_le_of_lt (le_mul_abs c0) b.2.h⟩⟩
  obtain ⟨S1, h1, h2, h4, h3⟩ := srtU_pts (T := T.map (WF.sp m L)) (by rw [List.length_map]; exact hl)
  have hS : ∀ q ∈ S1, Sm k q := fun q hq => hs q ((h2 q).mp hq)
  rw [List.length_map] at h4
  have asc2 : HU.Asc (S1.map (HU.sc (m / L))) := List.pairwise_map.mpr (h1.imp fun h => (HU.lt_sc c0).mpr h)
  have mem2 : ∀ x, x ∈ S1.map (HU.sc (m / L)) ↔ x ∈ T := by
    intro x
    rw [List.mem_map]
    constructor
    · rintro ⟨q, hq, e⟩
      obtain ⟨r, hr, e2⟩ := List.mem_map.mp ((h2 q).mp hq)
      rw [← e, ← e2, sp_sc hm L1 L0 (L2 r hr)]
      exact hr
    · intro hx
      exact ⟨WF.sp m L x, (h2 _).mpr (List.mem_map.mpr ⟨x, hx, rfl⟩), sp_sc hm L1 L0 (L2 x hx)⟩
  refine ⟨S1.map (HU.sc (m / L)), asc2, mem2, by rw [List.length_map]; exact h4, ?_⟩
  have eT : (if (S1.map (HU.sc (m / L))).length ≤ 1 then S1.map (HU.sc (m / L)) else HU.rim (S1.map (HU.sc (m / L)))) = (if S1.length ≤ 1 then S1 else HU.rim S1).map (HU.sc (m / L)) := by
    rw [List.length_map, HU.rim_sc c0]
    split <;> rfl
  rw [eT]
  have eM : L * (m / L) = m := Int.mul_ediv_cancel' L1
  have eN : said ((if S1.length ≤ 1 then S1 else HU.rim S1).map (HU.sc (m / L))) m = said (if S1.length ≤ 1 then S1 else HU.rim S1) L := by
    generalize (if S1.length ≤ 1 then S1 else HU.rim S1) = Q
    unfold said
    rw [List.map_map]
    congr 1
    refine List.map_congr_left fun q _ => ?_
    show nm3 (m / L * q.1) (m / L * q.2) m = nm3 q.1 q.2 L
    conv => lhs; arg 3; rw [← eM, Int.mul_comm]
    exact nm3_mul c0
  rw [eN]
  -- the run
  refine fnM_rt rfl ?_
  have q0 : sAsg (.nm 1) (mC (.int 1)) (startE 7 [said T m]) s = some (.nx (HB (said T m) 1 none none none none none), s) := by simp [sAsg, mC, startE, bnd, HB]
  have q1 : sFor (mIt (mVar 0)) (.nm 2) lb_shape_hull_0 (HB (said T m) 1 none none none none none) s = _ := (sFor_at (by simp [mIt, mThen, mLift, mVar, HB, itOf])).trans e1
  have q2 : mLc (mIt (mVar 0)) [4, 5, 6] (.tp [.nm 4, .nm 5, .nm 6]) (qC true) le_shape_hull_1 (HB (said T m) L pt none none none none) s = some (T.map fun r => dt (WF.sp m L r), s) := by
    refine mLc_map (enc := fun r => nm3 r.1 r.2 m) (by simp [mIt, mThen, mLift, mVar, HB, itOf]) (by omega) fun r hr => ⟨HB (said T m) L pt none (cI (r.1 / gcdI3 r.1 r.2 m)) (cI (r.2 / gcdI3 r.1 r.2 m)) (cI (wd m r)), by simp [nm3, bnd, bnds, wipeE, HB, wd], ?_, rfl⟩
    have b := hT r hr
    have w0 := wd_pos hm r
    have bw : Bi (wd m r) j := ⟨by have := Int.le_of_dvd hm (wd_dvd (m := m) r); have := bm.h; omega⟩
    have b1 : Bi (r.1 / gcdI3 r.1 r.2 m) k := ⟨Bi.div_le b.1.h⟩
    have b2 : Bi (r.2 / gcdI3 r.1 r.2 m) k := ⟨Bi.div_le b.2.h⟩
    have b3 : Bi (L / wd m r) j := ⟨Bi.div_le bL.h⟩
    have d1 : dDiv (.int L) (.int (wd m r)) = _ := divB w0 (by omega)
    have d2 : dMul (.int (r.1 / gcdI3 r.1 r.2 m)) (.int (L / wd m r)) = _ := mulB (by omega)
    have d3 : dMul (.int (r.2 / gcdI3 r.1 r.2 m)) (.int (L / wd m r)) = _ := mulB (by omega)
    simp [le_shape_hull_1, HB, mTup, aCons, aNil, m2, mThen, mLift, mVar, d1, d2, d3, isDs, isD, le_size, WF.sp]
  have q3 : sAsg (.nm 3) (mL (mSrt (mLc (mIt (mVar 0)) [4, 5, 6] (.tp [.nm 4, .nm 5, .nm 6]) (qC true) le_shape_hull_1) srtU)) (HB (said T m) L pt none none none none) s = some (.nx (HB (said T m) L pt (cD (.list (S1.map dt))) none none none), s) := by
    have h3' : srtU (T.map fun r => dt (WF.sp m L r)) = some (S1.map dt) := by
      rw [← h3, List.map_map]
      rfl
    simp only [sAsg, mL, mSrt, mThen, q2, mLift, h3']
    simp [bnd, HB]
  have q4 : ∃ c, c = cD (.list ((if S1.length ≤ 1 then S1 else HU.rim S1).map dt)) ∧ mIf (mB (m2 (dCmp fun i j => decide (j < i)) (mCall bLen (aCons (mVar 3) aNil)) (mC (.int 1)))) (sAsg (.nm 3) (m2 dAdd (mSl (mF f_half_hull (aCons (mVar 3) aNil)) oNo (oSome (m1 dNeg (mC (.int 1))))) (mSl (mF f_half_hull (aCons (mL (mRev (mLo (mVar 3)))) aNil)) oNo (oSome (m1 dNeg (mC (.int 1))))))) (sNx) (HB (said T m) L pt (cD (.list (S1.map dt))) none none none) s = some (.nx (HB (said T m) L pt c none none none), s) := by
    refine ⟨_, rfl, ?_⟩
    by_cases hz : S1.length ≤ 1
    · rw [if_pos hz]
      have c : ¬ (1 : Int) < (S1.length : Int) := by omega
      simp [mIf, mB, m2, mThen, mLift, mVar, mCall, aCons, aNil, bLen, mC, dCmp, bOf, HB, c, sNx]
    · rw [if_neg hz]
      have c : (1 : Int) < (S1.length : Int) := by omega
      have c1 := e_half_hull (k := k) (by omega) (S := .list (S1.map dt)) (T := S1) (st := s) (itL _) hS (by omega)
      have c2 := e_half_hull (k := k) (by omega) (S := .list ((S1.map dt).reverse)) (T := S1.reverse) (st := s) (by rw [itL, List.map_reverse]) (fun q hq => hS q (List.mem_reverse.mp hq)) (by rw [List.length_reverse]; omega)
      have a1 := chain_le S1
      have a2 := chain_le S1.reverse
      rw [List.length_reverse] at a2
      have hadd : dAdd (.list ((HU.chain S1).reverse.map dt).dropLast) (.list ((HU.chain S1.reverse).reverse.map dt).dropLast) = some (.list ((HU.rim S1).map dt)) := by
        show (if _ then _ else _) = _
        rw [if_pos (le_size (by simp only [List.length_dropLast, List.length_map, List.length_reverse]; omega)), two_chains]
      generalize (HU.chain S1).reverse.map dt = A at *
      generalize (HU.chain S1.reverse).reverse.map dt = B at *
      simp [mIf, mB, m2, mThen, mLift, mVar, mCall, aCons, aNil, bLen, mC, dCmp, bOf, HB, c, sAsg, mSl, mF, oNo, oSome, m1, dNeg, c1, c2, dSl, mL, mRev, mLo, cut_last, hadd, bnd]
  obtain ⟨c, hc, q4⟩ := q4
  unfold g_shape_hull
  rw [sSeq_nx q0, sSeq_nx q1, sSeq_nx q3, sSeq_nx q4, hc]
  have hle : (if S1.length ≤ 1 then S1 else HU.rim S1).length ≤ 200 := by
    have := rim_le S1
    split <;> omega
  have hsub : ∀ q ∈ (if S1.length ≤ 1 then S1 else HU.rim S1), Sm k q := by
    intro q hq
    split at hq
    · exact hS q hq
    · exact hS q ((HU.rim_rd h1 (by omega)).sub q hq)
  generalize (if S1.length ≤ 1 then S1 else HU.rim S1) = Q at hle hsub ⊢
  have q5 : mLc (mIt (mVar 3)) [4, 5] (.tp [.nm 4, .nm 5]) (qC true) le_shape_hull_2 (HB (said T m) L pt (cD (.list (Q.map dt))) none none none) s = some (Q.map fun r => nm3 r.1 r.2 L, s) := by
    refine mLc_map (enc := dt) (by simp [mIt, mThen, mLift, mVar, HB, itOf]) (by omega) fun r hr => ⟨HB (said T m) L pt (cD (.list (Q.map dt))) (cI r.1) (cI r.2) none, by simp [bnd, bnds, wipeE, HB], ?_, rfl⟩
    simp [le_shape_hull_2, mF, aCons, aNil, mThen, mLift, mVar, HB, e_point_of L0 (m := j) (by omega)]
  generalize mLc (mIt (mVar 3)) [4, 5] (.tp [.nm 4, .nm 5]) (qC true) le_shape_hull_2 = F at q5 ⊢
  simp [sRet, mCall, aCons, aNil, mThen, mLift, mL, q5, bTuple]
/-- the row of a rim is its own hull -/
theorem e_hull_rim {S R : List P} {m : Int} {s : PL.S} {j k : Nat} (hR : R = HU.rim S) (ha : HU.Asc S) (h2 : 2 ≤ S.length) (h3 : 2 ≤ R.length) (hm : 0 < m) [bm : Bi m j] (hj : j < 5000) (hk : k < 90000) (hT : ∀ q ∈ R, Sm k q) (hl : R.length < 64) (nd : ∀ x y, R.head? = some x → R[1]? = some y → x ≠ y) :
    f_shape_hull [said R m] s = some (said R m, s) := by
  obtain ⟨S2, g1, g2, g4, g3⟩ := e_shape_hull (T := R) (s := s) hm hj hk hT hl
  have l2 : ¬ S2.length ≤ 1 := fun z => by
    match R, h3, nd, g2 with
    | x :: y :: t, _, nd, g2 =>
      have hx := (g2 x).mpr (by simp)
      have hy := (g2 y).mpr (by simp)
      match S2, z with
      | [], _ => cases hx
      | [a], _ =>
        rw [List.mem_singleton] at hx hy
        exact nd x y rfl rfl (hx.trans hy.symm)
  rw [if_neg l2] at g3
  have : HU.rim S2 = R := by
    rw [hR]
    refine HU.rim_between ha g1 h2 (fun x hx => (g2 x).mpr (by rw [hR]; exact hx)) fun x hx => ?_
    have := (g2 x).mp hx
    exact (HU.rim_rd ha h2).sub x (by rw [← hR]; exact this)
  rw [this] at g3
  exact g3
theorem no_point_loop {X : D} {m : Int} {s : S} (hm : 0 < m) : ∀ (R : List P) (k : Nat) (i v : Option Cell), ∃ i' v', forL (.tp [.nm 1, .nm 2]) lb_first_no_point_0 (enD k (R.map fun r => nm3 r.1 r.2 m)) [cD X, i, v] s = some (.nx [cD X, i', v'], s)
  | [], k, i, v => ⟨i, v, rfl⟩
  | r :: R, k, i, v => by
    obtain ⟨i', v', e⟩ := no_point_loop (X := X) (s := s) hm R (k + 1) (cI (k : Nat)) (cD (nm3 r.1 r.2 m))
    refine ⟨i', v', ?_⟩
    rw [List.map_cons]
    have e0 : bnd (.tp [.nm 1, .nm 2]) (.tuple [.int (k : Nat), nm3 r.1 r.2 m]) [cD X, i, v] s = some ([cD X, cI (k : Nat), cD (nm3 r.1 r.2 m)], s) := by simp [bnd, bnds]
    have e1 : lb_first_no_point_0 [cD X, cI (k : Nat), cD (nm3 r.1 r.2 m)] s = some (.nx [cD X, cI (k : Nat), cD (nm3 r.1 r.2 m)], s) := by
      have h := e_is_point_nm (x := r.1) (y := r.2) (s := s) hm
      generalize nm3 r.1 r.2 m = d at h ⊢
      simp [lb_first_no_point_0, mIf, mNot, mB, mF, aCons, aNil, mThen, mLift, mVar, h, bOf, sNx]
    show forL _ _ (.tuple [.int (k : Nat), nm3 r.1 r.2 m] :: enD (k + 1) (R.map fun r => nm3 r.1 r.2 m)) _ _ = _
    rw [forL_nx e0 e1]
    exact e
theorem e_first_no_point {R : List P} {m : Int} {s : S} (hm : 0 < m) : f_first_no_point [said R m] s = some (.none, s) := by
  obtain ⟨i, v, e⟩ := no_point_loop (X := said R m) (s := s) hm R 0 none none
  have q : sFor (mEn (mVar 0)) (.tp [.nm 1, .nm 2]) lb_first_no_point_0 (startE 3 [said R m]) s = _ := (sFor_at (by simp [mEn, mThen, mLift, mVar, startE, itOf])).trans e
  refine fnM_rt rfl ?_
  unfold g_first_no_point
  rw [sSeq_nx q]
  rfl
theorem e_is_polygon {R : List P} {m : Int} {s : S} (hm : 0 < m) (h0 : R ≠ []) (h : f_shape_hull [said R m] s = some (said R m, s)) : f_is_polygon [said R m] s = some (.bool true, s) := by
  have e1 := e_first_no_point (R := R) (s := s) hm
  have ok := okEq_said R m
  have e2 := eq_self ok
  have e3 : dEq (said R m) (.tuple []) = some (.bool false) := by
    match R, h0, ok with
    | r :: R, _, ok => exact eq_nil ok
  have e4 : dIs "tuple" (said R m) = some (.bool true) := by simp [dIs, isD, isT]
  generalize said R m = d at *
  simp [f_is_polygon, g_is_polygon, fnM, startE, sSeq, mIf, mOr, mNot, mB, m1, m2, mThen, mLift, mVar, e4, bOf, qC, mTup, aNil, isDs, e3, mF, aCons, e1, mC, dNotN, isNone, sNx, sRet, h, e2, isD]
end WF
/-! sides, supports, figures -/
namespace WF
open PySem PySem.Spec PyProof.Rows L2 PL PLS
theorem nm3_prop {K1 K2 a b c a' b' c' : Int} (h1 : 0 < K1) (h2 : 0 < K2) (ea : K1 * a = K2 * a') (eb : K1 * b = K2 * b') (ec : K1 * c = K2 * c') : nm3 a b c = nm3 a' b' c' := by
  rw [← nm3_mul h1, ea, eb, ec, nm3_mul h2]
theorem gcd_mul' {c a b : Int} (hc : 0 < c) : gcdI (c * a) (c * b) = c * gcdI a b := by
  unfold gcdI
  rw [Int.natAbs_mul, Int.natAbs_mul, Nat.gcd_mul_left]
  push_cast
  rw [Int.natAbs_of_nonneg (Int.le_of_lt hc)]
theorem nmN_mul {c a b : Int} (hc : 0 < c) : nmN (c * a) (c * b) = nmN a b := by
  unfold nmN
  rw [gcd_mul' hc, Int.mul_ediv_mul_of_pos _ _ hc]
theorem nmD_mul {c a b : Int} (hc : 0 < c) : nmD (c * a) (c * b) = nmD a b := by
  unfold nmD
  rw [gcd_mul' hc, Int.mul_ediv_mul_of_pos _ _ hc]
theorem nmN_g (a b : Int) : gcdI a b * nmN a b = a := by unfold nmN; exact Int.mul_ediv_cancel' gcd_d1
theorem nmD_g (a b : Int) : gcdI a b * nmD a b = b := by unfold nmD; exact Int.mul_ediv_cancel' gcd_d2
theorem nmD_pos {a b : Int} (h : 0 < b) : 0 < nmD a b := Int.ediv_pos_of_pos_of_dvd h (by have := gcd_pos (a := a) h; omega) gcd_d2
/-- two fractions over m in their order -/
theorem less_nm {v w m : Int} (hm : 0 < m) : nmN v m * nmD w m < nmN w m * nmD v m ↔ v < w := by
  have g1 := gcd_pos (a := v) hm
  have g2 := gcd_pos (a := w) hm
  have a1 := nmN_g v m
  have a2 := nmD_g v m
  have b1 := nmN_g w m
  have b2 := nmD_g w m
  have e1 : (gcdI v m * gcdI w m) * (nmN v m * nmD w m) = v * m := by rw [show (gcdI v m * gcdI w m) * (nmN v m * nmD w m) = (gcdI v m * nmN v m) * (gcdI w m * nmD w m) by grind, a1, b2]
  have e2 : (gcdI v m * gcdI w m) * (nmN w m * nmD v m) = w * m := by rw [show (gcdI v m * gcdI w m) * (nmN w m * nmD v m) = (gcdI w m * nmN w m) * (gcdI v m * nmD v m) by grind, b1, a2]
  have g3 := Int.mul_pos g1 g2
  rw [← Int.mul_lt_mul_left g3, e1, e2]
  constructor
  · intro h
    exact Int.lt_of_mul_lt_mul_right h (by omega)
  · intro h
    exact Int.mul_lt_mul_of_pos_right h hm
theorem lin_eq {g p q X Y a b : Int} (h1 : g * p = X) (h2 : g * q = Y) : g * (a * p + b * q) = a * X + b * Y := by
  subst h1; subst h2; grind
def ln (a b : Int) (r : P) : Int := a * r.1 + b * r.2
theorem bi_nm3 {r : P} {m : Int} {j k : Nat} [bm : Bi m j] (b : Sm k r) : Bi (r.1 / gcdI3 r.1 r.2 m) k ∧ Bi (r.2 / gcdI3 r.1 r.2 m) k ∧ Bi (m / gcdI3 r.1 r.2 m) j := ⟨⟨Bi.div_le b.1.h⟩, ⟨Bi.div_le b.2.h⟩, ⟨Bi.div_le bm.h⟩⟩
theorem e_along_nm {a b m : Int} {r : P} {s : S} {i l j k : Nat} [Bi a i] [Bi b l] [bm : Bi m j] (hr : Sm k r) (hm : 0 < m) (h1 : i ≤ 400) (h2 : l ≤ 400) (hj : j ≤ 400) (hk : k ≤ 400) :
    f_along [.int a, .int b, nm3 r.1 r.2 m] s = some (fD (nmN (ln a b r) m) (nmD (ln a b r) m), s) := by
  obtain ⟨b1, b2, b3⟩ := bi_nm3 (m := m) hr
  have g0 := gcd3_pos (a := r.1) (b := r.2) hm
  have w0 : 0 < m / gcdI3 r.1 r.2 m := Int.ediv_pos_of_pos_of_dvd hm (by omega) gcd3_d3
  have e := e_along (a := a) (b := b) (x := r.1 / gcdI3 r.1 r.2 m) (y := r.2 / gcdI3 r.1 r.2 m) (w := m / gcdI3 r.1 r.2 m) (s := s) (by omega) (by omega) w0 (by omega)
  have x1 : gcdI3 r.1 r.2 m * (r.1 / gcdI3 r.1 r.2 m) = r.1 := Int.mul_ediv_cancel' gcd3_d1
  have x2 : gcdI3 r.1 r.2 m * (r.2 / gcdI3 r.1 r.2 m) = r.2 := Int.mul_ediv_cancel' gcd3_d2
  have x3 : gcdI3 r.1 r.2 m * (m / gcdI3 r.1 r.2 m) = m := Int.mul_ediv_cancel' gcd3_d3
  have e1 : gcdI3 r.1 r.2 m * (a * (r.1 / gcdI3 r.1 r.2 m) + b * (r.2 / gcdI3 r.1 r.2 m)) = ln a b r := by
    exact lin_eq x1 x2
  unfold nm3
  rw [e, ← nmN_mul g0, ← nmD_mul g0, e1, x3]
/-! supports -/
def SE (X : D) (a b : Int) (m : D) (c r : Option Cell) : PL.Env := [cD X, cI a, cI b, cD m, c, r]
theorem bi_ln {a b : Int} {r : P} {i l k : Nat} [Bi a i] [Bi b l] (h : Sm k r) : Bi (ln a b r) (i + k + (l + k) + 1) := by
  have := h.1
  have := h.2
  unfold ln
  exact biAdd
theorem supp_step {a b m : Int} {q r : P} {X : D} {c x : Option Cell} {s : S} {i l j k : Nat} [Bi a i] [Bi b l] [bm : Bi m j] (hq : Sm k q) (hr : Sm k r) (hm : 0 < m) (h1 : i ≤ 400) (h2 : l ≤ 400) (hj : j ≤ 400) (hk : k ≤ 400) :
    ∃ x', lb_shape_support_0 (SE X a b (fD (nmN (ln a b q) m) (nmD (ln a b q) m)) (cD (nm3 r.1 r.2 m)) x) s = some (.nx (SE X a b (if ln a b q < ln a b r then fD (nmN (ln a b r) m) (nmD (ln a b r) m) else fD (nmN (ln a b q) m) (nmD (ln a b q) m)) (cD (nm3 r.1 r.2 m)) x'), s) := by
  have e1 := e_along_nm (a := a) (b := b) (m := m) (s := s) hr hm h1 h2 hj hk
  have i1 := bi_ln (a := a) (b := b) hq
  have i2 := bi_ln (a := a) (b := b) hr
  have e2 := e_is_less (a := nmN (ln a b q) m) (b := nmD (ln a b q) m) (c := nmN (ln a b r) m) (d := nmD (ln a b r) m) (s := s) (by omega) (by omega)
  have e3 : f_is_less [fD (nmN (ln a b q) m) (nmD (ln a b q) m), fD (nmN (ln a b r) m) (nmD (ln a b r) m)] s = some (.bool (decide (ln a b q < ln a b r)), s) := by
    rw [e2, decide_eq_decide.mpr (less_nm hm)]
  clear e2 i1 i2
  refine ⟨cD (fD (nmN (ln a b r) m) (nmD (ln a b r) m)), ?_⟩
  generalize fD (nmN (ln a b r) m) (nmD (ln a b r) m) = A at *
  generalize fD (nmN (ln a b q) m) (nmD (ln a b q) m) = B at *
  generalize nm3 r.1 r.2 m = N at *
  by_cases h : ln a b q < ln a b r
  · simp [lb_shape_support_0, SE, sSeq, sAsg, mF, aCons, aNil, mThen, mLift, mVar, e1, bnd, mIf, mB, e3, h, bOf]
  · simp [lb_shape_support_0, SE, sSeq, sAsg, mF, aCons, aNil, mThen, mLift, mVar, e1, bnd, mIf, mB, e3, h, bOf, sNx]
theorem supp_loop {a b m : Int} {X : D} {s : S} {i l j k : Nat} [Bi a i] [Bi b l] [bm : Bi m j] (hm : 0 < m) (h1 : i ≤ 400) (h2 : l ≤ 400) (hj : j ≤ 400) (hk : k ≤ 400) : ∀ (R : List P) (q : P) (c x : Option Cell), Sm k q → (∀ r ∈ R, Sm k r) →
    ∃ t c' x', (t = q ∨ t ∈ R) ∧ ln a b q ≤ ln a b t ∧ (∀ r ∈ R, ln a b r ≤ ln a b t) ∧ forL (.nm 4) lb_shape_support_0 (R.map fun r => nm3 r.1 r.2 m) (SE X a b (fD (nmN (ln a b q) m) (nmD (ln a b q) m)) c x) s = some (.nx (SE X a b (fD (nmN (ln a b t) m) (nmD (ln a b t) m)) c' x'), s)
  | [], q, c, x, _, _ => ⟨q, c, x, .inl rfl, Int.le_refl _, by simp, rfl⟩
  | r :: R, q, c, x, hq, hR => by
    have hr := hR r (by simp)
    obtain ⟨x1, e1⟩ := supp_step (a := a) (b := b) (m := m) (X := X) (c := c) (x := x) (s := s) hq hr hm h1 h2 hj hk
    have e0 : bnd (.nm 4) (nm3 r.1 r.2 m) (SE X a b (fD (nmN (ln a b q) m) (nmD (ln a b q) m)) c x) s = some (SE X a b (fD (nmN (ln a b q) m) (nmD (ln a b q) m)) (cD (nm3 r.1 r.2 m)) x, s) := by simp [bnd, SE]
    have hR' : ∀ z ∈ R, Sm k z := fun z hz => hR z (List.mem_cons_of_mem _ hz)
    by_cases h : ln a b q < ln a b r
    · rw [if_pos h] at e1
      obtain ⟨t, c', x', g1, g2, g3, g4⟩ := supp_loop (a := a) (b := b) (m := m) (X := X) (s := s) hm h1 h2 hj hk R r (cD (nm3 r.1 r.2 m)) x1 hr hR'
      refine ⟨t, c', x', ?_, by omega, fun z hz => ?_, ?_⟩
      · rcases g1 with g | g
        · exact .inr (by rw [g]; simp)
        · exact .inr (List.mem_cons_of_mem _ g)
      · rcases List.mem_cons.mp hz with y | y
        · rw [y]; exact g2
        · exact g3 z y
      · rw [List.map_cons, forL_nx e0 e1]
        exact g4
    · rw [if_neg h] at e1
      obtain ⟨t, c', x', g1, g2, g3, g4⟩ := supp_loop (a := a) (b := b) (m := m) (X := X) (s := s) hm h1 h2 hj hk R q (cD (nm3 r.1 r.2 m)) x1 hq hR'
      refine ⟨t, c', x', ?_, by omega, fun z hz => ?_, ?_⟩
      · rcases g1 with g | g
        · exact .inl g
        · exact .inr (List.mem_cons_of_mem _ g)
      · rcases List.mem_cons.mp hz with y | y
        · rw [y]; omega
        · exact g3 z y
      · rw [List.map_cons, forL_nx e0 e1]
        exact g4
theorem cut_tail (x : D) (xs : List D) : PL.cutD (x :: xs) (some 1) none = xs := by
  show (((x :: xs).drop (if (1 : Int) < 0 then ((1 : Int) + ((x :: xs).length : Int)).toNat else min (1 : Int).toNat (x :: xs).length)).take ((x :: xs).length - (if (1 : Int) < 0 then ((1 : Int) + ((x :: xs).length : Int)).toNat else min (1 : Int).toNat (x :: xs).length))) = _
  have e : (if (1 : Int) < 0 then ((1 : Int) + ((x :: xs).length : Int)).toNat else min (1 : Int).toNat (x :: xs).length) = 1 := by
    rw [if_neg (by decide)]
    simp
  rw [e]
  simp
theorem e_support {R : List P} {a b m : Int} {s : S} {i l j k : Nat} [Bi a i] [Bi b l] [bm : Bi m j] (h0 : R ≠ []) (hR : ∀ r ∈ R, Sm k r) (hm : 0 < m) (h1 : i ≤ 400) (h2 : l ≤ 400) (hj : j ≤ 400) (hk : k ≤ 400) :
    ∃ t ∈ R, (∀ r ∈ R, ln a b r ≤ ln a b t) ∧ f_shape_support [said R m, .int a, .int b] s = some (fD (nmN (ln a b t) m) (nmD (ln a b t) m), s) := by
  cases R with
  | nil => exact absurd rfl h0
  | cons q R =>
    have hq := hR q (by simp)
    obtain ⟨t, c, x, g1, g2, g3, g4⟩ := supp_loop (a := a) (b := b) (m := m) (X := said (q :: R) m) (s := s) hm h1 h2 hj hk R q none none hq fun z hz => hR z (List.mem_cons_of_mem _ hz)
    refine ⟨t, ?_, fun z hz => ?_, ?_⟩
    · rcases g1 with g | g
      · rw [g]; simp
      · exact List.mem_cons_of_mem _ g
    · rcases List.mem_cons.mp hz with y | y
      · rw [y]; exact g2
      · exact g3 z y
    · have e1 := e_along_nm (a := a) (b := b) (m := m) (s := s) hq hm h1 h2 hj hk
      refine fnM_rt rfl ?_
      have q1 : sAsg (.nm 3) (mF f_along (aCons (mVar 1) (aCons (mVar 2) (aCons (m2 dIx (mVar 0) (mC (.int 0))) aNil)))) (startE 6 [said (q :: R) m, .int a, .int b]) s = some (.nx (SE (said (q :: R) m) a b (fD (nmN (ln a b q) m) (nmD (ln a b q) m)) none none), s) := by
        simp [sAsg, mF, aCons, aNil, mThen, mLift, mVar, m2, mC, startE, dIx, atI, ixN, e1, bnd, SE]
      have q2 : sFor (mIt (mSl (mVar 0) (oSome (mC (.int 1))) oNo)) (.nm 4) lb_shape_support_0 (SE (said (q :: R) m) a b (fD (nmN (ln a b q) m) (nmD (ln a b q) m)) none none) s = _ := (sFor_at (by
        simp [mIt, mSl, mThen, mLift, mVar, SE, oSome, mC, oNo, dSl, cut_tail, itOf])).trans g4
      unfold g_shape_support
      rw [sSeq_nx q1, sSeq_nx q2]
      simp [sRet, mThen, mLift, mVar, SE]
end WF
/-! edges and sides -/
namespace WF
open PySem PySem.Spec PyProof.Rows L2 PL PLS
def edges (R : List P) : List (P × P) := R.zip (R.tail ++ R.head?.toList)
theorem edges_fst (R : List P) : (edges R).map Prod.fst = R := by
  unfold edges
  cases R with
  | nil => rfl
  | cons r t => exact List.map_fst_zip (by simp)
theorem edges_len (R : List P) : (edges R).length = R.length := by
  have := congrArg List.length (edges_fst R)
  simpa using this
theorem zip_infix {a b : P} : ∀ (l : List P) (x y : P), (a, b) ∈ (x :: l).zip (l ++ [y]) → [a, b] <:+: (x :: l) ++ [y]
  | [], x, y, h => by
    simp at h
    obtain ⟨rfl, rfl⟩ := h
    exact List.infix_refl _
  | z :: l, x, y, h => by
    rw [List.cons_append, List.zip_cons_cons, List.mem_cons] at h
    rcases h with h | h
    · cases h
      exact ⟨[], l ++ [y], rfl⟩
    · have := zip_infix l z y h
      exact List.infix_cons this
theorem edge_infix {R : List P} {e : P × P} (h : e ∈ edges R) : ∃ m, R.head? = some m ∧ [e.1, e.2] <:+: R ++ [m] := by
  unfold edges at h
  cases R with
  | nil => simp at h
  | cons r t => exact ⟨r, rfl, zip_infix t r r h⟩
theorem edge_mem {R : List P} {e : P × P} (h : e ∈ edges R) : e.1 ∈ R ∧ e.2 ∈ R := by
  obtain ⟨m, h1, h2⟩ := edge_infix h
  have a := h2.mem (a := e.1) (by simp)
  have b := h2.mem (a := e.2) (by simp)
  have hm := List.mem_of_head? h1
  rw [List.mem_append, List.mem_singleton] at a b
  exact ⟨a.elim id fun z => by rw [z]; exact hm, b.elim id fun z => by rw [z]; exact hm⟩
theorem edge_rd {S R : List P} (h : HU.Rd S R) {e : P × P} (he : e ∈ edges R) : e.1 ≠ e.2 ∧ ∀ q ∈ S, 0 ≤ HU.det e.1 e.2 q := by
  obtain ⟨m, h1, h2⟩ := edge_infix he
  exact h.two _ _ m h1 h2
theorem edges_at (R : List P) (i : Nat) (h : i < R.length) : (edges R)[i]? = some (R.getD i (0, 0), R.getD (if i + 1 = R.length then 0 else i + 1) (0, 0)) := by
  cases R with
  | nil => simp at h
  | cons r t =>
    unfold edges
    rw [List.getElem?_zip_eq_some]
    refine ⟨by simp [List.getElem?_eq_getElem h], ?_⟩
    show (t ++ [r])[i]? = _
    by_cases c : i + 1 = (r :: t).length
    · rw [if_pos c]
      have : i = t.length := by simpa using c
      subst this
      simp
    · rw [if_neg c]
      have : i < t.length := by simp at h c; omega
      rw [List.getElem?_append_left this]
      simp [this]
/-- what course_to tells of two points over m -/
def cu (m : Int) (a b : P) : Int := (b.1 / gcdI3 b.1 b.2 m) * (m / gcdI3 a.1 a.2 m) - (a.1 / gcdI3 a.1 a.2 m) * (m / gcdI3 b.1 b.2 m)
def cv (m : Int) (a b : P) : Int := (b.2 / gcdI3 b.1 b.2 m) * (m / gcdI3 a.1 a.2 m) - (a.2 / gcdI3 a.1 a.2 m) * (m / gcdI3 b.1 b.2 m)
theorem cu_alg {ga gb p q w t x y m : Int} (h1 : gb * p = x) (h2 : ga * w = m) (h3 : ga * q = y) (h4 : gb * t = m) : ga * gb * (p * w - q * t) = m * (x - y) := by
  subst h1; subst h3
  have e : ga * gb * (p * w - q * t) = (ga * w) * (gb * p) - (gb * t) * (ga * q) := by grind
  rw [e, h2, h4]
  grind
theorem cu_eq (m : Int) (a b : P) : gcdI3 a.1 a.2 m * gcdI3 b.1 b.2 m * cu m a b = m * (b.1 - a.1) :=
  cu_alg (Int.mul_ediv_cancel' gcd3_d1) (Int.mul_ediv_cancel' gcd3_d3) (Int.mul_ediv_cancel' gcd3_d1) (Int.mul_ediv_cancel' gcd3_d3)
theorem cv_eq (m : Int) (a b : P) : gcdI3 a.1 a.2 m * gcdI3 b.1 b.2 m * cv m a b = m * (b.2 - a.2) :=
  cu_alg (Int.mul_ediv_cancel' gcd3_d2) (Int.mul_ediv_cancel' gcd3_d3) (Int.mul_ediv_cancel' gcd3_d2) (Int.mul_ediv_cancel' gcd3_d3)
theorem bi_cu {m : Int} {a b : P} {j k : Nat} [bm : Bi m j] (ha : Sm k a) (hb : Sm k b) : Bi (cu m a b) (2 * (k + j) + 1) ∧ Bi (cv m a b) (2 * (k + j) + 1) := by
  obtain ⟨a1, a2, a3⟩ := bi_nm3 (m := m) ha
  obtain ⟨b1, b2, b3⟩ := bi_nm3 (m := m) hb
  have e : 2 * (k + j) + 1 = k + j + (k + j) + 1 := by omega
  rw [e]
  exact ⟨biSub, biSub⟩
theorem e_course_nm {m : Int} {a b : P} {s : S} {j k : Nat} [bm : Bi m j] (ha : Sm k a) (hb : Sm k b) (hj : j ≤ 90) (hk : k ≤ 90) : f_course_to [nm3 a.1 a.2 m, nm3 b.1 b.2 m] s = some (fD (cu m a b) (cv m a b), s) := by
  obtain ⟨a1, a2, a3⟩ := bi_nm3 (m := m) ha
  obtain ⟨b1, b2, b3⟩ := bi_nm3 (m := m) hb
  exact e_course_to (by omega)
theorem atI_map {α : Type} {f : α → D} {L : List α} {i : Nat} {x : α} (h : L[i]? = some x) : atI (L.map f) (i : Int) = some (f x) := by
  have hl := (List.getElem?_eq_some_iff.mp h).1
  unfold atI
  rw [List.length_map, ixN_ok hl]
  show (L.map f)[i]? = _
  rw [List.getElem?_map, h]
  rfl
theorem get_some {R : List P} {i : Nat} (h : i < R.length) : R[i]? = some (R.getD i (0, 0)) := by simp [h]
theorem getD_mem {R : List P} {i : Nat} (h : i < R.length) : R.getD i (0, 0) ∈ R := List.mem_of_getElem? (get_some h)
theorem rg_row {n : Nat} (h : n < 1000) : rg2 [.int 1, .int (n : Int)] = some ((List.range (n - 1)).map fun (i : Nat) => PyData.int (1 + (i : Int))) := by
  have o1 : okRg 1 = true := by
    unfold okRg
    rw [Bool.and_eq_true]
    exact ⟨decide_eq_true (by omega), decide_eq_true (by omega)⟩
  have o2 : okRg (n : Int) = true := by
    unfold okRg
    rw [Bool.and_eq_true]
    exact ⟨decide_eq_true (by omega), decide_eq_true (by omega)⟩
  have e : ((n : Int) - 1).toNat = n - 1 := by omega
  unfold rg2
  simp only [o1, o2, and_self, if_true, e]
  unfold rgD
  rfl
def crs (m : Int) (a b : P) : D := fD (cu m a b) (cv m a b)
theorem le_edge {R : List P} {m : Int} {s : S} {j k i : Nat} [bm : Bi m j] (hR : ∀ r ∈ R, Sm k r) (hj : j ≤ 90) (hk : k ≤ 90) (hi : i + 1 < R.length) :
    le_edge_courses_0 [cD (said R m), cI (1 + (i : Int))] s = some (crs m (R.getD i (0, 0)) (R.getD (i + 1) (0, 0)), s) := by
  have x1 := atI_map (f := fun r => nm3 r.1 r.2 m) (get_some (show i < R.length by omega))
  have x2 := atI_map (f := fun r => nm3 r.1 r.2 m) (get_some hi)
  have e1 : (1 + (i : Int)) - 1 = (i : Int) := by omega
  have e2 : (1 + (i : Int)) = ((i + 1 : Nat) : Int) := by omega
  have e3 := e_course_nm (m := m) (s := s) (hR _ (getD_mem (show i < R.length by omega))) (hR _ (getD_mem hi)) hj hk
  rw [← e2] at x2
  have x1' : dIx (said R m) (.int (i : Int)) = some (nm3 (R.getD i (0, 0)).1 (R.getD i (0, 0)).2 m) := x1
  have x2' : dIx (said R m) (.int (1 + (i : Int))) = some (nm3 (R.getD (i + 1) (0, 0)).1 (R.getD (i + 1) (0, 0)).2 m) := x2
  clear x1 x2 e2
  unfold crs
  generalize R.getD i (0, 0) = a at *
  generalize R.getD (i + 1) (0, 0) = b at *
  generalize said R m = X at *
  generalize nm3 a.1 a.2 m = A at *
  generalize nm3 b.1 b.2 m = B at *
  simp [le_edge_courses_0, mF, aCons, aNil, m2, mThen, mLift, mVar, mC, dSub, e1, x1', x2', e3]
theorem edge_row (m : Int) (R : List P) (h2 : 2 ≤ R.length) : (List.range (R.length - 1)).map (fun i => crs m (R.getD i (0, 0)) (R.getD (i + 1) (0, 0))) ++ [crs m (R.getD (R.length - 1) (0, 0)) (R.getD 0 (0, 0))] = (edges R).map fun e => crs m e.1 e.2 := by
  apply List.ext_getElem?
  intro i
  rw [List.getElem?_map]
  generalize hF : (fun (i : Nat) => crs m (R.getD i (0, 0)) (R.getD (i + 1) (0, 0))) = F
  by_cases hi : i < R.length
  · rw [edges_at R i hi]
    by_cases c : i + 1 = R.length
    · rw [if_pos c, List.getElem?_append_right (by simp; omega)]
      have z : i - ((List.range (R.length - 1)).map F).length = 0 := by simp; omega
      have z2 : i = R.length - 1 := by omega
      rw [z, z2]
      rfl
    · rw [if_neg c, List.getElem?_append_left (by simp; omega), List.getElem?_map, List.getElem?_range (by omega), ← hF]
      rfl
  · rw [List.getElem?_eq_none (by simp; omega), List.getElem?_eq_none (by rw [edges_len]; omega)]
    rfl
theorem at_last {R : List P} {m : Int} (h : 0 < R.length) : dIx (said R m) (.int (-1)) = some (nm3 (R.getD (R.length - 1) (0, 0)).1 (R.getD (R.length - 1) (0, 0)).2 m) := by
  have x := atI_map (f := fun r => nm3 r.1 r.2 m) (get_some (show R.length - 1 < R.length by omega))
  rw [← x]
  show atI (R.map fun r => nm3 r.1 r.2 m) (-1) = _
  unfold atI ixN
  rw [List.length_map, if_neg (by decide), if_pos (by omega), if_pos (by omega), if_pos (by omega)]
  have e4 : ((R.length - 1 : Nat) : Int).toNat = (-1 + (R.length : Int)).toNat := by omega
  rw [e4]
theorem at_first {R : List P} {m : Int} (h : 0 < R.length) : dIx (said R m) (.int 0) = some (nm3 (R.getD 0 (0, 0)).1 (R.getD 0 (0, 0)).2 m) := by
  show atI (R.map fun r => nm3 r.1 r.2 m) ((0 : Nat) : Int) = _
  exact atI_map (f := fun r => nm3 r.1 r.2 m) (get_some h)
theorem mA_two {f : List D → Option (List D)} {c d X : D} {xs : List D} {ρ : PL.Env} {s : S} (h0 : ρ[0]? = some (some (.fz X))) (hlen : bLen [X] = some d) (h : f [c, d] = some xs) : mA f (aCons (mC c) (aCons (mCall bLen (aCons (mVar 0) aNil)) aNil)) ρ s = some (xs, s) := by
  simp [mA, aCons, aNil, mC, mCall, mThen, mLift, mVar, h0, hlen, h]
theorem ec_end {F : M (List D)} {LL : List D} {CC A B X : D} {n : Int} {s : S} (hlen : bLen [X] = some (.int n)) (n1 : ¬ n = 1) (q2 : F [cD X, none] s = some (LL, s)) (la : dIx X (.int (-1)) = some A) (fi : dIx X (.int 0) = some B) (e5 : f_course_to [A, B] s = some (CC, s)) (hcc : isD CC = true) (hz : LL.length + 1 ≤ sizeLine) :
    (sSeq (mIf (mB (m2 (dEq) (mCall bLen (aCons (mVar 0) aNil)) (mC (.int 1)))) (sRet (mL (mLst aNil))) (sNx)) (sRet (m2 dAdd (mL F) (mL (mLst (aCons (mF f_course_to (aCons (m2 dIx (mVar 0) (m1 dNeg (mC (.int 1)))) (aCons (m2 dIx (mVar 0) (mC (.int 0))) aNil))) aNil)))))) [cD X, none] s = some (.rt (.list (LL ++ [CC])), s) := by
  have q1 : mIf (mB (m2 (dEq) (mCall bLen (aCons (mVar 0) aNil)) (mC (.int 1)))) (sRet (mL (mLst aNil))) (sNx) [cD X, none] s = some (.nx [cD X, none], s) := by
    simp [mIf, mB, m2, mThen, mLift, mVar, mCall, aCons, aNil, hlen, mC, eqI, n1, bOf, sNx]
  rw [sSeq_nx q1]
  have z1 : (1 : Nat) ≤ sizeLine := le_size (by decide)
  have ad : dAdd (.list LL) (.list [CC]) = some (.list (LL ++ [CC])) := by
    show (if LL.length + 1 ≤ sizeLine then _ else _) = _
    rw [if_pos hz]
  have w : mL (mLst (aCons (mF f_course_to (aCons (m2 dIx (mVar 0) (m1 dNeg (mC (.int 1)))) (aCons (m2 dIx (mVar 0) (mC (.int 0))) aNil))) aNil)) [cD X, none] s = some (.list [CC], s) := by
    simp [mL, mLst, aCons, aNil, mF, mThen, mLift, mVar, m1, m2, mC, dNeg, la, fi, e5, isDs, hcc, z1]
  have v : mL F [cD X, none] s = some (.list LL, s) := by simp only [mL, mThen, q2, mLift]
  generalize mL (mLst _) = W at w ⊢
  generalize mL F = V at v ⊢
  simp [sRet, m2, mThen, mLift, v, w, ad]
theorem e_edge_courses {R : List P} {m : Int} {s : S} {j k : Nat} [bm : Bi m j] (hR : ∀ r ∈ R, Sm k r) (hj : j ≤ 90) (hk : k ≤ 90) (h2 : 2 ≤ R.length) (hl : R.length < 1000) :
    f_edge_courses [said R m] s = some (.list ((edges R).map fun e => crs m e.1 e.2), s) := by
  have n1 : ¬ ((R.length : Int) = 1) := by omega
  have hlen : bLen [said R m] = some (.int R.length) := by simp [bLen]
  have okr := rg_row hl
  have la := at_last (m := m) (show 0 < R.length by omega)
  have fi := at_first (m := m) (show 0 < R.length by omega)
  have e5 : f_course_to _ s = some (crs m _ _, s) := e_course_nm (m := m) (s := s) (hR _ (getD_mem (show R.length - 1 < R.length by omega))) (hR _ (getD_mem (show 0 < R.length by omega))) hj hk
  have q2 : mLc (mA rg2 (aCons (mC (.int 1)) (aCons (mCall bLen (aCons (mVar 0) aNil)) aNil))) [1] (.nm 1) (qC true) le_edge_courses_0 [cD (said R m), none] s = some ((List.range (R.length - 1)).map fun i => crs m (R.getD i (0, 0)) (R.getD (i + 1) (0, 0)), s) := by
    refine mLc_map (enc := fun (i : Nat) => PyData.int (1 + (i : Int))) ?_ (by simp; omega) fun i hi => ⟨[cD (said R m), cI (1 + (i : Int))], by simp [bnd, wipeE], le_edge hR hj hk (by rw [List.mem_range] at hi; omega), rfl⟩
    exact mA_two rfl hlen okr
  have eq := edge_row m R h2
  have hz : ((List.range (R.length - 1)).map fun i => crs m (R.getD i (0, 0)) (R.getD (i + 1) (0, 0))).length + 1 ≤ sizeLine := le_size (by simp; omega)
  rw [← eq]
  exact fnM_rt rfl (ec_end hlen n1 q2 la fi e5 rfl hz)
end WF
/-! edges and sides -/
namespace WF
open PySem PySem.Spec PyProof.Rows L2 PL PLS
/-! sides -/
def sd (m : Int) (a b : P) : D := nm3 (m * (b.2 - a.2)) (-(m * (b.1 - a.1))) ((b.2 - a.2) * a.1 - (b.1 - a.1) * a.2)
theorem gcd3_le1 {a b c : Int} (h : a ≠ 0) : 0 < gcdI3 a b c ∧ (gcdI3 a b c).natAbs ≤ a.natAbs := by
  unfold gcdI3
  have h1 : 0 < a.natAbs := by omega
  have h2 := Nat.gcd_pos_of_pos_left b.natAbs h1
  have h3 := Nat.gcd_pos_of_pos_left c.natAbs h2
  have h4 := Nat.le_of_dvd h1 (Nat.dvd_trans (Nat.gcd_dvd_left (a.natAbs.gcd b.natAbs) c.natAbs) (Nat.gcd_dvd_left _ _))
  omega
theorem gcd3_le2 {a b c : Int} (h : b ≠ 0) : 0 < gcdI3 a b c ∧ (gcdI3 a b c).natAbs ≤ b.natAbs := by
  unfold gcdI3
  have h1 : 0 < b.natAbs := by omega
  have h2 := Nat.gcd_pos_of_pos_right a.natAbs h1
  have h3 := Nat.gcd_pos_of_pos_left c.natAbs h2
  have h4 := Nat.le_of_dvd h1 (Nat.dvd_trans (Nat.gcd_dvd_left (a.natAbs.gcd b.natAbs) c.natAbs) (Nat.gcd_dvd_right _ _))
  omega
theorem side_alg1 {G g v q m d : Int} (h1 : G * v = m * d) (h2 : g * q = m) : (g * G) * (v * q) = m * (m * d) := by
  have : (g * G) * (v * q) = (G * v) * (g * q) := by grind
  rw [this, h1, h2]; grind
theorem side_alg3 {G g p u v m d c x y L : Int} (h1 : G * v = m * d) (h2 : G * u = m * c) (h3 : g * p = L) (hL : L = v * x + -u * y) : (g * G) * p = m * (d * x - c * y) := by
  have : (g * G) * p = G * (g * p) := by grind
  rw [this, h3, hL]
  have : G * (v * x + -u * y) = (G * v) * x - (G * u) * y := by grind
  rw [this, h1, h2]; grind
theorem e_side_nm {m : Int} {a b : P} {s : S} {j k : Nat} [bm : Bi m j] (ha : Sm k a) (hb : Sm k b) (hm : 0 < m) (hj : j ≤ 90) (hk : k ≤ 90) (ne : a ≠ b) :
    ∃ g : Int × Int, f_along [.int (cv m a b), .int (-(cu m a b)), nm3 a.1 a.2 m] s = some (fD g.1 g.2, s) ∧ f_side_of [.int (cv m a b), .int (-(cu m a b)), fD g.1 g.2] s = some (sd m a b, s) := by
  obtain ⟨b1, b2⟩ := bi_cu (m := m) ha hb
  have e1 := e_along_nm (a := cv m a b) (b := -(cu m a b)) (m := m) (s := s) ha hm (by omega) (by omega) (by omega) (by omega)
  refine ⟨(nmN (ln (cv m a b) (-(cu m a b)) a) m, nmD (ln (cv m a b) (-(cu m a b)) a) m), e1, ?_⟩
  dsimp only
  have g1 := gcd3_pos (a := a.1) (b := a.2) hm
  have g2 := gcd3_pos (a := b.1) (b := b.2) hm
  have hu := cu_eq m a b
  have hv := cv_eq m a b
  have G0 := Int.mul_pos g1 g2
  have gl := gcd_pos (a := ln (cv m a b) (-(cu m a b)) a) hm
  have n1 := nmN_g (ln (cv m a b) (-(cu m a b)) a) m
  have n2 := nmD_g (ln (cv m a b) (-(cu m a b)) a) m
  have q0 := nmD_pos (a := ln (cv m a b) (-(cu m a b)) a) hm
  have bl := bi_ln (a := cv m a b) (b := -(cu m a b)) ha
  have bp : Bi (nmN (ln (cv m a b) (-(cu m a b)) a) m) _ := biN
  have bq : Bi (nmD (ln (cv m a b) (-(cu m a b)) a) m) j := biD
  have hL : ln (cv m a b) (-(cu m a b)) a = cv m a b * a.1 + -(cu m a b) * a.2 := rfl
  have r1 := side_alg1 hv n2
  have r2 : (gcdI (ln (cv m a b) (-(cu m a b)) a) m * (gcdI3 a.1 a.2 m * gcdI3 b.1 b.2 m)) * (-(cu m a b) * nmD (ln (cv m a b) (-(cu m a b)) a) m) = m * (-(m * (b.1 - a.1))) := by
    have := side_alg1 hu n2
    rw [Int.neg_mul, Int.mul_neg, this, Int.mul_neg]
  have r3 := side_alg3 hv hu n1 hL
  have uv : cv m a b ≠ 0 ∨ -(cu m a b) ≠ 0 := by
    by_cases z1 : cv m a b = 0
    · refine .inr fun z2 => ne ?_
      have z3 : cu m a b = 0 := by omega
      rw [z1, Int.mul_zero] at hv
      rw [z3, Int.mul_zero] at hu
      have y1 : b.1 - a.1 = 0 := by
        rcases Int.mul_eq_zero.mp hu.symm with h | h
        · omega
        · exact h
      have y2 : b.2 - a.2 = 0 := by
        rcases Int.mul_eq_zero.mp hv.symm with h | h
        · omega
        · exact h
      exact Prod.ext (by omega) (by omega)
    · exact .inl z1
  clear n1 n2 hL e1 hu hv
  generalize nmN (ln (cv m a b) (-(cu m a b)) a) m = p at *
  generalize nmD (ln (cv m a b) (-(cu m a b)) a) m = q at *
  generalize gcdI (ln (cv m a b) (-(cu m a b)) a) m = g at *
  generalize gcdI3 a.1 a.2 m * gcdI3 b.1 b.2 m = G at *
  generalize cv m a b = v at *
  generalize cu m a b = u at *
  have bi1 : Bi (v * q) (2 * (k + j) + 1 + j) := biMul
  have bi2 : Bi (-u * q) (2 * (k + j) + 1 + j) := biMul
  have bg : 0 < gcdI3 (v * q) (-u * q) p ∧ Bi (gcdI3 (v * q) (-u * q) p) (2 * (k + j) + 1 + j) := by
    rcases uv with h | h
    · have := gcd3_le1 (b := -u * q) (c := p) (Int.mul_ne_zero h (Int.ne_of_gt q0))
      exact ⟨this.1, ⟨Nat.lt_of_le_of_lt this.2 bi1.h⟩⟩
    · have := gcd3_le2 (a := v * q) (c := p) (Int.mul_ne_zero h (Int.ne_of_gt q0))
      exact ⟨this.1, ⟨Nat.lt_of_le_of_lt this.2 bi2.h⟩⟩
  obtain ⟨bg1, bg2⟩ := bg
  have e2 := e_side_of (a := v) (b := -u) (p := p) (q := q) (s := s) (by omega) bg1 (by omega)
  rw [e2]
  unfold sd
  rw [nm3_prop (Int.mul_pos gl G0) hm r1 r2 r3]
theorem zipD_map {α : Type} {f g : α → D} : ∀ L : List α, zipD (L.map f) (L.map g) = L.map fun a => .tuple [f a, g a]
  | [] => rfl
  | a :: L => by
    show PyData.tuple [f a, g a] :: zipD (L.map f) (L.map g) = _
    rw [zipD_map L]
    rfl
theorem e_shape_sides {R : List P} {m : Int} {s : S} {j k : Nat} [bm : Bi m j] (hR : ∀ r ∈ R, Sm k r) (hm : 0 < m) (hj : j ≤ 90) (hk : k ≤ 90) (h3 : 3 ≤ R.length) (hl : R.length < 1000) (ne : ∀ e ∈ edges R, e.1 ≠ e.2) :
    f_shape_sides [said R m] s = some (.tuple ((edges R).map fun e => sd m e.1 e.2), s) := by
  have q1 := e_edge_courses (m := m) (s := s) hR hj hk (by omega) hl
  have hlen : (2 : Int) < (R.length : Int) := by omega
  have q2 : mLc (mA zpOf (aCons (mF f_edge_courses (aCons (mVar 0) aNil)) (aCons (mVar 0) aNil))) [1, 2, 3] (.tp [.tp [.nm 1, .nm 2], .nm 3]) (qC true) le_shape_sides_0 (startE 7 [said R m]) s = some ((edges R).map fun e => sd m e.1 e.2, s) := by
    refine mLc_map (enc := fun e : P × P => .tuple [crs m e.1 e.2, nm3 e.1.1 e.1.2 m]) ?_ (by rw [edges_len]; omega) fun e he => ⟨[cD (said R m), cI (cu m e.1 e.2), cI (cv m e.1 e.2), cD (nm3 e.1.1 e.1.2 m), none, none, none], by simp [bnd, bnds, wipeE, startE, crs], ?_, rfl⟩
    · have e0 : zpOf [.list ((edges R).map fun e => crs m e.1 e.2), said R m] = some ((edges R).map fun e => .tuple [crs m e.1 e.2, nm3 e.1.1 e.1.2 m]) := by
        have : R.map (fun r => nm3 r.1 r.2 m) = (edges R).map fun e => nm3 e.1.1 e.1.2 m := by
          conv => lhs; rw [← edges_fst R]
          rw [List.map_map]
          rfl
        show some (zipD _ (R.map fun r => nm3 r.1 r.2 m)) = _
        rw [this, zipD_map]
      generalize said R m = X at *
      simp [mA, aCons, aNil, mF, mThen, mLift, mVar, startE, q1, e0]
    · have hmem := edge_mem he
      obtain ⟨g, k1, k2⟩ := e_side_nm (m := m) (s := s) (hR _ hmem.1) (hR _ hmem.2) hm hj hk (ne e he)
      generalize nm3 e.1.1 e.1.2 m = N at *
      generalize sd m e.1 e.2 = SD at *
      simp [le_shape_sides_0, mF, aCons, aNil, m1, mThen, mLift, mVar, dNeg, k1, k2]
  have hlen2 : bLen [said R m] = some (.int R.length) := by simp [bLen]
  refine fnM_rt rfl ?_
  unfold g_shape_sides
  generalize mLc (mA zpOf (aCons (mF f_edge_courses (aCons (mVar 0) aNil)) (aCons (mVar 0) aNil))) [1, 2, 3] (.tp [.tp [.nm 1, .nm 2], .nm 3]) (qC true) le_shape_sides_0 = F at q2 ⊢
  generalize said R m = X at *
  have q3 : mIf (mB (m2 (dCmp fun i j => decide (j < i)) (mCall bLen (aCons (mVar 0) aNil)) (mC (.int 2)))) (sRet (mCall bTuple (aCons (mL F) aNil))) (sNx) (startE 7 [X]) s = some (.rt (.tuple ((edges R).map fun e => sd m e.1 e.2)), s) := by
    have q2' : F [cD X, none, none, none, none, none, none] s = some ((edges R).map fun e => sd m e.1 e.2, s) := q2
    simp [mIf, mB, m2, mThen, mLift, mVar, mCall, aCons, aNil, hlen2, mC, dCmp, startE, hlen, bOf, sRet, mL, q2', bTuple]
  rw [sSeq_rt q3]
end WF
/-! figures -/
namespace WF
open PySem PySem.Spec PyProof.Rows L2 PL PLS
theorem det_o (a b : P) : HU.det a b (0, 0) = (b.2 - a.2) * a.1 - (b.1 - a.1) * a.2 := by unfold HU.det; grind
theorem bi_sd {m : Int} {a b : P} {j k : Nat} [bm : Bi m j] (ha : Sm k a) (hb : Sm k b) : Bi (m * (b.2 - a.2)) (j + (k + k + 1)) ∧ Bi (-(m * (b.1 - a.1))) (j + (k + k + 1)) ∧ Bi ((b.2 - a.2) * a.1 - (b.1 - a.1) * a.2) ((k + k + 1 + k) + (k + k + 1 + k) + 1) := by
  have := ha.1
  have := ha.2
  have := hb.1
  have := hb.2
  exact ⟨biMul, biNeg, biSub⟩
theorem e_over_o {m : Int} {a b : P} {s : S} {j k : Nat} [bm : Bi m j] (ha : Sm k a) (hb : Sm k b) (hj : j ≤ 90) (hk : k ≤ 90) (h : 0 ≤ HU.det a b (0, 0)) : ∃ z, f_overshoot [sd m a b, pD 0 0 1] s = some (.int z, s) ∧ z ≤ 0 := by
  obtain ⟨b1, b2, b3⟩ := bi_sd (m := m) ha hb
  unfold sd nm3
  rw [det_o] at h
  generalize m * (b.2 - a.2) = A at *
  generalize -(m * (b.1 - a.1)) = B at *
  generalize (b.2 - a.2) * a.1 - (b.1 - a.1) * a.2 = C at *
  have i1 : Bi (A / gcdI3 A B C) (j + (k + k + 1)) := ⟨Bi.div_le b1.h⟩
  have i2 : Bi (B / gcdI3 A B C) (j + (k + k + 1)) := ⟨Bi.div_le b2.h⟩
  have i3 : Bi (C / gcdI3 A B C) ((k + k + 1 + k) + (k + k + 1 + k) + 1) := ⟨Bi.div_le b3.h⟩
  have e := e_overshoot (a := A / gcdI3 A B C) (b := B / gcdI3 A B C) (h := C / gcdI3 A B C) (x := 0) (y := 0) (w := 1) (s := s) (by omega)
  refine ⟨_, e, ?_⟩
  have g0 : 0 ≤ gcdI3 A B C := by unfold gcdI3; omega
  have := Int.ediv_nonneg h g0
  omega
theorem all_true {α : Type} : ∀ L : List α, boolsOf (L.map fun _ => PyData.bool true) = some (L.map fun _ => true)
  | [] => rfl
  | _ :: L => by
    show (boolsOf (L.map fun _ => PyData.bool true)).map (true :: ·) = _
    rw [all_true L]
    rfl
theorem bools_map {α : Type} (b : α → Bool) : ∀ L : List α, boolsOf (L.map fun x => PyData.bool (b x)) = some (L.map b)
  | [] => rfl
  | x :: L => by
    show (boolsOf (L.map fun x => PyData.bool (b x))).map (b x :: ·) = _
    rw [bools_map b L]
    rfl
theorem all_of {α : Type} {F : M (List D)} {L : List α} {b : α → Bool} {ρ : PL.Env} {s s' : S} (h : F ρ s = some (L.map fun x => PyData.bool (b x), s')) : mCall bAll (aCons (mL F) aNil) ρ s = some (.bool (L.all b), s') := by
  have e : mL F ρ s = some (.list (L.map fun x => PyData.bool (b x)), s') := by simp only [mL, mThen, h, mLift]
  have e2 : bAll [.list (L.map fun x => PyData.bool (b x))] = some (.bool (L.all b)) := by
    show (boolsOf _).map _ = _
    rw [bools_map]
    simp
  generalize mL F = G at e ⊢
  simp [mCall, aCons, aNil, mThen, mLift, e, e2]
theorem any_of {α : Type} {F : M (List D)} {L : List α} {b : α → Bool} {ρ : PL.Env} {s s' : S} (h : F ρ s = some (L.map fun x => PyData.bool (b x), s')) : mCall bAny (aCons (mL F) aNil) ρ s = some (.bool (L.any b), s') := by
  have e : mL F ρ s = some (.list (L.map fun x => PyData.bool (b x)), s') := by simp only [mL, mThen, h, mLift]
  have e2 : bAny [.list (L.map fun x => PyData.bool (b x))] = some (.bool (L.any b)) := by
    show (boolsOf _).map _ = _
    rw [bools_map]
    simp
  generalize mL F = G at e ⊢
  simp [mCall, aCons, aNil, mThen, mLift, e, e2]
/-- a row over m that has sides -/
structure Sided (R : List P) (m : Int) : Prop where
  m0 : 0 < m
  three : 3 ≤ R.length
  len : R.length < 64
  ne : ∀ e ∈ edges R, e.1 ≠ e.2
theorem e_holds_o {R : List P} {m : Int} {s : S} {j k : Nat} [bm : Bi m j] (h : Sided R m) (hR : ∀ r ∈ R, Sm k r) (hj : j ≤ 90) (hk : k ≤ 90) (ho : ∀ e ∈ edges R, 0 ≤ HU.det e.1 e.2 (0, 0)) :
    f_shape_holds [said R m, pD 0 0 1] s = some (.bool true, s) := by
  have q1 := e_shape_sides (s := s) hR h.m0 hj hk h.three (by have := h.len; omega) h.ne
  have q2 : mLc (mIt (mF f_shape_sides (aCons (mVar 0) aNil))) [2] (.nm 2) (qC true) le_shape_holds_0 [cD (said R m), cD (pD 0 0 1), none] s = some ((edges R).map fun e => PyData.bool ((fun _ => true) e), s) := by
    refine mLc_map (enc := fun e : P × P => sd m e.1 e.2) ?_ (by rw [edges_len]; have := h.len; omega) fun e he => ⟨[cD (said R m), cD (pD 0 0 1), cD (sd m e.1 e.2)], by simp [bnd, wipeE], ?_, rfl⟩
    · generalize said R m = X at *
      simp [mIt, mF, aCons, aNil, mThen, mLift, mVar, q1, itOf]
    · have hm := edge_mem he
      obtain ⟨z, e1, z0⟩ := e_over_o (m := m) (s := s) (hR _ hm.1) (hR _ hm.2) hj hk (ho e he)
      generalize sd m e.1 e.2 = A at *
      generalize pD 0 0 1 = B at *
      simp [le_shape_holds_0, m2, mF, aCons, aNil, mThen, mLift, mVar, e1, mC, dCmp, z0]
  have q3 := all_of q2
  refine fnM_rt rfl ?_
  show g_shape_holds [cD (said R m), cD (pD 0 0 1), none] s = _
  unfold g_shape_holds
  generalize mCall bAll _ = G at q3 ⊢
  simp [sRet, mThen, mLift, q3]
theorem e_is_figure {R : List P} {m : Int} {s : S} {j k : Nat} [bm : Bi m j] (h : Sided R m) (hR : ∀ r ∈ R, Sm k r) (hj : j ≤ 90) (hk : k ≤ 90) (ho : ∀ e ∈ edges R, 0 ≤ HU.det e.1 e.2 (0, 0)) (hh : f_shape_hull [said R m] s = some (said R m, s)) :
    f_is_figure [said R m] s = some (.bool true, s) ∧ f_need_figure [said R m] s = some (.none, s) := by
  have h3 := h.three
  have q1 := e_is_polygon h.m0 (by intro z; rw [z] at h3; simp at h3) hh
  have q2 := e_holds_o (s := s) h hR hj hk ho
  have hlen : bLen [said R m] = some (.int R.length) := by simp [bLen]
  have hz : (2 : Int) < R.length := by omega
  have e1 : f_is_figure [said R m] s = some (.bool true, s) := by
    generalize said R m = X at *
    simp [f_is_figure, g_is_figure, fnM, startE, sRet, mAndV, mIf, mB, mF, aCons, aNil, mThen, mLift, mVar, q1, bOf, m2, mCall, hlen, mC, dCmp, hz, q2]
  refine ⟨e1, ?_⟩
  generalize said R m = X at *
  simp [f_need_figure, g_need_figure, fnM, startE, mIf, mNot, mB, mF, aCons, aNil, mThen, mLift, mVar, e1, bOf, sNx]
theorem Rim.sided {S R : List P} (h : Rim S R) {m : Int} (hm : 0 < m) : Sided R m := ⟨hm, h.three, by have := h.lenR; omega, fun e he => (edge_rd h.rd he).1⟩
theorem Rim.sm {S R : List P} (h : Rim S R) : ∀ r ∈ R, Sm 3 r := fun r hr => (h.bR r hr).sm (by decide)
theorem bi_m {m : Int} (h1 : 1 ≤ m) (h3 : m ≤ 3) : Bi m 2 := ⟨by omega⟩
theorem Rim.figure {S R : List P} (h : Rim S R) {m : Int} {s : PL.S} (h1 : 1 ≤ m) (h3 : m ≤ 3) : f_is_figure [said R m] s = some (.bool true, s) ∧ f_need_figure [said R m] s = some (.none, s) := by
  have bm := bi_m h1 h3
  have t := h.three
  refine e_is_figure (h.sided (by omega)) h.sm (by decide) (by decide) (fun e he => (edge_rd h.rd he).2 _ h.o) ?_
  refine e_hull_rim h.eq h.asc h.two (by omega) (by omega) (by decide) (by decide) h.sm (by have := h.lenR; omega) fun x y hx hy => ?_
  match R, hx, hy, h with
  | a :: b :: t, hx, hy, h =>
    cases hx
    cases hy
    exact (edge_rd h.rd (e := (x, y)) (by unfold edges; simp)).1
end WF
/-! corners of a rim, the greatest of a line over it -/
namespace WF
open PySem PySem.Spec PyProof.Rows L2 PL PLS
theorem infix_at {α : Type} {L : List α} {i : Nat} {a b c : α} (h1 : L[i]? = some a) (h2 : L[i + 1]? = some b) (h3 : L[i + 2]? = some c) : [a, b, c] <:+: L := by
  refine ⟨L.take i, L.drop (i + 3), ?_⟩
  have l1 := (List.getElem?_eq_some_iff.mp h1)
  have l2 := (List.getElem?_eq_some_iff.mp h2)
  have l3 := (List.getElem?_eq_some_iff.mp h3)
  obtain ⟨k1, e1⟩ := l1
  obtain ⟨k2, e2⟩ := l2
  obtain ⟨k3, e3⟩ := l3
  have d1 : L.drop i = a :: L.drop (i + 1) := by rw [← e1]; exact List.drop_eq_getElem_cons k1
  have d2 : L.drop (i + 1) = b :: L.drop (i + 2) := by rw [← e2]; exact List.drop_eq_getElem_cons k2
  have d3 : L.drop (i + 2) = c :: L.drop (i + 3) := by rw [← e3]; exact List.drop_eq_getElem_cons k3
  conv => rhs; rw [← List.take_append_drop i L, d1, d2, d3]
  simp
theorem Rim.wide {S R : List P} (h : Rim S R) : HU.Wide S := HU.wide_of h.asc h.two (by rw [← h.eq]; exact h.three)
/-- each corner has one before and one behind -/
theorem Rim.corner {S R : List P} (h : Rim S R) {t : P} (ht : t ∈ R) : ∃ p q, (p, t) ∈ edges R ∧ (t, q) ∈ edges R ∧ 0 < HU.det p t q := by
  obtain ⟨i, hi⟩ := List.mem_iff_getElem?.mp ht
  have hil := (List.getElem?_eq_some_iff.mp hi).1
  have h3 := h.three
  have rd := h.rd
  have wide := h.wide
  generalize hn : R.length = n at *
  have at0 := get_some (R := R) (i := 0) (by omega)
  have at1 := get_some (R := R) (i := 1) (by omega)
  have head : R.head? = some (R.getD 0 (0, 0)) := by rw [List.head?_eq_getElem?, at0]
  have L : ∀ j, j < n → (R ++ [R.getD 0 (0, 0), R.getD 1 (0, 0)])[j]? = R[j]? := fun j hj => List.getElem?_append_left (by omega)
  have Ln : (R ++ [R.getD 0 (0, 0), R.getD 1 (0, 0)])[n]? = some (R.getD 0 (0, 0)) := by
    rw [List.getElem?_append_right (by omega), hn, Nat.sub_self]; rfl
  have Ln1 : (R ++ [R.getD 0 (0, 0), R.getD 1 (0, 0)])[n + 1]? = some (R.getD 1 (0, 0)) := by
    rw [List.getElem?_append_right (by omega)]
    have : n + 1 - R.length = 1 := by omega
    rw [this]; rfl
  have eg : ∀ j, j < n → (edges R)[j]? = some (R.getD j (0, 0), R.getD (if j + 1 = n then 0 else j + 1) (0, 0)) := fun j hj => by
    have := edges_at R j (by omega)
    rw [hn] at this
    exact this
  have ti : t = R.getD i (0, 0) := by
    have := get_some (R := R) (i := i) (by omega)
    rw [hi] at this
    exact (Option.some.inj this)
  by_cases c0 : i = 0
  · subst c0
    refine ⟨R.getD (n - 1) (0, 0), R.getD 1 (0, 0), ?_, ?_, ?_⟩
    · have := eg (n - 1) (by omega)
      rw [if_pos (by omega)] at this
      rw [ti]
      exact List.mem_of_getElem? this
    · have := eg 0 (by omega)
      rw [if_neg (by omega)] at this
      rw [ti]
      exact List.mem_of_getElem? this
    · refine rd.three wide _ _ _ _ _ head at1 ?_
      rw [ti]
      refine infix_at (i := n - 1) ?_ ?_ ?_
      · rw [L _ (by omega)]; exact get_some (by omega)
      · rw [show n - 1 + 1 = n by omega]; exact Ln
      · rw [show n - 1 + 2 = n + 1 by omega]; exact Ln1
  · refine ⟨R.getD (i - 1) (0, 0), R.getD (if i + 1 = n then 0 else i + 1) (0, 0), ?_, ?_, ?_⟩
    · have := eg (i - 1) (by omega)
      rw [if_neg (by omega), show i - 1 + 1 = i by omega] at this
      rw [ti]
      exact List.mem_of_getElem? this
    · rw [ti]
      exact List.mem_of_getElem? (eg i (by omega))
    · refine rd.three wide _ _ _ _ _ head at1 ?_
      rw [ti]
      refine infix_at (i := i - 1) ?_ ?_ ?_
      · rw [L _ (by omega)]; exact get_some (by omega)
      · rw [show i - 1 + 1 = i by omega, L _ (by omega)]; exact get_some (by omega)
      · rw [show i - 1 + 2 = i + 1 by omega]
        by_cases c : i + 1 = n
        · rw [if_pos c, c]; exact Ln
        · rw [if_neg c, L _ (by omega)]; exact get_some (by omega)
theorem sup_alg {a b : Int} {p t q w : P} : HU.det p t q * (ln a b w - ln a b t) = HU.det p t w * (ln a b q - ln a b t) + HU.det t q w * (ln a b p - ln a b t) := by
  unfold HU.det ln
  grind
/-- what is greatest over the corners is so over all dots -/
theorem Rim.sup {S R : List P} (h : Rim S R) {a b : Int} {t : P} (ht : t ∈ R) (hm : ∀ r ∈ R, ln a b r ≤ ln a b t) : ∀ w ∈ S, ln a b w ≤ ln a b t := by
  intro w hw
  obtain ⟨p, q, e1, e2, d⟩ := h.corner ht
  have x1 := (edge_rd h.rd e1).2 w hw
  have x2 := (edge_rd h.rd e2).2 w hw
  have y1 := hm q (edge_mem e2).2
  have y2 := hm p (edge_mem e1).1
  have e := sup_alg (a := a) (b := b) (p := p) (t := t) (q := q) (w := w)
  dsimp only at x1 x2
  have z1 := Int.mul_nonpos_of_nonneg_of_nonpos x1 (show ln a b q - ln a b t ≤ 0 by omega)
  have z2 := Int.mul_nonpos_of_nonneg_of_nonpos x2 (show ln a b p - ln a b t ≤ 0 by omega)
  have : HU.det p t q * (ln a b w - ln a b t) ≤ 0 := by omega
  by_cases c : ln a b w ≤ ln a b t
  · exact c
  · have := Int.mul_pos d (show 0 < ln a b w - ln a b t by omega)
    omega
/-- the greatest, from nought on -/
def mx (a b : Int) (R : List P) : Int := R.foldl (fun z r => max z (ln a b r)) 0
theorem fold_max {a b : Int} : ∀ (R : List P) (z : Int), z ≤ R.foldl (fun z r => max z (ln a b r)) z ∧ (∀ r ∈ R, ln a b r ≤ R.foldl (fun z r => max z (ln a b r)) z) ∧ (R.foldl (fun z r => max z (ln a b r)) z = z ∨ ∃ r ∈ R, R.foldl (fun z r => max z (ln a b r)) z = ln a b r)
  | [], z => ⟨Int.le_refl _, by simp, .inl rfl⟩
  | r :: R, z => by
    obtain ⟨h1, h2, h3⟩ := fold_max (a := a) (b := b) R (max z (ln a b r))
    rw [List.foldl_cons]
    refine ⟨by omega, fun q hq => ?_, ?_⟩
    · rcases List.mem_cons.mp hq with e | e
      · rw [e]; omega
      · exact h2 q e
    · rcases h3 with e | ⟨q, hq, e⟩
      · by_cases c : z ≤ ln a b r
        · exact .inr ⟨r, by simp, by rw [e]; omega⟩
        · exact .inl (by rw [e]; omega)
      · exact .inr ⟨q, List.mem_cons_of_mem _ hq, e⟩
theorem Rim.mx {S R : List P} (h : Rim S R) (a b : Int) : ∃ t ∈ R, WF.mx a b R = ln a b t ∧ (∀ r ∈ R, ln a b r ≤ ln a b t) ∧ 0 ≤ ln a b t := by
  obtain ⟨h1, h2, h3⟩ := fold_max (a := a) (b := b) R 0
  have key : ∀ t ∈ R, (∀ r ∈ R, ln a b r ≤ ln a b t) → 0 ≤ ln a b t := fun t ht hm => by
    have := h.sup ht hm (0, 0) h.o
    have e : ln a b (0, 0) = 0 := by unfold ln; simp
    omega
  have big : ∃ t ∈ R, ∀ r ∈ R, ln a b r ≤ ln a b t := by
    have : ∀ L : List P, L ≠ [] → ∃ t ∈ L, ∀ r ∈ L, ln a b r ≤ ln a b t := by
      intro L
      induction L with
      | nil => intro z; exact absurd rfl z
      | cons x L ih =>
        intro _
        by_cases c : L = []
        · subst c; exact ⟨x, by simp, by simp⟩
        · obtain ⟨t, ht, hm⟩ := ih c
          by_cases d : ln a b x ≤ ln a b t
          · exact ⟨t, List.mem_cons_of_mem _ ht, fun r hr => by
              rcases List.mem_cons.mp hr with e | e
              · rw [e]; exact d
              · exact hm r e⟩
          · exact ⟨x, by simp, fun r hr => by
              rcases List.mem_cons.mp hr with e | e
              · rw [e]; exact Int.le_refl _
              · have := hm r e; omega⟩
    refine this R fun z => ?_
    have := h.three
    rw [z] at this
    simp at this
  obtain ⟨t, ht, hm⟩ := big
  have t0 := key t ht hm
  refine ⟨t, ht, ?_, hm, t0⟩
  have h2t := h2 t ht
  unfold WF.mx
  rcases h3 with e | ⟨r, hr, e⟩
  · omega
  · have := hm r hr; omega
end WF
/-! times: the edge that is met, and what pairs of corners tell -/
namespace WF
open PySem PySem.Spec PyProof.Rows L2 PL PLS
def enx (e : P × P) : Int := e.2.2 - e.1.2
def eny (e : P × P) : Int := e.1.1 - e.2.1
/-- how far a way goes out over an edge -/
def go (e : P × P) (v : P) : Int := ln (enx e) (eny e) v
def eH (e : P × P) : Int := go e e.1
theorem go_det (e : P × P) (q : P) : go e q = eH e - HU.det e.1 e.2 q := by unfold eH go ln enx eny HU.det; grind
theorem eH_cr (e : P × P) : eH e = HU.cr e.1 e.2 := by unfold eH go ln enx eny HU.cr; grind
theorem eH_o (e : P × P) : eH e = HU.det e.1 e.2 (0, 0) := by unfold eH go ln enx eny HU.det; grind
theorem go_two (e : P × P) (v : P) : go e v = HU.cr v e.2 + HU.cr e.1 v := by unfold go ln enx eny HU.cr; grind
/-- a round polygon with nought within -/
structure Fig (R : List P) : Prop where
  three : 3 ≤ R.length
  len : R.length ≤ 40
  bx : ∀ r ∈ R, Bx 4 r
  ne : ∀ e ∈ edges R, e.1 ≠ e.2
  on : ∀ e ∈ edges R, ∀ q ∈ R, 0 ≤ HU.det e.1 e.2 q
  o : ∀ e ∈ edges R, 0 ≤ HU.det e.1 e.2 (0, 0)
  nb : ∀ e ∈ edges R, ∃ z c, (z, e.1) ∈ edges R ∧ (e.2, c) ∈ edges R ∧ 0 < HU.det z e.1 e.2 ∧ 0 < HU.det e.1 e.2 c
theorem Fig.le {R : List P} (F : Fig R) {e : P × P} (he : e ∈ edges R) {q : P} (hq : q ∈ R) : go e q ≤ eH e := by
  have := F.on e he q hq
  have := go_det e q
  omega
theorem Fig.h0 {R : List P} (F : Fig R) {e : P × P} (he : e ∈ edges R) : 0 ≤ eH e := by
  rw [eH_o]; exact F.o e he
theorem fst_edge {R : List P} {t : P} (ht : t ∈ R) : ∃ q, (t, q) ∈ edges R := by
  have h : t ∈ (edges R).map Prod.fst := by rw [edges_fst]; exact ht
  obtain ⟨e, he, rfl⟩ := List.mem_map.mp h
  exact ⟨e.2, he⟩
theorem line_par {X Y : Int} {z p t : P} (h0 : X ≠ 0 ∨ Y ≠ 0) (h1 : HU.cr (X, Y) z = HU.cr (X, Y) p) (h2 : HU.cr (X, Y) p = HU.cr (X, Y) t) : HU.det z p t = 0 := by
  unfold HU.cr at h1 h2
  dsimp only at h1 h2
  have a1 : X * (p.2 - z.2) = Y * (p.1 - z.1) := by grind
  have a2 : X * (t.2 - z.2) = Y * (t.1 - z.1) := by grind
  rcases h0 with h | h
  · have : X * HU.det z p t = 0 := by
      have e : X * HU.det z p t = (p.1 - z.1) * (X * (t.2 - z.2)) - (X * (p.2 - z.2)) * (t.1 - z.1) := by unfold HU.det; grind
      rw [e, a1, a2]; grind
    rcases Int.mul_eq_zero.mp this with k | k
    · exact absurd k h
    · exact k
  · have : Y * HU.det z p t = 0 := by
      have e : Y * HU.det z p t = (Y * (p.1 - z.1)) * (t.2 - z.2) - (p.2 - z.2) * (Y * (t.1 - z.1)) := by unfold HU.det; grind
      rw [e, ← a1, ← a2]; grind
    rcases Int.mul_eq_zero.mp this with k | k
    · exact absurd k h
    · exact k
theorem max_of {f : P → Int} : ∀ L : List P, L ≠ [] → ∃ t ∈ L, ∀ r ∈ L, f r ≤ f t
  | [], z => absurd rfl z
  | x :: L, _ => by
    by_cases c : L = []
    · subst c; exact ⟨x, by simp, by simp⟩
    · obtain ⟨t, ht, hm⟩ := max_of (f := f) L c
      by_cases d : f x ≤ f t
      · exact ⟨t, List.mem_cons_of_mem _ ht, fun r hr => by
          rcases List.mem_cons.mp hr with e | e
          · rw [e]; exact d
          · exact hm r e⟩
      · exact ⟨x, by simp, fun r hr => by
          rcases List.mem_cons.mp hr with e | e
          · rw [e]; exact Int.le_refl _
          · have := hm r e; omega⟩
theorem Fig.some {R : List P} (F : Fig R) : R ≠ [] := fun z => by have := F.three; rw [z] at this; simp at this
/-- each way but nought goes out over some edge -/
theorem Fig.out {R : List P} (F : Fig R) {v : P} (hv : v.1 ≠ 0 ∨ v.2 ≠ 0) : ∃ e ∈ edges R, 0 < go e v := by
  refine Classical.byContradiction fun hno => ?_
  have hle : ∀ e ∈ edges R, HU.cr v e.2 ≤ HU.cr v e.1 := fun e he => by
    have h1 : ¬ 0 < go e v := fun z => hno ⟨e, he, z⟩
    have h2 := go_two e v
    have h3 : HU.cr e.1 v = - HU.cr v e.1 := by unfold HU.cr; grind
    omega
  obtain ⟨t, ht, hm⟩ := max_of (f := fun r => HU.cr v r) R F.some
  obtain ⟨q, hq⟩ := fst_edge ht
  obtain ⟨p, _, e1, _, _, _⟩ := F.nb _ hq
  obtain ⟨z, _, e2, _, d, _⟩ := F.nb _ e1
  have a1 := hle _ e1
  have a2 := hle _ e2
  have b1 := hm p (edge_mem e1).1
  have b2 := hm z (edge_mem e2).1
  dsimp only at *
  have := line_par (z := z) (p := p) (t := t) hv (by show HU.cr v z = HU.cr v p; omega) (by show HU.cr v p = HU.cr v t; omega)
  omega
/-- the edge that a way meets -/
structure Met (R : List P) (v : P) (e : P × P) : Prop where
  mem : e ∈ edges R
  h : 0 < eH e
  g : 0 < go e v
  top : ∀ e' ∈ edges R, 0 < eH e' → go e' v * eH e ≤ go e v * eH e'
  flat : ∀ e' ∈ edges R, eH e' = 0 → go e' v ≤ 0
theorem met_a {e : P × P} {z v : P} : eH e * go (z, e.1) v = go e v * eH (z, e.1) - HU.cr e.1 v * HU.det z e.1 e.2 := by
  unfold eH go ln enx eny HU.cr HU.det; grind
theorem met_b {e : P × P} {c v : P} : eH e * go (e.2, c) v = go e v * eH (e.2, c) - HU.cr v e.2 * HU.det e.1 e.2 c := by
  unfold eH go ln enx eny HU.cr HU.det; grind
theorem Met.cone {R : List P} (F : Fig R) {v : P} {e : P × P} (M : Met R v e) : 0 ≤ HU.cr v e.2 ∧ 0 ≤ HU.cr e.1 v := by
  obtain ⟨z, c, e1, e2, d1, d2⟩ := F.nb e M.mem
  have key : ∀ e' ∈ edges R, ∀ x d : Int, 0 < d → eH e * go e' v = go e v * eH e' - x * d → 0 ≤ x := fun e' he' x d hd hx => by
    by_cases c : 0 ≤ x
    · exact c
    · exfalso
      have k := Int.mul_pos (show 0 < -x by omega) hd
      rw [Int.neg_mul] at k
      have h0 := F.h0 he'
      rcases Int.lt_or_eq_of_le h0 with h | h
      · have := M.top e' he' h
        rw [Int.mul_comm] at this
        omega
      · have f := M.flat e' he' h.symm
        rw [← h, Int.mul_zero] at hx
        have := Int.mul_nonpos_of_nonneg_of_nonpos (Int.le_of_lt M.h) f
        omega
  exact ⟨key _ e2 _ _ d2 met_b, key _ e1 _ _ d1 met_a⟩
/-- a pair of corners whose cone has the way -/
def cpos (a b v : P) : Prop := (0 < HU.cr a b ∧ 0 ≤ HU.cr v b ∧ 0 ≤ HU.cr a v) ∨ (HU.cr a b < 0 ∧ HU.cr v b ≤ 0 ∧ HU.cr a v ≤ 0)
theorem cone_eq (e : P × P) (a b v : P) : HU.cr a b * go e v = HU.cr v b * go e a + HU.cr a v * go e b := by unfold go ln HU.cr; grind
theorem pair_low {R : List P} (F : Fig R) {e : P × P} (he : e ∈ edges R) {a b v : P} (ha : a ∈ R) (hb : b ∈ R) (h : 0 < HU.cr a b) (h1 : 0 ≤ HU.cr v b) (h2 : 0 ≤ HU.cr a v) : go e v * HU.cr a b ≤ (HU.cr v b + HU.cr a v) * eH e := by
  have x := cone_eq e a b v
  have y1 := Int.mul_le_mul_of_nonneg_left (F.le he ha) h1
  have y2 := Int.mul_le_mul_of_nonneg_left (F.le he hb) h2
  have : (HU.cr v b + HU.cr a v) * eH e = HU.cr v b * eH e + HU.cr a v * eH e := by grind
  have : go e v * HU.cr a b = HU.cr a b * go e v := Int.mul_comm _ _
  omega
theorem cr_anti (a b : P) : HU.cr b a = - HU.cr a b := by unfold HU.cr; grind
/-- the way never ends where an edge through nought bars it -/
theorem pair_flat {R : List P} (F : Fig R) {e : P × P} (he : e ∈ edges R) {a b v : P} (ha : a ∈ R) (hb : b ∈ R) (h0 : eH e = 0) (hg : 0 < go e v) (h : 0 < HU.cr a b) (h1 : 0 ≤ HU.cr v b) (h2 : 0 ≤ HU.cr a v) : False := by
  have := pair_low F he ha hb h h1 h2
  rw [h0, Int.mul_zero] at this
  have := Int.mul_pos hg h
  omega
theorem Rim.fig {S R : List P} (h : Rim S R) : Fig R := by
  refine ⟨h.three, h.lenR, h.bR, fun e he => (edge_rd h.rd he).1, fun e he q hq => (edge_rd h.rd he).2 q (h.rd.sub q hq), fun e he => (edge_rd h.rd he).2 _ h.o, fun e he => ?_⟩
  have hel := edges_len R
  have h3 := h.three
  have rd := h.rd
  have wide := h.wide
  obtain ⟨i, hi⟩ := List.mem_iff_getElem?.mp he
  have hil : i < R.length := by
    have := (List.getElem?_eq_some_iff.mp hi).1
    omega
  rw [edges_at R i hil] at hi
  generalize hn : R.length = n at *
  have at0 := get_some (R := R) (i := 0) (by omega)
  have at1 := get_some (R := R) (i := 1) (by omega)
  have head : R.head? = some (R.getD 0 (0, 0)) := by rw [List.head?_eq_getElem?, at0]
  have L : ∀ j, j < n → (R ++ [R.getD 0 (0, 0), R.getD 1 (0, 0)])[j]? = R[j]? := fun j hj => List.getElem?_append_left (by omega)
  have Ln : (R ++ [R.getD 0 (0, 0), R.getD 1 (0, 0)])[n]? = some (R.getD 0 (0, 0)) := by
    rw [List.getElem?_append_right (by omega), hn, Nat.sub_self]; rfl
  have Ln1 : (R ++ [R.getD 0 (0, 0), R.getD 1 (0, 0)])[n + 1]? = some (R.getD 1 (0, 0)) := by
    rw [List.getElem?_append_right (by omega)]
    have : n + 1 - R.length = 1 := by omega
    rw [this]; rfl
  have eg : ∀ j, j < n → (R.getD j (0, 0), R.getD (if j + 1 = n then 0 else j + 1) (0, 0)) ∈ edges R := fun j hj => by
    have := edges_at R j (by omega)
    rw [hn] at this
    exact List.mem_of_getElem? this
  -- corners by number, round and round
  have tri : ∀ j, j < n → 0 < HU.det (R.getD j (0, 0)) (R.getD (if j + 1 = n then 0 else j + 1) (0, 0)) (R.getD (if j + 1 = n then 1 else if j + 2 = n then 0 else j + 2) (0, 0)) := fun j hj => by
    refine rd.three wide _ _ _ _ _ head at1 (infix_at (i := j) ?_ ?_ ?_)
    · rw [L j hj]; exact get_some (by omega)
    · by_cases c : j + 1 = n
      · rw [if_pos c, c]; exact Ln
      · rw [if_neg c, L _ (by omega)]; exact get_some (by omega)
    · by_cases c : j + 1 = n
      · rw [if_pos c, show j + 2 = n + 1 by omega]; exact Ln1
      · rw [if_neg c]
        by_cases c2 : j + 2 = n
        · rw [if_pos c2, c2]; exact Ln
        · rw [if_neg c2, L _ (by omega)]; exact get_some (by omega)
  have e1 : e.1 = R.getD i (0, 0) := by rw [← Option.some.inj hi]
  have e2 : e.2 = R.getD (if i + 1 = n then 0 else i + 1) (0, 0) := by rw [← Option.some.inj hi]
  rw [e1, e2]
  refine ⟨R.getD (if i = 0 then n - 1 else i - 1) (0, 0), R.getD (if i + 1 = n then 1 else if i + 2 = n then 0 else i + 2) (0, 0), ?_, ?_, ?_, tri i hil⟩
  · by_cases c : i = 0
    · have := eg (n - 1) (by omega)
      rw [if_pos (by omega)] at this
      rw [if_pos c, c]
      exact this
    · have := eg (i - 1) (by omega)
      rw [if_neg (by omega), show i - 1 + 1 = i by omega] at this
      rw [if_neg c]
      exact this
  · by_cases c : i + 1 = n
    · have := eg 0 (by omega)
      rw [if_neg (by omega)] at this
      rw [if_pos c, if_pos c]
      exact this
    · have := eg (i + 1) (by omega)
      rw [if_neg c, if_neg c]
      exact this
  · by_cases c : i = 0
    · have := tri (n - 1) (by omega)
      rw [if_pos (by omega), if_pos (by omega)] at this
      rw [if_pos c, c, if_neg (by omega)]
      exact this
    · have := tri (i - 1) (by omega)
      rw [if_neg (by omega), if_neg (by omega), show i - 1 + 1 = i by omega, show i - 1 + 2 = i + 1 by omega] at this
      rw [if_neg c]
      exact this
end WF
/-! the program's times by sides -/
namespace WF
open PySem PySem.Spec PyProof.Rows L2 PL PLS
theorem forL_rt {p : Pat} {body : M Out} {x : D} {xs : List D} {ρ ρ1 : PL.Env} {s s1 s2 : S} {d : D} (h1 : bnd p x ρ s = some (ρ1, s1)) (h2 : body ρ1 s1 = some (.rt d, s2)) : forL p body (x :: xs) ρ s = some (.rt d, s2) := by
  conv => lhs; unfold forL
  rw [h1]
  simp only [h2]
def w1 (m : Int) (e : P × P) : Int := m * (e.2.2 - e.1.2)
def w2 (m : Int) (e : P × P) : Int := -(m * (e.2.1 - e.1.1))
def w3 (e : P × P) : Int := (e.2.2 - e.1.2) * e.1.1 - (e.2.1 - e.1.1) * e.1.2
def wG (m : Int) (e : P × P) : Int := gcdI3 (w1 m e) (w2 m e) (w3 e)
theorem sd_w (m : Int) (e : P × P) : sd m e.1 e.2 = pD (w1 m e / wG m e) (w2 m e / wG m e) (w3 e / wG m e) := rfl
theorem en_ne {e : P × P} (h : e.1 ≠ e.2) : enx e ≠ 0 ∨ eny e ≠ 0 := by
  unfold enx eny
  by_cases c : e.2.2 - e.1.2 = 0
  · refine .inr fun c2 => h ?_
    exact Prod.ext (by omega) (by omega)
  · exact .inl c
theorem w_eqs (m : Int) (e : P × P) : wG m e * (w1 m e / wG m e) = m * enx e ∧ wG m e * (w2 m e / wG m e) = m * eny e ∧ wG m e * (w3 e / wG m e) = eH e := by
  refine ⟨Int.mul_ediv_cancel' gcd3_d1, ?_, ?_⟩
  · have : wG m e * (w2 m e / wG m e) = w2 m e := Int.mul_ediv_cancel' gcd3_d2
    rw [this]; unfold w2 eny; grind
  · have : wG m e * (w3 e / wG m e) = w3 e := Int.mul_ediv_cancel' gcd3_d3
    rw [this]; unfold w3 eH go ln enx eny; grind
theorem wG_pos {m : Int} {e : P × P} (hm : 0 < m) (h : e.1 ≠ e.2) : 0 < wG m e := by
  rcases en_ne h with c | c
  · exact (gcd3_le1 (b := w2 m e) (c := w3 e) (show w1 m e ≠ 0 from Int.mul_ne_zero (by omega) c)).1
  · refine (gcd3_le2 (a := w1 m e) (c := w3 e) (show w2 m e ≠ 0 from ?_)).1
    have e2 : w2 m e = m * eny e := by unfold w2 eny; grind
    rw [e2]
    exact Int.mul_ne_zero (by omega) c
theorem w_bits {m : Int} {e : P × P} {j k : Nat} [bm : Bi m j] (h1 : Sm k e.1) (h2 : Sm k e.2) : Bi (w1 m e / wG m e) (j + (k + k + 1)) ∧ Bi (w2 m e / wG m e) (j + (k + k + 1)) ∧ Bi (w3 e / wG m e) ((k + k + 1 + k) + (k + k + 1 + k) + 1) := by
  obtain ⟨b1, b2, b3⟩ := bi_sd (m := m) h1 h2
  exact ⟨⟨Bi.div_le b1.h⟩, ⟨Bi.div_le b2.h⟩, ⟨Bi.div_le b3.h⟩⟩
theorem less_frac {a b c d : Int} (hb : 0 < b) (hd : 0 < d) : nmN a b * nmD c d < nmN c d * nmD a b ↔ a * d < c * b := by
  have g1 := gcd_pos (a := a) hb
  have g2 := gcd_pos (a := c) hd
  have a1 := nmN_g a b
  have a2 := nmD_g a b
  have b1 := nmN_g c d
  have b2 := nmD_g c d
  have e1 : (gcdI a b * gcdI c d) * (nmN a b * nmD c d) = a * d := by rw [show (gcdI a b * gcdI c d) * (nmN a b * nmD c d) = (gcdI a b * nmN a b) * (gcdI c d * nmD c d) by grind, a1, b2]
  have e2 : (gcdI a b * gcdI c d) * (nmN c d * nmD a b) = c * b := by rw [show (gcdI a b * gcdI c d) * (nmN c d * nmD a b) = (gcdI c d * nmN c d) * (gcdI a b * nmD a b) by grind, b1, a2]
  rw [← Int.mul_lt_mul_left (Int.mul_pos g1 g2), e1, e2]
theorem nm_same {a b c d : Int} (hb : 0 < b) (hd : 0 < d) (h : a * d = c * b) : nmN a b = nmN c d ∧ nmD a b = nmD c d := by
  have e1 := nmN_mul (c := d) (a := a) (b := b) hd
  have e2 := nmN_mul (c := b) (a := c) (b := d) hb
  have f1 := nmD_mul (c := d) (a := a) (b := b) hd
  have f2 := nmD_mul (c := b) (a := c) (b := d) hb
  have x : d * a = b * c := by rw [Int.mul_comm d a, h, Int.mul_comm]
  have y : d * b = b * d := Int.mul_comm _ _
  rw [x, y] at e1 f1
  exact ⟨e1.symm.trans e2, f1.symm.trans f2⟩
/-- the time over an edge -/
def tm (m w : Int) (v : P) (e : P × P) : D := fD (nmN (m * go e v) (eH e * w)) (nmD (m * go e v) (eH e * w))
def TE (X Y : D) (x y w : Int) (mo me : D) (i a b h g wa : Option Cell) : PL.Env := [cD X, cD Y, cI x, cI y, cI w, cD mo, cD me, i, a, b, h, g, wa]
theorem gain_eq {m : Int} {e : P × P} {v : P} : wG m e * (w1 m e / wG m e * v.1 + w2 m e / wG m e * v.2) = m * go e v := by
  obtain ⟨a1, a2, _⟩ := w_eqs m e
  have : wG m e * (w1 m e / wG m e * v.1 + w2 m e / wG m e * v.2) = (wG m e * (w1 m e / wG m e)) * v.1 + (wG m e * (w2 m e / wG m e)) * v.2 := by grind
  rw [this, a1, a2]; unfold go ln; grind
theorem pos_scale {g x y : Int} (hg : 0 < g) (h : g * x = y) : 0 < x ↔ 0 < y := by
  constructor
  · intro k
    rw [← h]; exact Int.mul_pos hg k
  · intro k
    by_cases c : 0 < x
    · exact c
    · have := Int.mul_nonpos_of_nonneg_of_nonpos (Int.le_of_lt hg) (show x ≤ 0 by omega)
      omega
theorem pos_m {m x : Int} (hm : 0 < m) : 0 < m * x ↔ 0 < x := (pos_scale hm rfl).symm
section
variable {m w : Int} {v : P} {e : P × P} {X Y : D} {mo me : D} {g0 wa : Option Cell} {s : S} {j k l i : Nat}
theorem time_env [bm : Bi m j] (hm : 0 < m) (hw : 0 < w) (h : e.1 ≠ e.2) (h1 : Sm k e.1) (h2 : Sm k e.2) (b1 : Bi v.1 l) (b2 : Bi v.2 l) [bw : Bi w i] (hb : j + k + l + i ≤ 200) :
    dMul (.int (w1 m e / wG m e)) (.int v.1) = some (.int (w1 m e / wG m e * v.1)) ∧ dMul (.int (w2 m e / wG m e)) (.int v.2) = some (.int (w2 m e / wG m e * v.2)) ∧ dMul (.int (w3 e / wG m e)) (.int w) = some (.int (w3 e / wG m e * w)) ∧
    (0 < eH e → f_ratio [.int (w1 m e / wG m e * v.1 + w2 m e / wG m e * v.2), .int (w3 e / wG m e * w)] s = some (tm m w v e, s)) ∧
    (0 < w3 e / wG m e ↔ 0 < eH e) ∧ (0 < w1 m e / wG m e * v.1 + w2 m e / wG m e * v.2 ↔ 0 < go e v) := by
  obtain ⟨c1, c2, c3⟩ := w_bits (m := m) h1 h2
  obtain ⟨a1, a2, a3⟩ := w_eqs m e
  have G := wG_pos hm h
  have gq := gain_eq (m := m) (e := e) (v := v)
  have r1 := pos_scale G a3
  have r2 := (pos_scale G gq).trans (pos_m hm)
  refine ⟨mulB (by omega), mulB (by omega), mulB (by omega), fun hH => ?_, r1, r2⟩
  have hp := Int.mul_pos (r1.mpr hH) hw
  have b3 : Bi (w3 e / wG m e * w) ((k + k + 1 + k) + (k + k + 1 + k) + 1 + i) := biMul
  rw [e_ratio hp (by omega)]
  have q : wG m e * (w3 e / wG m e * w) = eH e * w := by rw [← a3]; grind
  unfold tm
  rw [← nmN_mul G, ← nmD_mul G, gq, q]
theorem tm_bits [bm : Bi m j] [bw : Bi w i] (h1 : Sm k e.1) (h2 : Sm k e.2) (b1 : Bi v.1 l) (b2 : Bi v.2 l) : Bi (m * go e v) (j + ((k + k + 1 + l) + (k + k + 1 + l) + 1)) ∧ Bi (eH e * w) ((k + k + 1 + k) + (k + k + 1 + k) + 1 + i) := by
  have := h1.1
  have := h1.2
  have := h2.1
  have := h2.2
  have x : Bi (enx e) (k + k + 1) := biSub
  have y : Bi (eny e) (k + k + 1) := biSub
  have g : Bi (go e v) ((k + k + 1 + l) + (k + k + 1 + l) + 1) := biAdd
  have h : Bi (eH e) ((k + k + 1 + k) + (k + k + 1 + k) + 1) := biAdd
  exact ⟨biMul, biMul⟩
end
end WF
namespace WF
open PySem PySem.Spec PyProof.Rows L2 PL PLS
theorem time_step {a b h x y w : Int} {X Y mo me tmv : D} {g0 wa : Option Cell} {s : S} {i : Int} {H G : Prop} [Decidable H] [Decidable G] {L : Bool}
    (m1 : dMul (.int a) (.int x) = some (.int (a * x))) (m2' : dMul (.int b) (.int y) = some (.int (b * y))) (m3 : dMul (.int h) (.int w) = some (.int (h * w)))
    (hr : H → f_ratio [.int (a * x + b * y), .int (h * w)] s = some (tmv, s)) (hH : 0 < h ↔ H) (hG : 0 < a * x + b * y ↔ G) (hl : H → f_is_less [mo, tmv] s = some (.bool L, s)) (it : isD tmv = true) :
    ∃ g' wa', lb_time_and_side_0 (TE X Y x y w mo me (cI i) (cI a) (cI b) (cI h) g0 wa) s =
      some (if H then (if L = true then .nx (TE X Y x y w tmv (.int i) (cI i) (cI a) (cI b) (cI h) g' wa') else .nx (TE X Y x y w mo me (cI i) (cI a) (cI b) (cI h) g' wa')) else if G then .rt (.tuple [.none, .none]) else .nx (TE X Y x y w mo me (cI i) (cI a) (cI b) (cI h) g' wa'), s) := by
  by_cases c : H
  · have hp := hH.mpr c
    have r := hr c
    have l := hl c
    refine ⟨cI (a * x + b * y), cD tmv, ?_⟩
    rw [if_pos c]
    cases L with
    | true => simp [lb_time_and_side_0, TE, sSeq, sAsg, m2, mThen, mLift, mVar, m1, m2', m3, dAdd, bnd, mIf, mB, mC, dCmp, bOf, hp, mF, aCons, aNil, r, l, sPar, it, isD]
    | false => simp [lb_time_and_side_0, TE, sSeq, sAsg, m2, mThen, mLift, mVar, m1, m2', m3, dAdd, bnd, mIf, mB, mC, dCmp, bOf, hp, mF, aCons, aNil, r, l, sNx]
  · have hp : ¬ 0 < h := fun z => c (hH.mp z)
    refine ⟨cI (a * x + b * y), wa, ?_⟩
    rw [if_neg c]
    by_cases d : G
    · have gp := hG.mpr d
      rw [if_pos d]
      simp [lb_time_and_side_0, TE, sSeq, sAsg, m2, mThen, mLift, mVar, m1, m2', dAdd, bnd, mIf, mB, mC, dCmp, bOf, hp, gp, sRet, mTup, aCons, aNil, isDs, isD, le_size]
    · have gp : ¬ 0 < a * x + b * y := fun z => d (hG.mp z)
      rw [if_neg d]
      simp [lb_time_and_side_0, TE, sSeq, sAsg, m2, mThen, mLift, mVar, m1, m2', dAdd, bnd, mIf, mB, mC, dCmp, bOf, hp, gp, sNx]
theorem less_zero {m w : Int} {v : P} {e : P × P} {s : S} {j k l i : Nat} [bm : Bi m j] [bw : Bi w i] (hm : 0 < m) (hw : 0 < w) (h1 : Sm k e.1) (h2 : Sm k e.2) (b1 : Bi v.1 l) (b2 : Bi v.2 l) (hb : j + k + l + i ≤ 200) (hH : 0 < eH e) : f_is_less [fD 0 1, tm m w v e] s = some (.bool (decide (0 < go e v)), s) := by
  obtain ⟨c1, c2⟩ := tm_bits (m := m) (w := w) h1 h2 b1 b2
  have hp := Int.mul_pos hH hw
  unfold tm
  rw [e_is_less (a := 0) (b := 1) (c := nmN (m * go e v) (eH e * w)) (d := nmD (m * go e v) (eH e * w)) (by omega) (by omega)]
  have : (0 * nmD (m * go e v) (eH e * w) < nmN (m * go e v) (eH e * w) * 1) ↔ 0 < go e v := by
    rw [Int.zero_mul, Int.mul_one, pos_scale (gcd_pos hp) (nmN_g _ _)]
    exact pos_m hm
  rw [decide_eq_decide.mpr this]
theorem less_tm {m w : Int} {v : P} {e e0 : P × P} {s : S} {j k l i : Nat} [bm : Bi m j] [bw : Bi w i] (hm : 0 < m) (hw : 0 < w) (h1 : Sm k e.1) (h2 : Sm k e.2) (g1 : Sm k e0.1) (g2 : Sm k e0.2) (b1 : Bi v.1 l) (b2 : Bi v.2 l) (hb : j + k + l + i ≤ 200) (hH : 0 < eH e) (hH0 : 0 < eH e0) : f_is_less [tm m w v e0, tm m w v e] s = some (.bool (decide (go e0 v * eH e < go e v * eH e0)), s) := by
  obtain ⟨c1, c2⟩ := tm_bits (m := m) (w := w) h1 h2 b1 b2
  obtain ⟨d1, d2⟩ := tm_bits (m := m) (w := w) g1 g2 b1 b2
  have hp := Int.mul_pos hH hw
  have hp0 := Int.mul_pos hH0 hw
  unfold tm
  rw [e_is_less (a := nmN (m * go e0 v) (eH e0 * w)) (b := nmD (m * go e0 v) (eH e0 * w)) (c := nmN (m * go e v) (eH e * w)) (d := nmD (m * go e v) (eH e * w)) (by omega) (by omega)]
  have : (nmN (m * go e0 v) (eH e0 * w) * nmD (m * go e v) (eH e * w) < nmN (m * go e v) (eH e * w) * nmD (m * go e0 v) (eH e0 * w)) ↔ (go e0 v * eH e < go e v * eH e0) := by
    rw [less_frac hp0 hp]
    have k := Int.mul_pos hm hw
    have e1 : m * go e0 v * (eH e * w) = m * w * (go e0 v * eH e) := by grind
    have e2 : m * go e v * (eH e0 * w) = m * w * (go e v * eH e0) := by grind
    rw [e1, e2, Int.mul_lt_mul_left k]
  rw [decide_eq_decide.mpr this]
/-- what is known behind some edges -/
def Seen (R : List P) (m w : Int) (v : P) (L : List (P × P)) (mo me : D) : Prop :=
  (mo = fD 0 1 ∧ me = .none ∧ ∀ e ∈ L, go e v ≤ 0) ∨ ∃ (i : Nat) (e0 : P × P), mo = tm m w v e0 ∧ me = .int i ∧ (edges R)[i]? = some e0 ∧ 0 < eH e0 ∧ 0 < go e0 v ∧ (∀ e ∈ L, 0 < eH e → go e v * eH e0 ≤ go e0 v * eH e) ∧ ∀ e ∈ L, eH e = 0 → go e v ≤ 0
theorem Seen.flat {R : List P} {m w : Int} {v : P} {L : List (P × P)} {mo me : D} (S : Seen R m w v L mo me) : ∀ e ∈ L, eH e = 0 → go e v ≤ 0 := by
  rcases S with ⟨_, _, h⟩ | ⟨i, e0, _, _, _, _, _, _, h⟩
  · exact fun e he _ => h e he
  · exact h
section
variable {R : List P} {m w : Int} {v : P} {X Y : D} {j k l i0 : Nat}
theorem time_loop [bm : Bi m j] [bw : Bi w i0] (F : Fig R) (hR : ∀ r ∈ R, Sm k r) (hm : 0 < m) (hw : 0 < w) (b1 : Bi v.1 l) (b2 : Bi v.2 l) (hb : j + k + l + i0 ≤ 200) {s : S} : ∀ (L2 L1 : List (P × P)) (mo me : D) (i a b h g wa : Option Cell), L1 ++ L2 = edges R → Seen R m w v L1 mo me →
    (∃ e ∈ edges R, eH e = 0 ∧ 0 < go e v) ∧ forL (.tp [.nm 7, .tp [.nm 8, .nm 9, .nm 10]]) lb_time_and_side_0 (enD L1.length (L2.map fun e => sd m e.1 e.2)) (TE X Y v.1 v.2 w mo me i a b h g wa) s = some (.rt (.tuple [.none, .none]), s) ∨
    ∃ mo' me' i' a' b' h' g' wa', Seen R m w v (edges R) mo' me' ∧ forL (.tp [.nm 7, .tp [.nm 8, .nm 9, .nm 10]]) lb_time_and_side_0 (enD L1.length (L2.map fun e => sd m e.1 e.2)) (TE X Y v.1 v.2 w mo me i a b h g wa) s = some (.nx (TE X Y v.1 v.2 w mo' me' i' a' b' h' g' wa'), s)
  | [], L1, mo, me, i, a, b, h, g, wa, hL, hS => by
    rw [List.append_nil] at hL
    subst hL
    exact .inr ⟨mo, me, i, a, b, h, g, wa, hS, rfl⟩
  | e :: L2, L1, mo, me, i, a, b, h, g, wa, hL, hS => by
    have he : e ∈ edges R := by rw [← hL]; simp
    have hmem := edge_mem he
    have h1 := hR _ hmem.1
    have h2 := hR _ hmem.2
    have hat : (edges R)[L1.length]? = some e := by rw [← hL]; simp
    obtain ⟨k1, k2, k3, k4, k5, k6⟩ := time_env (m := m) (w := w) (v := v) (s := s) hm hw (F.ne e he) h1 h2 b1 b2 hb
    have hh := F.h0 he
    have e0 : bnd (.tp [.nm 7, .tp [.nm 8, .nm 9, .nm 10]]) (.tuple [.int (L1.length : Nat), sd m e.1 e.2]) (TE X Y v.1 v.2 w mo me i a b h g wa) s = some (TE X Y v.1 v.2 w mo me (cI (L1.length : Nat)) (cI (w1 m e / wG m e)) (cI (w2 m e / wG m e)) (cI (w3 e / wG m e)) g wa, s) := by
      rw [sd_w]
      simp [bnd, bnds, TE]
    have len1 : (L1 ++ [e]).length = L1.length + 1 := by simp
    have app : (L1 ++ [e]) ++ L2 = edges R := by rw [← hL]; simp
    show (_ ∧ forL _ _ (.tuple [.int (L1.length : Nat), sd m e.1 e.2] :: enD (L1.length + 1) (L2.map fun e => sd m e.1 e.2)) _ _ = _) ∨ ∃ mo' me' i' a' b' h' g' wa', _ ∧ forL _ _ (.tuple [.int (L1.length : Nat), sd m e.1 e.2] :: enD (L1.length + 1) (L2.map fun e => sd m e.1 e.2)) _ _ = _
    have nxt : ∀ mo1 me1 g1 wa1, Seen R m w v (L1 ++ [e]) mo1 me1 → lb_time_and_side_0 (TE X Y v.1 v.2 w mo me (cI (L1.length : Nat)) (cI (w1 m e / wG m e)) (cI (w2 m e / wG m e)) (cI (w3 e / wG m e)) g wa) s = some (.nx (TE X Y v.1 v.2 w mo1 me1 (cI (L1.length : Nat)) (cI (w1 m e / wG m e)) (cI (w2 m e / wG m e)) (cI (w3 e / wG m e)) g1 wa1), s) →
        (∃ e ∈ edges R, eH e = 0 ∧ 0 < go e v) ∧ forL (.tp [.nm 7, .tp [.nm 8, .nm 9, .nm 10]]) lb_time_and_side_0 (.tuple [.int (L1.length : Nat), sd m e.1 e.2] :: enD (L1.length + 1) (L2.map fun e => sd m e.1 e.2)) (TE X Y v.1 v.2 w mo me i a b h g wa) s = some (.rt (.tuple [.none, .none]), s) ∨
        ∃ mo' me' i' a' b' h' g' wa', Seen R m w v (edges R) mo' me' ∧ forL (.tp [.nm 7, .tp [.nm 8, .nm 9, .nm 10]]) lb_time_and_side_0 (.tuple [.int (L1.length : Nat), sd m e.1 e.2] :: enD (L1.length + 1) (L2.map fun e => sd m e.1 e.2)) (TE X Y v.1 v.2 w mo me i a b h g wa) s = some (.nx (TE X Y v.1 v.2 w mo' me' i' a' b' h' g' wa'), s) := by
      intro mo1 me1 g1 wa1 hs1 e1
      rw [forL_nx e0 e1]
      have := time_loop F hR hm hw b1 b2 hb (s := s) L2 (L1 ++ [e]) mo1 me1 (cI (L1.length : Nat)) (cI (w1 m e / wG m e)) (cI (w2 m e / wG m e)) (cI (w3 e / wG m e)) g1 wa1 app hs1
      rw [len1] at this
      exact this
    have itm : isD (tm m w v e) = true := rfl
    rcases hS with ⟨rfl, rfl, hz⟩ | ⟨i1, f0, rfl, rfl, q1, q2, q3, q4, q5⟩
    · obtain ⟨g1, wa1, st⟩ := time_step (X := X) (Y := Y) (mo := fD 0 1) (me := .none) (g0 := g) (wa := wa) (i := (L1.length : Nat)) (H := 0 < eH e) (G := 0 < go e v) (L := decide (0 < go e v)) k1 k2 k3 k4 k5 k6 (fun hH => less_zero hm hw h1 h2 b1 b2 hb hH) itm
      by_cases c : 0 < eH e
      · rw [if_pos c] at st
        by_cases d : 0 < go e v
        · rw [if_pos (decide_eq_true d)] at st
          refine nxt _ _ g1 wa1 (.inr ⟨L1.length, e, rfl, rfl, hat, c, d, fun f hf hF => ?_, fun f hf hF => ?_⟩) st
          · rcases List.mem_append.mp hf with z | z
            · have := hz f z
              have a1 := Int.mul_nonpos_of_nonneg_of_nonpos (Int.le_of_lt c) this
              have a2 := Int.mul_nonneg (Int.le_of_lt d) (Int.le_of_lt hF)
              rw [Int.mul_comm] at a1
              omega
            · rw [List.mem_singleton.mp z]; exact Int.le_refl _
          · rcases List.mem_append.mp hf with z | z
            · exact hz f z
            · rw [List.mem_singleton.mp z] at hF; omega
        · rw [if_neg (by simp [d])] at st
          refine nxt _ _ g1 wa1 (.inl ⟨rfl, rfl, fun f hf => ?_⟩) st
          rcases List.mem_append.mp hf with z | z
          · exact hz f z
          · rw [List.mem_singleton.mp z]; omega
      · rw [if_neg c] at st
        by_cases d : 0 < go e v
        · rw [if_pos d] at st
          exact .inl ⟨⟨e, he, by omega, d⟩, forL_rt e0 st⟩
        · rw [if_neg d] at st
          refine nxt _ _ g1 wa1 (.inl ⟨rfl, rfl, fun f hf => ?_⟩) st
          rcases List.mem_append.mp hf with z | z
          · exact hz f z
          · rw [List.mem_singleton.mp z]; omega
    · have hf0 : f0 ∈ edges R := List.mem_of_getElem? q1
      have fm := edge_mem hf0
      obtain ⟨g1, wa1, st⟩ := time_step (X := X) (Y := Y) (mo := tm m w v f0) (me := .int i1) (g0 := g) (wa := wa) (i := (L1.length : Nat)) (H := 0 < eH e) (G := 0 < go e v) (L := decide (go f0 v * eH e < go e v * eH f0)) k1 k2 k3 k4 k5 k6 (fun hH => less_tm hm hw h1 h2 (hR _ fm.1) (hR _ fm.2) b1 b2 hb hH q2) itm
      by_cases c : 0 < eH e
      · rw [if_pos c] at st
        by_cases d : go f0 v * eH e < go e v * eH f0
        · rw [if_pos (decide_eq_true d)] at st
          have ge : 0 < go e v := by
            have a0 := Int.mul_pos q3 c
            by_cases z : 0 < go e v
            · exact z
            · have := Int.mul_nonpos_of_nonneg_of_nonpos (Int.le_of_lt q2) (show go e v ≤ 0 by omega)
              rw [Int.mul_comm] at this
              omega
          refine nxt _ _ g1 wa1 (.inr ⟨L1.length, e, rfl, rfl, hat, c, ge, fun f hf hF => ?_, fun f hf hF => ?_⟩) st
          · rcases List.mem_append.mp hf with z | z
            · have a1 := q4 f z hF
              -- go f / H f ≤ go f0 / H f0 < go e / H e
              have a2 := Int.mul_le_mul_of_nonneg_right a1 (Int.le_of_lt c)
              have a3 := Int.mul_le_mul_of_nonneg_right (Int.le_of_lt d) (Int.le_of_lt hF)
              have b3 : eH f0 * (go f v * eH e) ≤ eH f0 * (go e v * eH f) := by
                have x1 : eH f0 * (go f v * eH e) = go f v * eH f0 * eH e := by grind
                have x2 : eH f0 * (go e v * eH f) = go e v * eH f0 * eH f := by grind
                have x3 : go f0 v * eH f * eH e = go f0 v * eH e * eH f := by grind
                omega
              exact Int.le_of_mul_le_mul_left b3 q2
            · rw [List.mem_singleton.mp z]; exact Int.le_refl _
          · rcases List.mem_append.mp hf with z | z
            · exact q5 f z hF
            · rw [List.mem_singleton.mp z] at hF; omega
        · rw [if_neg (by simp [d])] at st
          refine nxt _ _ g1 wa1 (.inr ⟨i1, f0, rfl, rfl, q1, q2, q3, fun f hf hF => ?_, fun f hf hF => ?_⟩) st
          · rcases List.mem_append.mp hf with z | z
            · exact q4 f z hF
            · rw [List.mem_singleton.mp z]; omega
          · rcases List.mem_append.mp hf with z | z
            · exact q5 f z hF
            · rw [List.mem_singleton.mp z] at hF; omega
      · rw [if_neg c] at st
        by_cases d : 0 < go e v
        · rw [if_pos d] at st
          exact .inl ⟨⟨e, he, by omega, d⟩, forL_rt e0 st⟩
        · rw [if_neg d] at st
          refine nxt _ _ g1 wa1 (.inr ⟨i1, f0, rfl, rfl, q1, q2, q3, fun f hf hF => ?_, fun f hf hF => ?_⟩) st
          · rcases List.mem_append.mp hf with z | z
            · exact q4 f z hF
            · rw [List.mem_singleton.mp z] at hF; omega
          · rcases List.mem_append.mp hf with z | z
            · exact q5 f z hF
            · rw [List.mem_singleton.mp z]; omega
/-- the program's time and side: endless, none, or over the edge met -/
theorem e_time [bm : Bi m j] [bw : Bi w i0] (F : Fig R) (hR : ∀ r ∈ R, Sm k r) (hm : 0 < m) (hw : 0 < w) (b1 : Bi v.1 l) (b2 : Bi v.2 l) (hb : j + k + l + i0 ≤ 200) {s : S} :
    ((∃ e ∈ edges R, eH e = 0 ∧ 0 < go e v) ∧ f_time_and_side [.tuple ((edges R).map fun e => sd m e.1 e.2), pD v.1 v.2 w] s = some (.tuple [.none, .none], s)) ∨
    (v.1 = 0 ∧ v.2 = 0 ∧ f_time_and_side [.tuple ((edges R).map fun e => sd m e.1 e.2), pD v.1 v.2 w] s = some (.tuple [fD 0 1, .none], s)) ∨
    ∃ (i : Nat) (e : P × P), (edges R)[i]? = some e ∧ Met R v e ∧ f_time_and_side [.tuple ((edges R).map fun e => sd m e.1 e.2), pD v.1 v.2 w] s = some (.tuple [tm m w v e, .int i], s) := by
  have q1 : sAsg (.tp [.nm 2, .nm 3, .nm 4]) (mVar 1) (startE 13 [.tuple ((edges R).map fun e => sd m e.1 e.2), pD v.1 v.2 w]) s = some (.nx [cD (.tuple ((edges R).map fun e => sd m e.1 e.2)), cD (pD v.1 v.2 w), cI v.1, cI v.2, cI w, none, none, none, none, none, none, none, none], s) := by
    simp [sAsg, mVar, startE, bnd, bnds]
  have q2 : sPar 5 6 (aCons (mC (.tuple [(.int 0), (.int 1)])) (aCons (mC .none) aNil)) [cD (.tuple ((edges R).map fun e => sd m e.1 e.2)), cD (pD v.1 v.2 w), cI v.1, cI v.2, cI w, none, none, none, none, none, none, none, none] s = some (.nx (TE (.tuple ((edges R).map fun e => sd m e.1 e.2)) (pD v.1 v.2 w) v.1 v.2 w (fD 0 1) .none none none none none none none), s) := by
    simp [sPar, aCons, aNil, mC, mThen, mLift, TE, isD]
  have it : mEn (mVar 0) (TE (.tuple ((edges R).map fun e => sd m e.1 e.2)) (pD v.1 v.2 w) v.1 v.2 w (fD 0 1) .none none none none none none none) s = some (enD 0 ((edges R).map fun e => sd m e.1 e.2), s) := by
    simp [mEn, mThen, mLift, mVar, TE, itOf]
  rcases time_loop (X := .tuple ((edges R).map fun e => sd m e.1 e.2)) (Y := pD v.1 v.2 w) F hR hm hw b1 b2 hb (s := s) (edges R) [] (fD 0 1) .none none none none none none none rfl (.inl ⟨rfl, rfl, by simp⟩) with ⟨h, e⟩ | ⟨mo, me, i, a, b, h, g, wa, hS, e⟩
  · refine .inl ⟨h, fnM_rt rfl ?_⟩
    unfold g_time_and_side
    rw [sSeq_nx q1, sSeq_nx q2]
    exact sSeq_rt ((sFor_at it).trans e)
  · have hd : isDs [mo, me] = true := by
      rcases hS with ⟨rfl, rfl, _⟩ | ⟨i1, f0, rfl, rfl, _⟩
      · rfl
      · rfl
    have fin : f_time_and_side [.tuple ((edges R).map fun e => sd m e.1 e.2), pD v.1 v.2 w] s = some (.tuple [mo, me], s) := by
      refine fnM_rt rfl ?_
      unfold g_time_and_side
      rw [sSeq_nx q1, sSeq_nx q2, sSeq_nx ((sFor_at it).trans e)]
      have z2 : (2 : Nat) ≤ sizeLine := le_size (by decide)
      simp [sRet, mTup, aCons, aNil, mThen, mLift, mVar, TE, hd, z2]
    rcases hS with ⟨rfl, rfl, hz⟩ | ⟨i1, f0, rfl, rfl, p1, p2, p3, p4, p5⟩
    · refine .inr (.inl ?_)
      have v0 : ¬ (v.1 ≠ 0 ∨ v.2 ≠ 0) := fun hv => by
        obtain ⟨e, he, h⟩ := F.out hv
        have := hz e he
        omega
      exact ⟨by omega, by omega, fin⟩
    · exact .inr (.inr ⟨i1, f0, p1, ⟨List.mem_of_getElem? p1, p2, p3, p4, p5⟩, fin⟩)
end
end WF
/-! corners on the line of an edge; shares of the corners met -/
namespace WF
open PySem PySem.Spec PyProof.Rows L2 PL PLS
theorem par_left {z a b r : P} (h : HU.det a b r = 0) : HU.det z a b * (r.1 - a.1) = HU.det z a r * (b.1 - a.1) ∧ HU.det z a b * (r.2 - a.2) = HU.det z a r * (b.2 - a.2) := by
  unfold HU.det at *
  have h1 : (b.1 - a.1) * (r.2 - a.2) = (b.2 - a.2) * (r.1 - a.1) := by omega
  constructor
  · have e : ((a.1 - z.1) * (b.2 - z.2) - (a.2 - z.2) * (b.1 - z.1)) * (r.1 - a.1) - ((a.1 - z.1) * (r.2 - z.2) - (a.2 - z.2) * (r.1 - z.1)) * (b.1 - a.1) = (a.1 - z.1) * ((b.2 - a.2) * (r.1 - a.1) - (b.1 - a.1) * (r.2 - a.2)) := by grind
    rw [h1, Int.sub_self, Int.mul_zero] at e
    omega
  · have e : ((a.1 - z.1) * (b.2 - z.2) - (a.2 - z.2) * (b.1 - z.1)) * (r.2 - a.2) - ((a.1 - z.1) * (r.2 - z.2) - (a.2 - z.2) * (r.1 - z.1)) * (b.2 - a.2) = (a.2 - z.2) * ((b.2 - a.2) * (r.1 - a.1) - (b.1 - a.1) * (r.2 - a.2)) := by grind
    rw [h1, Int.sub_self, Int.mul_zero] at e
    omega
theorem par_right {a b c r : P} (h : HU.det a b r = 0) : HU.det a b c * (b.1 - r.1) = HU.det b c r * (b.1 - a.1) ∧ HU.det a b c * (b.2 - r.2) = HU.det b c r * (b.2 - a.2) := by
  unfold HU.det at *
  have h1 : (b.1 - a.1) * (r.2 - a.2) = (b.2 - a.2) * (r.1 - a.1) := by omega
  constructor
  · have e : ((b.1 - a.1) * (c.2 - a.2) - (b.2 - a.2) * (c.1 - a.1)) * (b.1 - r.1) - ((c.1 - b.1) * (r.2 - b.2) - (c.2 - b.2) * (r.1 - b.1)) * (b.1 - a.1) = (c.1 - b.1) * ((b.2 - a.2) * (r.1 - a.1) - (b.1 - a.1) * (r.2 - a.2)) := by grind
    rw [h1, Int.sub_self, Int.mul_zero] at e
    omega
  · have e : ((b.1 - a.1) * (c.2 - a.2) - (b.2 - a.2) * (c.1 - a.1)) * (b.2 - r.2) - ((c.1 - b.1) * (r.2 - b.2) - (c.2 - b.2) * (r.1 - b.1)) * (b.2 - a.2) = (c.2 - b.2) * ((b.2 - a.2) * (r.1 - a.1) - (b.1 - a.1) * (r.2 - a.2)) := by grind
    rw [h1, Int.sub_self, Int.mul_zero] at e
    omega
theorem two_sides {δ k δ' k' x dx dy gx gy ax ay bx by' : Int} (hδ : 0 < δ) (hk : 0 < k) (hδ' : 0 < δ') (hk' : 0 < k') (h1 : δ * ax = k * dx) (h2 : δ * ay = k * dy) (h3 : δ' * bx = k' * dx) (h4 : δ' * by' = k' * dy)
    (s1 : 0 ≤ -(gx * ay - gy * ax)) (s2 : 0 ≤ gx * by' - gy * bx) : gx * dy - gy * dx = 0 := by
  have e1 : δ * (gx * ay - gy * ax) = k * (gx * dy - gy * dx) := by
    have : δ * (gx * ay - gy * ax) = gx * (δ * ay) - gy * (δ * ax) := by grind
    rw [this, h1, h2]; grind
  have e2 : δ' * (gx * by' - gy * bx) = k' * (gx * dy - gy * dx) := by
    have : δ' * (gx * by' - gy * bx) = gx * (δ' * by') - gy * (δ' * bx) := by grind
    rw [this, h3, h4]; grind
  have f1 := Int.mul_nonneg (Int.le_of_lt hδ) s1
  rw [Int.mul_neg, e1] at f1
  have f2 := Int.mul_nonneg (Int.le_of_lt hδ') s2
  rw [e2] at f2
  generalize gx * dy - gy * dx = y at *
  by_cases c : 0 < y
  · have := Int.mul_pos hk c; omega
  · by_cases c2 : y < 0
    · have := Int.mul_pos hk' (show 0 < -y by omega)
      rw [Int.mul_neg] at this
      omega
    · omega
theorem par_zero2 {gx gy hx hy dx dy : Int} (hd : dx ≠ 0 ∨ dy ≠ 0) (h1 : gx * dy - gy * dx = 0) (h2 : hx * dy - hy * dx = 0) : gx * hy - gy * hx = 0 := by
  rcases hd with h | h
  · have : dx * (gx * hy - gy * hx) = 0 := by
      have a1 : gy * dx = gx * dy := by omega
      have a2 : hy * dx = hx * dy := by omega
      have : dx * (gx * hy - gy * hx) = gx * (hy * dx) - (gy * dx) * hx := by grind
      rw [this, a1, a2]; grind
    rcases Int.mul_eq_zero.mp this with k | k
    · exact absurd k h
    · exact k
  · have : dy * (gx * hy - gy * hx) = 0 := by
      have a1 : gx * dy = gy * dx := by omega
      have a2 : hx * dy = hy * dx := by omega
      have : dy * (gx * hy - gy * hx) = (gx * dy) * hy - gy * (hx * dy) := by grind
      rw [this, a1, a2]; grind
    rcases Int.mul_eq_zero.mp this with k | k
    · exact absurd k h
    · exact k
/-- the corners on an edge's line are its ends -/
theorem Fig.ends {R : List P} (F : Fig R) {e : P × P} (he : e ∈ edges R) {r : P} (hr : r ∈ R) (h : go e r = eH e) : r = e.1 ∨ r = e.2 := by
  obtain ⟨z, c, e1, e2, d1, d2⟩ := F.nb e he
  have h0 : HU.det e.1 e.2 r = 0 := by have := go_det e r; omega
  obtain ⟨a1, a2⟩ := par_left (z := z) h0
  obtain ⟨b1, b2⟩ := par_right (c := c) h0
  have k1 := F.on _ e1 r hr
  have k2 := F.on _ e2 r hr
  dsimp only at k1 k2
  by_cases c1 : HU.det z e.1 r = 0
  · left
    rw [c1, Int.zero_mul] at a1 a2
    have x1 : r.1 - e.1.1 = 0 := by rcases Int.mul_eq_zero.mp a1 with h | h <;> omega
    have x2 : r.2 - e.1.2 = 0 := by rcases Int.mul_eq_zero.mp a2 with h | h <;> omega
    exact Prod.ext (by omega) (by omega)
  · by_cases c2 : HU.det e.2 c r = 0
    · right
      rw [c2, Int.zero_mul] at b1 b2
      have x1 : e.2.1 - r.1 = 0 := by rcases Int.mul_eq_zero.mp b1 with h | h <;> omega
      have x2 : e.2.2 - r.2 = 0 := by rcases Int.mul_eq_zero.mp b2 with h | h <;> omega
      exact Prod.ext (by omega) (by omega)
    · exfalso
      obtain ⟨q, hq⟩ := fst_edge hr
      obtain ⟨p, _, hp, _, dd, _⟩ := F.nb _ hq
      have m := edge_mem he
      have dne : e.2.1 - e.1.1 ≠ 0 ∨ e.2.2 - e.1.2 ≠ 0 := by
        by_cases z1 : e.2.1 - e.1.1 = 0
        · refine .inr fun z2 => F.ne e he ?_
          exact Prod.ext (by omega) (by omega)
        · exact .inl z1
      have s1 := F.on _ hp e.1 m.1
      have s2 := F.on _ hp e.2 m.2
      have s3 := F.on _ hq e.1 m.1
      have s4 := F.on _ hq e.2 m.2
      dsimp only at s1 s2 s3 s4 dd
      have t1 : 0 ≤ -((r.1 - p.1) * (r.2 - e.1.2) - (r.2 - p.2) * (r.1 - e.1.1)) := by
        have : HU.det p r e.1 = -((r.1 - p.1) * (r.2 - e.1.2) - (r.2 - p.2) * (r.1 - e.1.1)) := by unfold HU.det; grind
        omega
      have t2 : 0 ≤ (r.1 - p.1) * (e.2.2 - r.2) - (r.2 - p.2) * (e.2.1 - r.1) := by
        have : HU.det p r e.2 = (r.1 - p.1) * (e.2.2 - r.2) - (r.2 - p.2) * (e.2.1 - r.1) := by unfold HU.det; grind
        omega
      have t3 : 0 ≤ -((q.1 - r.1) * (r.2 - e.1.2) - (q.2 - r.2) * (r.1 - e.1.1)) := by
        have : HU.det r q e.1 = -((q.1 - r.1) * (r.2 - e.1.2) - (q.2 - r.2) * (r.1 - e.1.1)) := by unfold HU.det; grind
        omega
      have t4 : 0 ≤ (q.1 - r.1) * (e.2.2 - r.2) - (q.2 - r.2) * (e.2.1 - r.1) := by
        have : HU.det r q e.2 = (q.1 - r.1) * (e.2.2 - r.2) - (q.2 - r.2) * (e.2.1 - r.1) := by unfold HU.det; grind
        omega
      have g1 := two_sides (x := 0) d1 (by omega) d2 (by omega) a1 a2 b1 b2 t1 t2
      have g2 := two_sides (x := 0) d1 (by omega) d2 (by omega) a1 a2 b1 b2 t3 t4
      have g3 := par_zero2 dne g1 g2
      have : HU.det p r q = (r.1 - p.1) * (q.2 - r.2) - (r.2 - p.2) * (q.1 - r.1) := by unfold HU.det; grind
      omega
/-- weights of corners on the edge met are those of its ends -/
theorem Met.weights {R : List P} (F : Fig R) {v : P} {e : P × P} (M : Met R v e) {a b : P} {p q base : Int} (ha : a ∈ R) (hb : b ∈ R) (hbase : 0 < base) (hp : 0 ≤ p) (hq : 0 ≤ q) (h1 : base * v.1 = p * a.1 + q * b.1) (h2 : base * v.2 = p * a.2 + q * b.2)
    (hmin : (p + q) * eH e ≤ go e v * base) (f : P → Int) : base * (HU.cr v e.2 * f e.1 + HU.cr e.1 v * f e.2) = eH e * (p * f a + q * f b) := by
  have hg : go e v * base = p * go e a + q * go e b := by
    have : go e v * base = enx e * (base * v.1) + eny e * (base * v.2) := by unfold go ln; grind
    rw [this, h1, h2]; unfold go ln; grind
  have la := F.le M.mem ha
  have lb := F.le M.mem hb
  have xa := Int.mul_le_mul_of_nonneg_left la hp
  have xb := Int.mul_le_mul_of_nonneg_left lb hq
  have hs : (p + q) * eH e = p * eH e + q * eH e := Int.add_mul _ _ _
  have pa : p = 0 ∨ (a = e.1 ∨ a = e.2) := by
    by_cases z : p = 0
    · exact .inl z
    · refine .inr (F.ends M.mem ha ?_)
      have : p * go e a = p * eH e := by omega
      exact Int.eq_of_mul_eq_mul_left z this
  have pb : q = 0 ∨ (b = e.1 ∨ b = e.2) := by
    by_cases z : q = 0
    · exact .inl z
    · refine .inr (F.ends M.mem hb ?_)
      have : q * go e b = q * eH e := by omega
      exact Int.eq_of_mul_eq_mul_left z this
  have c1 : base * HU.cr v e.2 = p * HU.cr a e.2 + q * HU.cr b e.2 := by
    have : base * HU.cr v e.2 = (base * v.1) * e.2.2 - (base * v.2) * e.2.1 := by unfold HU.cr; grind
    rw [this, h1, h2]; unfold HU.cr; grind
  have c2 : base * HU.cr e.1 v = p * HU.cr e.1 a + q * HU.cr e.1 b := by
    have : base * HU.cr e.1 v = e.1.1 * (base * v.2) - e.1.2 * (base * v.1) := by unfold HU.cr; grind
    rw [this, h1, h2]; unfold HU.cr; grind
  have e0 : base * (HU.cr v e.2 * f e.1 + HU.cr e.1 v * f e.2) = (base * HU.cr v e.2) * f e.1 + (base * HU.cr e.1 v) * f e.2 := by grind
  have H := eH_cr e
  have z1 : HU.cr e.1 e.1 = 0 := by unfold HU.cr; grind
  have z2 : HU.cr e.2 e.2 = 0 := by unfold HU.cr; grind
  rw [e0, c1, c2, H]
  rcases pa with pa | pa | pa <;> rcases pb with pb | pb | pb <;> subst pa <;> subst pb <;> (try rw [z1]) <;> (try rw [z2]) <;> grind
end WF
/-! fractions over a number; the tacks that the program tells -/
namespace WF
open PySem PySem.Spec PyProof.Rows L2 PL PLS
/-- U / K in least terms -/
def fr (U K : Int) : D := fD (nmN U K) (nmD U K)
theorem fr_same {a b c d : Int} (hb : 0 < b) (hd : 0 < d) (h : a * d = c * b) : fr a b = fr c d := by
  unfold fr
  obtain ⟨h1, h2⟩ := nm_same hb hd h
  rw [h1, h2]
theorem nm_of {U K : Int} (hK : 0 < K) : nmN U K * K = U * nmD U K := by
  have h1 := nmN_g U K
  have h2 := nmD_g U K
  have : nmN U K * K = nmN U K * (gcdI U K * nmD U K) := by rw [h2]
  rw [this]
  have : nmN U K * (gcdI U K * nmD U K) = (gcdI U K * nmN U K) * nmD U K := by grind
  rw [this, h1]
theorem fr_zero {K : Int} (hK : 0 < K) : fr 0 K = fD 0 1 := by
  have : fr 0 K = fr 0 1 := fr_same hK (by decide) (by simp)
  rw [this]
  rfl
theorem e_fr_sum {U V K : Int} {s : S} {i j k : Nat} [Bi U i] [Bi V j] [Bi K k] (hK : 0 < K) (hb : i + j + k + k + k ≤ 4000) : f_ratio_sum [fr U K, fr V K] s = some (fr (U + V) K, s) := by
  have h1 := nmD_pos (a := U) hK
  have h2 := nmD_pos (a := V) hK
  have k1 : dMul (.int (nmN U K)) (.int (nmD V K)) = _ := mulB (by omega)
  have k2 : dMul (.int (nmN V K)) (.int (nmD U K)) = _ := mulB (by omega)
  have k3 : dMul (.int (nmD U K)) (.int (nmD V K)) = _ := mulB (by omega)
  have h3 := Int.mul_pos h1 h2
  have e := e_ratio (a := nmN U K * nmD V K + nmN V K * nmD U K) (b := nmD U K * nmD V K) (s := s) h3 (by omega)
  have q : fr (nmN U K * nmD V K + nmN V K * nmD U K) (nmD U K * nmD V K) = fr (U + V) K := by
    refine fr_same h3 hK ?_
    have a1 := nm_of (U := U) hK
    have a2 := nm_of (U := V) hK
    have : (nmN U K * nmD V K + nmN V K * nmD U K) * K = (nmN U K * K) * nmD V K + (nmN V K * K) * nmD U K := by grind
    rw [this, a1, a2]; grind
  have e' : f_ratio [.int (nmN U K * nmD V K + nmN V K * nmD U K), .int (nmD U K * nmD V K)] s = some (fr (U + V) K, s) := e.trans (by rw [← q]; rfl)
  simp [f_ratio_sum, fnM, g_ratio_sum, startE, fr, mThen, mLift, mVar, m2, mC, sRet, dIx, atI, ixN, mF, aCons, aNil, dAdd, k1, k2, k3, e']
theorem e_fr_gap {U V K : Int} {s : S} {i j k : Nat} [Bi U i] [Bi V j] [Bi K k] (hK : 0 < K) (hb : i + j + k + k + k ≤ 4000) : f_ratio_gap [fr U K, fr V K] s = some (fr (U - V) K, s) := by
  have h1 := nmD_pos (a := U) hK
  have h2 := nmD_pos (a := V) hK
  have k1 : dMul (.int (nmN U K)) (.int (nmD V K)) = _ := mulB (by omega)
  have k2 : dMul (.int (nmN V K)) (.int (nmD U K)) = _ := mulB (by omega)
  have k3 : dMul (.int (nmD U K)) (.int (nmD V K)) = _ := mulB (by omega)
  have h3 := Int.mul_pos h1 h2
  have e := e_ratio (a := nmN U K * nmD V K - nmN V K * nmD U K) (b := nmD U K * nmD V K) (s := s) h3 (by omega)
  have q : fr (nmN U K * nmD V K - nmN V K * nmD U K) (nmD U K * nmD V K) = fr (U - V) K := by
    refine fr_same h3 hK ?_
    have a1 := nm_of (U := U) hK
    have a2 := nm_of (U := V) hK
    have : (nmN U K * nmD V K - nmN V K * nmD U K) * K = (nmN U K * K) * nmD V K - (nmN V K * K) * nmD U K := by grind
    rw [this, a1, a2]; grind
  have e' : f_ratio [.int (nmN U K * nmD V K - nmN V K * nmD U K), .int (nmD U K * nmD V K)] s = some (fr (U - V) K, s) := e.trans (by rw [← q]; rfl)
  simp [f_ratio_gap, fnM, g_ratio_gap, startE, fr, mThen, mLift, mVar, m2, mC, sRet, dIx, atI, ixN, mF, aCons, aNil, dSub, k1, k2, k3, e']
/-- a product of two fractions -/
theorem e_fr_mul {U K V L : Int} {s : S} {i j k l : Nat} [Bi U i] [Bi K k] [Bi V j] [Bi L l] (hK : 0 < K) (hL : 0 < L) (hb : i + j + k + l ≤ 4000) : f_ratio_product [fr U K, fr V L] s = some (fr (U * V) (K * L), s) := by
  have h1 := nmD_pos (a := U) hK
  have h2 := nmD_pos (a := V) hL
  have e := e_ratio_product (a := nmN U K) (b := nmD U K) (c := nmN V L) (d := nmD V L) (s := s) (by omega) (by omega) h1 h2
  have q : fr (nmN U K * nmN V L) (nmD U K * nmD V L) = fr (U * V) (K * L) := by
    refine fr_same (Int.mul_pos h1 h2) (Int.mul_pos hK hL) ?_
    have a1 := nm_of (U := U) hK
    have a2 := nm_of (U := V) hL
    have : nmN U K * nmN V L * (K * L) = (nmN U K * K) * (nmN V L * L) := by grind
    rw [this, a1, a2]; grind
  exact e.trans (by rw [← q]; rfl)
theorem less_fr0 {U K : Int} {s : S} {i k : Nat} [Bi U i] [Bi K k] (hK : 0 < K) (hb : i + k ≤ 4000) : f_is_less [fr U K, fD 0 1] s = some (.bool (decide (U < 0)), s) := by
  have e := e_is_less (a := nmN U K) (b := nmD U K) (c := 0) (d := 1) (s := s) (by omega) (by omega)
  have g := gcd_pos (a := U) hK
  have q : (nmN U K * 1 < 0 * nmD U K) ↔ U < 0 := by
    have h := nmN_g U K
    rw [Int.mul_one, Int.zero_mul]
    constructor
    · intro c
      have := Int.mul_pos g (show 0 < -(nmN U K) by omega)
      rw [Int.mul_neg, h] at this
      omega
    · intro c
      by_cases d : nmN U K < 0
      · exact d
      · have := Int.mul_nonneg (Int.le_of_lt g) (show 0 ≤ nmN U K by omega)
        omega
  rw [decide_eq_decide.mpr q] at e
  exact e
theorem ne_fr0 {U K : Int} (hK : 0 < K) : dNe (fr U K) (.tuple [.int 0, .int 1]) = some (.bool (!(U == 0))) := by
  have g := gcd_pos (a := U) hK
  have h := nmN_g U K
  unfold dNe
  rw [if_pos ⟨rfl, rfl⟩]
  by_cases c : U = 0
  · subst c
    rw [fr_zero hK]
    rfl
  · have n0 : nmN U K ≠ 0 := fun z => c (by rw [z, Int.mul_zero] at h; exact h.symm)
    have : PyData.eqv (fr U K) (.tuple [.int 0, .int 1]) = false := by
      unfold fr
      simp [PyData.eqv, PyData.eqvAll, n0]
    rw [this]
    simp [c]
/-- shares along two corners -/
theorem e_parts {m w : Int} {v a b : P} {s : S} {j k l i : Nat} [bm : Bi m j] [bw : Bi w i] (ha : Sm k a) (hb : Sm k b) (b1 : Bi v.1 l) (b2 : Bi v.2 l) (hm : 0 < m) (hw : 0 < w) (hc : 0 < HU.cr a b) (hbd : j + k + l + i ≤ 200) :
    f_parts_along [nm3 a.1 a.2 m, nm3 b.1 b.2 m, pD v.1 v.2 w] s = some (.tuple [fr (m * HU.cr v b) (HU.cr a b * w), fr (m * HU.cr a v) (HU.cr a b * w)], s) := by
  obtain ⟨a1, a2, a3⟩ := bi_nm3 (m := m) ha
  obtain ⟨c1, c2, c3⟩ := bi_nm3 (m := m) hb
  have ga := gcd3_pos (a := a.1) (b := a.2) hm
  have gb := gcd3_pos (a := b.1) (b := b.2) hm
  have x1 : gcdI3 a.1 a.2 m * (a.1 / gcdI3 a.1 a.2 m) = a.1 := Int.mul_ediv_cancel' gcd3_d1
  have x2 : gcdI3 a.1 a.2 m * (a.2 / gcdI3 a.1 a.2 m) = a.2 := Int.mul_ediv_cancel' gcd3_d2
  have x3 : gcdI3 a.1 a.2 m * (m / gcdI3 a.1 a.2 m) = m := Int.mul_ediv_cancel' gcd3_d3
  have y1 : gcdI3 b.1 b.2 m * (b.1 / gcdI3 b.1 b.2 m) = b.1 := Int.mul_ediv_cancel' gcd3_d1
  have y2 : gcdI3 b.1 b.2 m * (b.2 / gcdI3 b.1 b.2 m) = b.2 := Int.mul_ediv_cancel' gcd3_d2
  have y3 : gcdI3 b.1 b.2 m * (m / gcdI3 b.1 b.2 m) = m := Int.mul_ediv_cancel' gcd3_d3
  unfold nm3
  have hH : HU.cr a b = a.1 * b.2 - a.2 * b.1 := rfl
  have hv1 : HU.cr v b = v.1 * b.2 - v.2 * b.1 := rfl
  have hv2 : HU.cr a v = a.1 * v.2 - a.2 * v.1 := rfl
  rw [hH] at hc ⊢
  rw [hv1, hv2]
  generalize gcdI3 a.1 a.2 m = g at *
  generalize gcdI3 b.1 b.2 m = h at *
  generalize a.1 / g = A1 at *
  generalize a.2 / g = A2 at *
  generalize m / g = A3 at *
  generalize b.1 / h = B1 at *
  generalize b.2 / h = B2 at *
  generalize m / h = B3 at *
  have q0 : (g * h) * (A1 * B2 - A2 * B1) = a.1 * b.2 - a.2 * b.1 := by rw [← x1, ← x2, ← y1, ← y2]; grind
  have gh := Int.mul_pos ga gb
  have r0 : 0 < A1 * B2 - A2 * B1 := (pos_scale gh q0).mpr hc
  have k1 : dMul (.int A1) (.int B2) = _ := mulB (by omega)
  have k2 : dMul (.int A2) (.int B1) = _ := mulB (by omega)
  have k3 : dMul (.int v.1) (.int B2) = _ := mulB (by omega)
  have k4 : dMul (.int v.2) (.int B1) = _ := mulB (by omega)
  have k5 : dMul (.int (v.1 * B2 - v.2 * B1)) (.int A3) = _ := mulB (by omega)
  have k6 : dMul (.int (A1 * B2 - A2 * B1)) (.int w) = _ := mulB (by omega)
  have k7 : dMul (.int A1) (.int v.2) = _ := mulB (by omega)
  have k8 : dMul (.int A2) (.int v.1) = _ := mulB (by omega)
  have k9 : dMul (.int (A1 * v.2 - A2 * v.1)) (.int B3) = _ := mulB (by omega)
  have p0 := Int.mul_pos r0 hw
  have e1 := e_ratio (a := (v.1 * B2 - v.2 * B1) * A3) (b := (A1 * B2 - A2 * B1) * w) (s := s) p0 (by omega)
  have e2 := e_ratio (a := (A1 * v.2 - A2 * v.1) * B3) (b := (A1 * B2 - A2 * B1) * w) (s := s) p0 (by omega)
  have pw := Int.mul_pos hc hw
  have f1 : fr ((v.1 * B2 - v.2 * B1) * A3) ((A1 * B2 - A2 * B1) * w) = fr (m * (v.1 * b.2 - v.2 * b.1)) ((a.1 * b.2 - a.2 * b.1) * w) := by
    refine fr_same p0 pw ?_
    rw [← q0, ← x3, ← y1, ← y2]; grind
  have f2 : fr ((A1 * v.2 - A2 * v.1) * B3) ((A1 * B2 - A2 * B1) * w) = fr (m * (a.1 * v.2 - a.2 * v.1)) ((a.1 * b.2 - a.2 * b.1) * w) := by
    refine fr_same p0 pw ?_
    rw [← q0, ← x1, ← x2]
    conv => rhs; rw [← y3]
    grind
  have e1' : f_ratio _ s = some (fr ((v.1 * B2 - v.2 * B1) * A3) ((A1 * B2 - A2 * B1) * w), s) := e1
  have e2' : f_ratio _ s = some (fr ((A1 * v.2 - A2 * v.1) * B3) ((A1 * B2 - A2 * B1) * w), s) := e2
  rw [f1] at e1'
  rw [f2] at e2'
  have i1 : isD (fr (m * (v.1 * b.2 - v.2 * b.1)) ((a.1 * b.2 - a.2 * b.1) * w)) = true := rfl
  have i2 : isD (fr (m * (a.1 * v.2 - a.2 * v.1)) ((a.1 * b.2 - a.2 * b.1) * w)) = true := rfl
  generalize fr (m * (v.1 * b.2 - v.2 * b.1)) ((a.1 * b.2 - a.2 * b.1) * w) = S1 at *
  generalize fr (m * (a.1 * v.2 - a.2 * v.1)) ((a.1 * b.2 - a.2 * b.1) * w) = S2 at *
  have n0 : ¬ (A1 * B2 - A2 * B1 = 0) := by omega
  have t0 : sAsg (.tp [.tp [.nm 3, .nm 4, .nm 5], .tp [.nm 6, .nm 7, .nm 8], .tp [.nm 9, .nm 10, .nm 11]]) (mTup (aCons (mVar 0) (aCons (mVar 1) (aCons (mVar 2) aNil)))) (startE 13 [pD A1 A2 A3, pD B1 B2 B3, pD v.1 v.2 w]) s = some (.nx [cD (pD A1 A2 A3), cD (pD B1 B2 B3), cD (pD v.1 v.2 w), cI A1, cI A2, cI A3, cI B1, cI B2, cI B3, cI v.1, cI v.2, cI w, none], s) := by
    simp [sAsg, mTup, aCons, aNil, mThen, mLift, mVar, startE, isDs, isD, le_size, bnd, bnds]
  refine fnM_rt rfl ?_
  unfold g_parts_along
  rw [sSeq_nx t0]
  have z2 : (2 : Nat) ≤ sizeLine := le_size (by decide)
  simp [sSeq, sAsg, m2, mThen, mLift, mVar, k1, k2, dSub, bnd, mIf, mB, mC, eqI, n0, bOf, sNx, sRet, mTup, aCons, aNil, mF, k3, k4, k5, k6, k7, k8, k9, e1', e2', isDs, i1, i2, z2]
end WF
/-! soonest tacks, what they rise and fall -/
namespace WF
open PySem PySem.Spec PyProof.Rows L2 PL PLS
theorem sAsg_nm {i : Nat} {a : M D} {ρ : PL.Env} {s s' : S} {d : D} (h : a ρ s = some (d, s')) : sAsg (.nm i) a ρ s = some (.nx (ρ.set i (cD d)), s') := by
  unfold sAsg
  rw [h]
  rfl
theorem sOwn_at {i : Nat} {a : M (List D)} {ρ : PL.Env} {s s' : S} {ds : List D} (h : a ρ s = some (ds, s')) : sOwn i a ρ s = some (.nx (ρ.set i (some (.ow ds))), s') := by
  unfold sOwn
  rw [h]
theorem sFrz_at {i : Nat} {F : M Out} {ρ ρ' : PL.Env} {s : S} (h : frz i ρ = ρ') : sFrz i F ρ s = F ρ' s := by
  unfold sFrz
  rw [h]
theorem rg1_n {n : Nat} (h : n < 1000) : rg1 [.int (n : Int)] = some ((List.range n).map fun (i : Nat) => PyData.int (0 + (i : Int))) := by
  have o2 : okRg (n : Int) = true := by
    unfold okRg
    rw [Bool.and_eq_true]
    exact ⟨decide_eq_true (by omega), decide_eq_true (by omega)⟩
  unfold rg1
  simp only [o2, if_true, Int.toNat_natCast]
  unfold rgD
  rfl
theorem mA_len {f : List D → Option (List D)} {X d : D} {xs : List D} {ρ : PL.Env} {s : S} {i : Nat} (h0 : ρ[i]? = some (some (.fz X))) (hlen : bLen [X] = some d) (h : f [d] = some xs) : mA f (aCons (mCall bLen (aCons (mVar i) aNil)) aNil) ρ s = some (xs, s) := by
  simp [mA, aCons, aNil, mCall, mThen, mLift, mVar, h0, hlen, h]
theorem rg1_c {k : Nat} (h : k < 1000) : ∃ xs : List D, xs.length = k ∧ rg1 [.int (k : Int)] = some xs := ⟨_, by simp, rg1_n h⟩
theorem mA_c {f : List D → Option (List D)} {c : D} {xs : List D} {ρ : PL.Env} {s : S} (h : f [c] = some xs) : mA f (aCons (mC c) aNil) ρ s = some (xs, s) := by
  simp [mA, aCons, aNil, mC, mThen, mLift, h]
def ends (e : P × P) (v : P) : List (P × Int) := [(e.1, HU.cr v e.2), (e.2, HU.cr e.1 v)]
def tack (m K : Int) (z : P × Int) : D := .tuple [nm3 z.1.1 z.1.2 m, fr (m * z.2) K]
def nzz (m : Int) (z : P × Int) : Bool := !(m * z.2 == 0)
section
variable {R : List P} {m w : Int} {v : P} {j k l i0 : Nat}
theorem e_soonest_tacks [bm : Bi m j] [bw : Bi w i0] (F : Fig R) (hR : ∀ r ∈ R, Sm k r) (hm : 0 < m) (hw : 0 < w) (b1 : Bi v.1 l) (b2 : Bi v.2 l) (hb : j + k + l + i0 ≤ 200) (hj : j ≤ 90) (hk : k ≤ 90) {s : S} :
    ((∃ e ∈ edges R, eH e = 0 ∧ 0 < go e v) ∧ f_soonest_tacks [said R m, pD v.1 v.2 w] s = some (.none, s)) ∨
    (v.1 = 0 ∧ v.2 = 0 ∧ f_soonest_tacks [said R m, pD v.1 v.2 w] s = some (.tuple [], s)) ∨
    ∃ (e : P × P), Met R v e ∧ f_soonest_tacks [said R m, pD v.1 v.2 w] s = some (.tuple (((ends e v).filter (nzz m)).map (tack m (eH e * w))), s) := by
  have q1 := e_shape_sides (s := s) hR hm hj hk F.three (by have := F.len; omega) F.ne
  have base : ∀ a b, f_time_and_side [.tuple ((edges R).map fun e => sd m e.1 e.2), pD v.1 v.2 w] s = some (.tuple [a, b], s) → sAsg (.tp [.nm 2, .nm 3]) (mF f_time_and_side (aCons (mF f_shape_sides (aCons (mVar 0) aNil)) (aCons (mVar 1) aNil))) (startE 8 [said R m, pD v.1 v.2 w]) s = some (.nx [cD (said R m), cD (pD v.1 v.2 w), cD a, cD b, none, none, none, none], s) := by
    intro a b h
    generalize said R m = X at *
    generalize pD v.1 v.2 w = Y at *
    generalize PyData.tuple ((edges R).map fun e => sd m e.1 e.2) = Z at *
    simp [sAsg, mF, aCons, aNil, mThen, mLift, mVar, startE, q1, h, bnd, bnds]
  rcases e_time F hR hm hw b1 b2 hb (s := s) with ⟨h, e⟩ | ⟨h1, h2, e⟩ | ⟨i, e, hi, M, et⟩
  · refine .inl ⟨h, fnM_rt rfl ?_⟩
    unfold g_soonest_tacks
    rw [sSeq_nx (base _ _ e)]
    simp [sSeq, mIf, mB, m2, mThen, mLift, mVar, mC, dIsN, isNone, bOf, sRet, isD]
  · refine .inr (.inl ⟨h1, h2, fnM_rt rfl ?_⟩)
    unfold g_soonest_tacks
    rw [sSeq_nx (base _ _ e)]
    simp [sSeq, mIf, mB, m2, mThen, mLift, mVar, mC, dIsN, isNone, bOf, sRet, sNx, mTup, aNil, isDs, isD]
  · refine .inr (.inr ⟨e, M, fnM_rt rfl ?_⟩)
    have hil : i < R.length := by
      have := (List.getElem?_eq_some_iff.mp hi).1
      rw [edges_len] at this
      exact this
    rw [edges_at R i hil] at hi
    have e1 : e.1 = R.getD i (0, 0) := by rw [← Option.some.inj hi]
    have e2 : e.2 = R.getD (if i + 1 = R.length then 0 else i + 1) (0, 0) := by rw [← Option.some.inj hi]
    have x1 : dIx (said R m) (.int (i : Int)) = some (nm3 e.1.1 e.1.2 m) := by
      rw [e1]; exact atI_map (f := fun r => nm3 r.1 r.2 m) (get_some hil)
    have h3 := F.three
    have md : dMod (.int ((i : Int) + 1)) (.int (R.length : Int)) = some (.int (((if i + 1 = R.length then 0 else i + 1 : Nat)) : Int)) := by
      rw [modB (by omega)]
      congr 2
      by_cases c : i + 1 = R.length
      · rw [if_pos c]
        have : (i : Int) + 1 = (R.length : Int) := by omega
        rw [this]
        simp
      · rw [if_neg c, Int.emod_eq_of_lt (by omega) (by omega)]
        omega
    have x2 : dIx (said R m) (.int ((if i + 1 = R.length then 0 else i + 1 : Nat) : Int)) = some (nm3 e.2.1 e.2.2 m) := by
      have hj' : (if i + 1 = R.length then 0 else i + 1) < R.length := by split <;> omega
      rw [e2]; exact atI_map (f := fun r => nm3 r.1 r.2 m) (get_some hj')
    have hlen : bLen [said R m] = some (.int R.length) := by simp [bLen]
    have mem := edge_mem M.mem
    have hH : 0 < HU.cr e.1 e.2 := by rw [← eH_cr]; exact M.h
    have ep := e_parts (m := m) (w := w) (v := v) (s := s) (hR _ mem.1) (hR _ mem.2) b1 b2 hm hw hH hb
    rw [← eH_cr] at ep
    have hK : 0 < eH e * w := Int.mul_pos M.h hw
    have t1 := base _ _ et
    have t2 : sAsg (.nm 4) (mTup (aCons (m2 dIx (mVar 0) (mVar 3)) (aCons (m2 dIx (mVar 0) (m2 dMod (m2 dAdd (mVar 3) (mC (.int 1))) (mCall bLen (aCons (mVar 0) aNil)))) aNil))) [cD (said R m), cD (pD v.1 v.2 w), cD (tm m w v e), cD (.int i), none, none, none, none] s = some (.nx [cD (said R m), cD (pD v.1 v.2 w), cD (tm m w v e), cD (.int i), cD (.tuple [nm3 e.1.1 e.1.2 m, nm3 e.2.1 e.2.2 m]), none, none, none], s) := by
      have i1 : isD (nm3 e.1.1 e.1.2 m) = true := rfl
      have i2 : isD (nm3 e.2.1 e.2.2 m) = true := rfl
      generalize said R m = X at *
      generalize nm3 e.1.1 e.1.2 m = A at *
      generalize nm3 e.2.1 e.2.2 m = B at *
      have z2 : (2 : Nat) ≤ sizeLine := le_size (by decide)
      simp [sAsg, mTup, aCons, aNil, m2, mThen, mLift, mVar, mC, mCall, hlen, dAdd, md, x1, x2, isDs, i1, i2, z2, bnd]
    have t3 : sAsg (.nm 5) (mF f_parts_along (aCons (m2 dIx (mVar 4) (mC (.int 0))) (aCons (m2 dIx (mVar 4) (mC (.int 1))) (aCons (mVar 1) aNil)))) [cD (said R m), cD (pD v.1 v.2 w), cD (tm m w v e), cD (.int i), cD (.tuple [nm3 e.1.1 e.1.2 m, nm3 e.2.1 e.2.2 m]), none, none, none] s = some (.nx [cD (said R m), cD (pD v.1 v.2 w), cD (tm m w v e), cD (.int i), cD (.tuple [nm3 e.1.1 e.1.2 m, nm3 e.2.1 e.2.2 m]), cD (.tuple [fr (m * HU.cr v e.2) (eH e * w), fr (m * HU.cr e.1 v) (eH e * w)]), none, none], s) := by
      generalize nm3 e.1.1 e.1.2 m = A at *
      generalize nm3 e.2.1 e.2.2 m = B at *
      generalize fr (m * HU.cr v e.2) (eH e * w) = C at *
      generalize fr (m * HU.cr e.1 v) (eH e * w) = E at *
      simp [sAsg, mF, aCons, aNil, m2, mThen, mLift, mVar, mC, dIx, atI, ixN, ep, bnd]
    have t4 : mLc (mA zpOf (aCons (mVar 4) (aCons (mVar 5) aNil))) [6, 7] (.tp [.nm 6, .nm 7]) (mB (m2 (dNe) (mVar 7) (mC (.tuple [(.int 0), (.int 1)])))) le_soonest_tacks_0 [cD (said R m), cD (pD v.1 v.2 w), cD (tm m w v e), cD (.int i), cD (.tuple [nm3 e.1.1 e.1.2 m, nm3 e.2.1 e.2.2 m]), cD (.tuple [fr (m * HU.cr v e.2) (eH e * w), fr (m * HU.cr e.1 v) (eH e * w)]), none, none] s = some (((ends e v).filter (nzz m)).map (tack m (eH e * w)), s) := by
      refine mLc_fm (enc := tack m (eH e * w)) ?_ (by simp [ends]) fun z hz => ⟨[cD (said R m), cD (pD v.1 v.2 w), cD (tm m w v e), cD (.int i), cD (.tuple [nm3 e.1.1 e.1.2 m, nm3 e.2.1 e.2.2 m]), cD (.tuple [fr (m * HU.cr v e.2) (eH e * w), fr (m * HU.cr e.1 v) (eH e * w)]), cD (nm3 z.1.1 z.1.2 m), cD (fr (m * z.2) (eH e * w))], by simp [tack, bnd, bnds, wipeE], ?_, fun _ => ⟨?_, rfl⟩⟩
      · simp [mA, aCons, aNil, mThen, mLift, mVar, zpOf, itOf, zipD, ends, tack]
      · have n := ne_fr0 (U := m * z.2) hK
        generalize fr (m * z.2) (eH e * w) = C at *
        simp [mB, m2, mThen, mLift, mVar, mC, n, bOf, nzz]
      · have i1 : isD (nm3 z.1.1 z.1.2 m) = true := rfl
        have i2 : isD (fr (m * z.2) (eH e * w)) = true := rfl
        unfold tack
        generalize nm3 z.1.1 z.1.2 m = A at *
        generalize fr (m * z.2) (eH e * w) = C at *
        have z2 : (2 : Nat) ≤ sizeLine := le_size (by decide)
        simp [le_soonest_tacks_0, mTup, aCons, aNil, mThen, mLift, mVar, isDs, i1, i2, z2]
    have itm : isD (tm m w v e) = true := rfl
    have ntm : isNone (tm m w v e) = false := rfl
    unfold g_soonest_tacks
    rw [sSeq_nx t1]
    have u1 : mIf (mB (m2 (dIsN) (mVar 2) (mC .none))) (sRet (mC .none)) (sNx) [cD (said R m), cD (pD v.1 v.2 w), cD (tm m w v e), cD (.int i), none, none, none, none] s = some (.nx [cD (said R m), cD (pD v.1 v.2 w), cD (tm m w v e), cD (.int i), none, none, none, none], s) := by
      generalize tm m w v e = T at *
      simp [mIf, mB, m2, mThen, mLift, mVar, mC, dIsN, itm, ntm, bOf, sNx]
    have u2 : mIf (mB (m2 (dIsN) (mVar 3) (mC .none))) (sRet (mTup aNil)) (sNx) [cD (said R m), cD (pD v.1 v.2 w), cD (tm m w v e), cD (.int i), none, none, none, none] s = some (.nx [cD (said R m), cD (pD v.1 v.2 w), cD (tm m w v e), cD (.int i), none, none, none, none], s) := by
      simp [mIf, mB, m2, mThen, mLift, mVar, mC, dIsN, isD, isNone, bOf, sNx]
    rw [sSeq_nx u1, sSeq_nx u2, sSeq_nx t2, sSeq_nx t3]
    generalize mLc _ [6, 7] _ _ le_soonest_tacks_0 = G at t4 ⊢
    simp [sRet, mCall, aCons, aNil, mThen, mLift, mL, t4, bTuple]
end
def ps (z : Int) : Int := if z < 0 then 0 else z
def ng (z : Int) : Int := if z < 0 then -z else 0
instance bi_ps {z : Int} {n : Nat} [p : Bi z n] : Bi (ps z) n := ⟨by have := p.h; unfold ps; split <;> omega⟩
instance bi_ng {z : Int} {n : Nat} [p : Bi z n] : Bi (ng z) n := ⟨by have := p.h; unfold ng; split <;> omega⟩
def RF (ch X : D) (up dn : D) (ve ti g : Option Cell) : PL.Env := [cD ch, cD X, cD up, cD dn, ve, ti, g]
theorem raf_step {c0 c1 c2 c3 m K Up Dn : Int} {z : P × Int} {X : D} {g : Option Cell} {s : S} {a b j k l n u d : Nat} [Bi c0 a] [Bi c1 b] [bm : Bi m j] [Bi K n] [bz : Bi z.2 l] [Bi Up u] [Bi Dn d] (hz : Sm k z.1) (hm : 0 < m) (hK : 0 < K) (hb : a + b + j + k + l + n ≤ 100) (hb2 : u + d ≤ 1500) :
    ∃ g', lb_rise_and_fall_by_0 (RF (.tuple [.int c0, .int c1, .int c2, .int c3]) X (fr Up K) (fr Dn K) (cD (nm3 z.1.1 z.1.2 m)) (cD (fr (m * z.2) K)) g) s = some (.nx (RF (.tuple [.int c0, .int c1, .int c2, .int c3]) X (fr (Up + ps (ln c0 c1 z.1 * z.2)) K) (fr (Dn + ng (ln c0 c1 z.1 * z.2)) K) (cD (nm3 z.1.1 z.1.2 m)) (cD (fr (m * z.2) K)) g'), s) := by
  have e1 := e_along_nm (a := c0) (b := c1) (m := m) (s := s) hz hm (by omega) (by omega) (by omega) (by omega)
  have bl := bi_ln (a := c0) (b := c1) hz
  have bmz : Bi (m * z.2) (j + l) := biMul
  have e2 : f_cross_by [.tuple [.int c0, .int c1, .int c2, .int c3], nm3 z.1.1 z.1.2 m] s = some (fr (ln c0 c1 z.1) m, s) := by
    have e1' : f_along [.int c0, .int c1, nm3 z.1.1 z.1.2 m] s = some (fr (ln c0 c1 z.1) m, s) := e1
    generalize nm3 z.1.1 z.1.2 m = A at *
    generalize fr (ln c0 c1 z.1) m = B at *
    simp [f_cross_by, g_cross_by, fnM, startE, sRet, mF, aCons, aNil, m2, mThen, mLift, mVar, mC, dIx, atI, ixN, e1']
  have e3 := e_fr_mul (U := ln c0 c1 z.1) (K := m) (V := m * z.2) (L := K) (s := s) hm hK (by omega)
  have q : fr (ln c0 c1 z.1 * (m * z.2)) (m * K) = fr (ln c0 c1 z.1 * z.2) K := by
    refine fr_same (Int.mul_pos hm hK) hK ?_
    grind
  rw [q] at e3
  generalize ln c0 c1 z.1 = lz at *
  have bp : Bi (lz * z.2) ((a + k + (b + k) + 1) + l) := biMul
  have e4 := less_fr0 (U := lz * z.2) (s := s) hK (by omega)
  have e5 := e_fr_gap (U := Dn) (V := lz * z.2) (s := s) hK (by omega)
  have e6 := e_fr_sum (U := Up) (V := lz * z.2) (s := s) hK (by omega)
  refine ⟨cD (fr (lz * z.2) K), ?_⟩
  by_cases c : lz * z.2 < 0
  · have p1 : ps (lz * z.2) = 0 := by unfold ps; rw [if_pos c]
    have p2 : Dn + ng (lz * z.2) = Dn - lz * z.2 := by unfold ng; rw [if_pos c]; omega
    rw [p1, p2, Int.add_zero]
    rw [decide_eq_true c] at e4
    generalize nm3 z.1.1 z.1.2 m = A at *
    generalize fr (m * z.2) K = B at *
    generalize fr (lz * z.2) K = G at *
    generalize fr lz m = C at *
    generalize fr Up K = E at *
    generalize fr Dn K = F' at *
    generalize fr (Dn - lz * z.2) K = I at *
    simp [lb_rise_and_fall_by_0, RF, sSeq, sAsg, mF, aCons, aNil, mThen, mLift, mVar, e2, e3, bnd, mIf, mB, mC, e4, bOf, e5]
  · have p1 : ps (lz * z.2) = lz * z.2 := by unfold ps; rw [if_neg c]
    have p2 : ng (lz * z.2) = 0 := by unfold ng; rw [if_neg c]
    rw [p1, p2, Int.add_zero]
    rw [decide_eq_false c] at e4
    generalize nm3 z.1.1 z.1.2 m = A at *
    generalize fr (m * z.2) K = B at *
    generalize fr (lz * z.2) K = G at *
    generalize fr lz m = C at *
    generalize fr Up K = E at *
    generalize fr Dn K = F' at *
    generalize fr (Up + lz * z.2) K = I at *
    simp [lb_rise_and_fall_by_0, RF, sSeq, sAsg, mF, aCons, aNil, mThen, mLift, mVar, e2, e3, bnd, mIf, mB, mC, e4, bOf, e6]
end WF
/-! what tacks rise and fall; the law's pairs of corners -/
namespace WF
open PySem PySem.Spec PyProof.Rows L2 PL PLS
def upS (c0 c1 : Int) : List (P × Int) → Int
  | [] => 0
  | z :: T => ps (ln c0 c1 z.1 * z.2) + upS c0 c1 T
def dnS (c0 c1 : Int) : List (P × Int) → Int
  | [] => 0
  | z :: T => ng (ln c0 c1 z.1 * z.2) + dnS c0 c1 T
theorem raf_loop {c0 c1 c2 c3 m K : Int} {X : D} {s : S} {a b j k l n : Nat} [Bi c0 a] [Bi c1 b] [bm : Bi m j] [Bi K n] (hm : 0 < m) (hK : 0 < K) (hb : a + b + j + k + l + n ≤ 100) : ∀ (T : List (P × Int)) (Up Dn : Int) (u d : Nat) (ve ti g : Option Cell), Bi Up u → Bi Dn d → u + d + 500 * T.length ≤ 1500 → (∀ z ∈ T, Sm k z.1 ∧ Bi z.2 l) →
    ∃ ve' ti' g', forL (.tp [.nm 4, .nm 5]) lb_rise_and_fall_by_0 (T.map (tack m K)) (RF (.tuple [.int c0, .int c1, .int c2, .int c3]) X (fr Up K) (fr Dn K) ve ti g) s = some (.nx (RF (.tuple [.int c0, .int c1, .int c2, .int c3]) X (fr (Up + upS c0 c1 T) K) (fr (Dn + dnS c0 c1 T) K) ve' ti' g'), s)
  | [], Up, Dn, u, d, ve, ti, g, _, _, _, _ => ⟨ve, ti, g, by simp [upS, dnS]; rfl⟩
  | z :: T, Up, Dn, u, d, ve, ti, g, bU, bD, hl, hT => by
    obtain ⟨hz, bz⟩ := hT z (by simp)
    rw [List.length_cons] at hl
    obtain ⟨g', e1⟩ := raf_step (c0 := c0) (c1 := c1) (c2 := c2) (c3 := c3) (m := m) (K := K) (Up := Up) (Dn := Dn) (z := z) (X := X) (g := g) (s := s) hz hm hK hb (by omega)
    have bl := bi_ln (a := c0) (b := c1) hz
    have bp : Bi (ln c0 c1 z.1 * z.2) ((a + k + (b + k) + 1) + l) := biMul
    have b1 : Bi (Up + ps (ln c0 c1 z.1 * z.2)) (u + ((a + k + (b + k) + 1) + l) + 1) := biAdd
    have b2 : Bi (Dn + ng (ln c0 c1 z.1 * z.2)) (d + ((a + k + (b + k) + 1) + l) + 1) := biAdd
    obtain ⟨ve', ti', g2, e2⟩ := raf_loop (c0 := c0) (c1 := c1) (m := m) (K := K) hm hK hb T _ _ _ _ (cD (nm3 z.1.1 z.1.2 m)) (cD (fr (m * z.2) K)) g' b1 b2 (by omega) (fun y hy => hT y (List.mem_cons_of_mem _ hy)) (s := s) (X := X) (c2 := c2) (c3 := c3)
    refine ⟨ve', ti', g2, ?_⟩
    have e0 : bnd (.tp [.nm 4, .nm 5]) (tack m K z) (RF (.tuple [.int c0, .int c1, .int c2, .int c3]) X (fr Up K) (fr Dn K) ve ti g) s = some (RF (.tuple [.int c0, .int c1, .int c2, .int c3]) X (fr Up K) (fr Dn K) (cD (nm3 z.1.1 z.1.2 m)) (cD (fr (m * z.2) K)) g, s) := by simp [tack, bnd, bnds, RF]
    rw [List.map_cons, forL_nx e0 e1, e2]
    have x1 : Up + ps (ln c0 c1 z.1 * z.2) + upS c0 c1 T = Up + upS c0 c1 (z :: T) := Int.add_assoc _ _ _
    have x2 : Dn + ng (ln c0 c1 z.1 * z.2) + dnS c0 c1 T = Dn + dnS c0 c1 (z :: T) := Int.add_assoc _ _ _
    rw [x1, x2]
theorem e_raf_by {c0 c1 c2 c3 m K : Int} {T : List (P × Int)} {s : S} {a b j k l n : Nat} [Bi c0 a] [Bi c1 b] [bm : Bi m j] [Bi K n] (hm : 0 < m) (hK : 0 < K) (hb : a + b + j + k + l + n ≤ 100) (hl : T.length ≤ 2) (hT : ∀ z ∈ T, Sm k z.1 ∧ Bi z.2 l) :
    f_rise_and_fall_by [.tuple [.int c0, .int c1, .int c2, .int c3], .tuple (T.map (tack m K))] s = some (.tuple [fr (upS c0 c1 T) K, fr (dnS c0 c1 T) K], s) := by
  obtain ⟨ve, ti, g, e⟩ := raf_loop (c0 := c0) (c1 := c1) (m := m) (K := K) (c2 := c2) (c3 := c3) (X := .tuple (T.map (tack m K))) (s := s) hm hK hb T 0 0 1 1 none none none bi0 bi0 (by omega) hT
  rw [Int.zero_add, Int.zero_add, fr_zero hK] at e
  have t1 : sPar 2 3 (aCons (mC (.tuple [(.int 0), (.int 1)])) (aCons (mC (.tuple [(.int 0), (.int 1)])) aNil)) (startE 7 [.tuple [.int c0, .int c1, .int c2, .int c3], .tuple (T.map (tack m K))]) s = some (.nx (RF (.tuple [.int c0, .int c1, .int c2, .int c3]) (.tuple (T.map (tack m K))) (fD 0 1) (fD 0 1) none none none), s) := by
    simp [sPar, aCons, aNil, mC, mThen, mLift, startE, RF, isD]
  have t2 := (sFor_at (p := .tp [.nm 4, .nm 5]) (body := lb_rise_and_fall_by_0) (it := mIt (mVar 1)) (ρ := RF (.tuple [.int c0, .int c1, .int c2, .int c3]) (.tuple (T.map (tack m K))) (fD 0 1) (fD 0 1) none none none) (s := s) (s1 := s) (xs := T.map (tack m K)) (by simp [mIt, mThen, mLift, mVar, RF, itOf])).trans e
  refine fnM_rt rfl ?_
  unfold g_rise_and_fall_by
  rw [sSeq_nx t1, sSeq_nx t2]
  have i1 : isD (fr (upS c0 c1 T) K) = true := rfl
  have i2 : isD (fr (dnS c0 c1 T) K) = true := rfl
  have z2 : (2 : Nat) ≤ sizeLine := le_size (by decide)
  simp [sRet, mTup, aCons, aNil, mThen, mLift, mVar, RF, isDs, i1, i2, z2]
/-! the law's fractions -/
theorem e_lratio {a b : Int} {s : S} {m : Nat} (hb : 0 < b) [p : Bi b m] (hm : m < 8999) : f__law_ratio [.int a, .int b] s = some (fr a b, s) := by
  have h2 := gcd_pos (a := a) hb
  have i1 := gcd_bi (a := a) hb p
  have h3 : dDiv (.int a) (.int (gcdI a b)) = _ := divB h2 hm
  have h4 : dDiv (.int b) (.int (gcdI a b)) = _ := divB h2 hm
  unfold fr nmN nmD
  simp [f__law_ratio, g__law_ratio, fnM, startE, sSeq, sAsg, mF, aCons, aNil, mThen, mLift, mVar, e_gcd, bnd, sRet, mIf, mB, m2, mC, dCmp, bOf, hb, mTup, h3, h4, isDs, isD, le_size]
theorem e_ladd {U V K : Int} {s : S} {i j k : Nat} [Bi U i] [Bi V j] [Bi K k] (hK : 0 < K) (hb : i + j + k + k + k ≤ 4000) : f__law_add [fr U K, fr V K] s = some (fr (U + V) K, s) := by
  have h1 := nmD_pos (a := U) hK
  have h2 := nmD_pos (a := V) hK
  have k1 : dMul (.int (nmN U K)) (.int (nmD V K)) = _ := mulB (by omega)
  have k2 : dMul (.int (nmN V K)) (.int (nmD U K)) = _ := mulB (by omega)
  have k3 : dMul (.int (nmD U K)) (.int (nmD V K)) = _ := mulB (by omega)
  have h3 := Int.mul_pos h1 h2
  have e := e_lratio (a := nmN U K * nmD V K + nmN V K * nmD U K) (b := nmD U K * nmD V K) (s := s) h3 (by omega)
  have q : fr (nmN U K * nmD V K + nmN V K * nmD U K) (nmD U K * nmD V K) = fr (U + V) K := by
    refine fr_same h3 hK ?_
    have a1 := nm_of (U := U) hK
    have a2 := nm_of (U := V) hK
    have : (nmN U K * nmD V K + nmN V K * nmD U K) * K = (nmN U K * K) * nmD V K + (nmN V K * K) * nmD U K := by grind
    rw [this, a1, a2]; grind
  rw [q] at e
  simp [f__law_add, fnM, g__law_add, startE, fr, sSeq, mIf, mOr, mB, dIsN, isNone, isD, bOf, sNx, mThen, mLift, mVar, m2, mC, sRet, dIx, atI, ixN, mF, aCons, aNil, dAdd, k1, k2, k3, qC]
  exact by rw [e]; rfl
/-! pairs -/
def pS (a b : P) : Int := if 0 < HU.cr a b then 1 else -1
def pP (v a b : P) : Int := pS a b * HU.cr v b
def pQ (v a b : P) : Int := pS a b * HU.cr a v
def pB (a b : P) : Int := pS a b * HU.cr a b
def qual (v a b : P) : Prop := 0 < pB a b ∧ 0 ≤ pP v a b ∧ 0 ≤ pQ v a b
instance {v a b : P} : Decidable (qual v a b) := by unfold qual; infer_instance
theorem pair_id (v a b : P) : pB a b * v.1 = pP v a b * a.1 + pQ v a b * b.1 ∧ pB a b * v.2 = pP v a b * a.2 + pQ v a b * b.2 := by
  unfold pB pP pQ HU.cr
  constructor <;> grind
theorem pB_swap {a b : P} (h : HU.cr a b ≠ 0) : pB b a = pB a b ∧ ∀ v, pP v b a = pQ v a b ∧ pQ v b a = pP v a b := by
  have s := cr_anti a b
  have e : pS b a = - pS a b := by
    unfold pS
    rw [s]
    by_cases c : 0 < HU.cr a b
    · rw [if_pos c, if_neg (by omega)]
    · rw [if_neg c, if_pos (by omega)]; omega
  unfold pB pP pQ
  rw [e, s]
  refine ⟨by grind, fun v => ?_⟩
  rw [cr_anti v a, cr_anti b v]
  constructor <;> grind
theorem pair_edge {e : P × P} {v : P} (h : 0 < eH e) : pB e.1 e.2 = eH e ∧ pP v e.1 e.2 = HU.cr v e.2 ∧ pQ v e.1 e.2 = HU.cr e.1 v := by
  rw [eH_cr] at *
  unfold pB pP pQ pS
  rw [if_pos h]
  refine ⟨by omega, by omega, by omega⟩
theorem Met.pair {R : List P} (F : Fig R) {v : P} {e : P × P} (M : Met R v e) : qual v e.1 e.2 ∧ qual v e.2 e.1 ∧ pP v e.1 e.2 + pQ v e.1 e.2 = go e v ∧ pP v e.2 e.1 + pQ v e.2 e.1 = go e v ∧ pB e.1 e.2 = eH e ∧ pB e.2 e.1 = eH e := by
  obtain ⟨h1, h2⟩ := M.cone F
  obtain ⟨k1, k2, k3⟩ := pair_edge (v := v) M.h
  have ne : HU.cr e.1 e.2 ≠ 0 := by rw [← eH_cr]; have := M.h; omega
  obtain ⟨s1, s2⟩ := pB_swap ne
  obtain ⟨s3, s4⟩ := s2 v
  have g := go_two e v
  have hh := M.h
  unfold qual
  rw [s1, s3, s4, k1, k2, k3]
  refine ⟨⟨hh, h1, h2⟩, ⟨hh, h2, h1⟩, by omega, by omega, rfl, rfl⟩
theorem flat_none {R : List P} (F : Fig R) {v : P} {e : P × P} (he : e ∈ edges R) (h0 : eH e = 0) (hg : 0 < go e v) {a b : P} (ha : a ∈ R) (hb : b ∈ R) : ¬ qual v a b := fun q => by
  obtain ⟨q1, q2, q3⟩ := q
  obtain ⟨i1, i2⟩ := pair_id v a b
  have la := F.le he ha
  have lb := F.le he hb
  rw [h0] at la lb
  have : pB a b * go e v = pP v a b * go e a + pQ v a b * go e b := by
    have : pB a b * go e v = enx e * (pB a b * v.1) + eny e * (pB a b * v.2) := by unfold go ln; grind
    rw [this, i1, i2]; unfold go ln; grind
  have x1 := Int.mul_nonpos_of_nonneg_of_nonpos q2 la
  have x2 := Int.mul_nonpos_of_nonneg_of_nonpos q3 lb
  have x3 := Int.mul_pos q1 hg
  omega
end WF
/-! the law's search over pairs of corners -/
namespace WF
open PySem PySem.Spec PyProof.Rows L2 PL PLS
theorem at_dt {R : List P} {i : Nat} (h : i < R.length) : dIx (.list (R.map dt)) (.int (0 + (i : Int))) = some (dt (R.getD i (0, 0))) := by
  have x := atI_map (f := dt) (get_some h)
  rw [show (0 + (i : Int)) = (i : Int) by omega]
  exact x
def bestD (v a b : P) : D := .list [.int (pP v a b), .int (pQ v a b), .int (pB a b), dt a, dt b]
/-- what the search knows -/
def Best (R : List P) (v : P) (done : P → P → Prop) (d : D) : Prop :=
  (d = .none ∧ ∀ a b, done a b → ¬ qual v a b) ∨ ∃ a b, a ∈ R ∧ b ∈ R ∧ qual v a b ∧ d = bestD v a b ∧ ∀ a' b', done a' b' → qual v a' b' → (pP v a b + pQ v a b) * pB a' b' ≤ (pP v a' b' + pQ v a' b') * pB a b
def JE (x0 x1 x2 rim best : D) (x y w k j : Int) (t : List (Option Cell)) : PL.Env := [cD x0, cD x1, cD x2, cI x, cI y, cI w, cD rim, cD best, cI k, cI j] ++ t
theorem parts_step {R : List P} {x0 x1 x2 rim d : D} {v : P} {w k j : Int} {c10 c11 c12 c13 c14 c15 c16 c17 c18 c19 c20 : Option Cell} {s : S} {done : P → P → Prop} {kk l : Nat} {a b : P} (ha : a ∈ R) (hb : b ∈ R) (hR : ∀ r ∈ R, Sm kk r) (b1 : Bi v.1 l) (b2 : Bi v.2 l) (hbd : kk + l ≤ 200) (hj : dIx rim (.int j) = some (dt a)) (hk : dIx rim (.int k) = some (dt b)) (hB : Best R v done d) :
    ∃ d' c10' c11' c12' c13' c14' c15' c16' c17', Best R v (fun x y => done x y ∨ (x = a ∧ y = b)) d' ∧ lb__law_parts_0 (JE x0 x1 x2 rim d v.1 v.2 w k j [c10, c11, c12, c13, c14, c15, c16, c17, c18, c19, c20]) s = some (.nx (JE x0 x1 x2 rim d' v.1 v.2 w k j [c10', c11', c12', c13', c14', c15', c16', c17', c18, c19, c20]), s) := by
  have sa := hR a ha
  have sb := hR b hb
  have := sa.1
  have := sa.2
  have := sb.1
  have := sb.2
  have n01 : dMul (.int a.1) (.int b.2) = _ := mulB (by omega)
  have m2' : dMul (.int a.2) (.int b.1) = _ := mulB (by omega)
  have m3 : dMul (.int v.1) (.int b.2) = _ := mulB (by omega)
  have m4 : dMul (.int v.2) (.int b.1) = _ := mulB (by omega)
  have m5 : dMul (.int a.1) (.int v.2) = _ := mulB (by omega)
  have m6 : dMul (.int a.2) (.int v.1) = _ := mulB (by omega)
  have bS : Bi (pS a b) 1 := ⟨by unfold pS; split <;> decide⟩
  have e1 : v.1 * b.2 - v.2 * b.1 = HU.cr v b := rfl
  have e2 : a.1 * v.2 - a.2 * v.1 = HU.cr a v := rfl
  have e3 : a.1 * b.2 - a.2 * b.1 = HU.cr a b := rfl
  have bc1 : Bi (HU.cr v b) (l + kk + (l + kk) + 1) := biSub
  have bc2 : Bi (HU.cr a v) (kk + l + (kk + l) + 1) := biSub
  have bc3 : Bi (HU.cr a b) (kk + kk + (kk + kk) + 1) := biSub
  have m7 : dMul (.int (pS a b)) (.int (HU.cr v b)) = some (.int (pP v a b)) := mulB (by omega)
  have m8 : dMul (.int (pS a b)) (.int (HU.cr a v)) = some (.int (pQ v a b)) := mulB (by omega)
  have m9 : dMul (.int (pS a b)) (.int (HU.cr a b)) = some (.int (pB a b)) := mulB (by omega)
  have bp : Bi (pP v a b) (1 + (l + kk + (l + kk) + 1)) := biMul
  have bq : Bi (pQ v a b) (1 + (kk + l + (kk + l) + 1)) := biMul
  have bb : Bi (pB a b) (1 + (kk + kk + (kk + kk) + 1)) := biMul
  have t1 : sAsg (.tp [.nm 10, .nm 11]) (m2 dIx (mVar 6) (mVar 9)) (JE x0 x1 x2 rim d v.1 v.2 w k j [c10, c11, c12, c13, c14, c15, c16, c17, c18, c19, c20]) s = some (.nx (JE x0 x1 x2 rim d v.1 v.2 w k j [cI a.1, cI a.2, c12, c13, c14, c15, c16, c17, c18, c19, c20]), s) := by
    simp [sAsg, m2, mThen, mLift, mVar, JE, hj, bnd, bnds]
  have t2 : sAsg (.tp [.nm 12, .nm 13]) (m2 dIx (mVar 6) (mVar 8)) (JE x0 x1 x2 rim d v.1 v.2 w k j [cI a.1, cI a.2, c12, c13, c14, c15, c16, c17, c18, c19, c20]) s = some (.nx (JE x0 x1 x2 rim d v.1 v.2 w k j [cI a.1, cI a.2, cI b.1, cI b.2, c14, c15, c16, c17, c18, c19, c20]), s) := by
    simp [sAsg, m2, mThen, mLift, mVar, JE, hk, bnd, bnds]
  have t3 : sAsg (.nm 14) (m2 dSub (m2 dMul (mVar 10) (mVar 13)) (m2 dMul (mVar 11) (mVar 12))) (JE x0 x1 x2 rim d v.1 v.2 w k j [cI a.1, cI a.2, cI b.1, cI b.2, c14, c15, c16, c17, c18, c19, c20]) s = some (.nx (JE x0 x1 x2 rim d v.1 v.2 w k j [cI a.1, cI a.2, cI b.1, cI b.2, cI (HU.cr a b), c15, c16, c17, c18, c19, c20]), s) := by
    simp [sAsg, m2, mThen, mLift, mVar, JE, n01, m2', dSub, bnd, e3]
  have t4 : sAsg (.nm 15) (mIf (mB (m2 (dCmp fun i j => decide (j < i)) (mVar 14) (mC (.int 0)))) (mC (.int 1)) (m1 dNeg (mC (.int 1)))) (JE x0 x1 x2 rim d v.1 v.2 w k j [cI a.1, cI a.2, cI b.1, cI b.2, cI (HU.cr a b), c15, c16, c17, c18, c19, c20]) s = some (.nx (JE x0 x1 x2 rim d v.1 v.2 w k j [cI a.1, cI a.2, cI b.1, cI b.2, cI (HU.cr a b), cI (pS a b), c16, c17, c18, c19, c20]), s) := by
    unfold pS
    by_cases c : 0 < HU.cr a b
    · simp [sAsg, mIf, mB, m2, mThen, mLift, mVar, mC, JE, dCmp, bOf, c, bnd]
    · simp [sAsg, mIf, mB, m2, m1, mThen, mLift, mVar, mC, JE, dCmp, bOf, c, bnd, dNeg]
  have t5 : sPar3 16 17 14 (aCons (m2 dMul (mVar 15) (m2 dSub (m2 dMul (mVar 3) (mVar 13)) (m2 dMul (mVar 4) (mVar 12)))) (aCons (m2 dMul (mVar 15) (m2 dSub (m2 dMul (mVar 10) (mVar 4)) (m2 dMul (mVar 11) (mVar 3)))) (aCons (m2 dMul (mVar 15) (mVar 14)) aNil))) (JE x0 x1 x2 rim d v.1 v.2 w k j [cI a.1, cI a.2, cI b.1, cI b.2, cI (HU.cr a b), cI (pS a b), c16, c17, c18, c19, c20]) s = some (.nx (JE x0 x1 x2 rim d v.1 v.2 w k j [cI a.1, cI a.2, cI b.1, cI b.2, cI (pB a b), cI (pS a b), cI (pP v a b), cI (pQ v a b), c18, c19, c20]), s) := by
    simp [sPar3, aCons, aNil, m2, mThen, mLift, mVar, JE, m3, m4, m5, m6, dSub, e1, e2, m7, m8, m9, isD]
  have nxt : ∀ d' (h : Best R v (fun x y => done x y ∨ (x = a ∧ y = b)) d'), mIf (mAnd (mB (m2 (dCmp fun i j => decide (j < i)) (mVar 14) (mC (.int 0)))) (mAnd (mB (m2 (dCmp fun i j => decide (j ≤ i)) (mVar 16) (mC (.int 0)))) (mAnd (mB (m2 (dCmp fun i j => decide (j ≤ i)) (mVar 17) (mC (.int 0)))) (mOr (mB (m2 (dIsN) (mVar 7) (mC .none))) (mB (m2 (dCmp fun i j => decide (i < j)) (m2 dMul (m2 dAdd (mVar 16) (mVar 17)) (m2 dIx (mVar 7) (mC (.int 2)))) (m2 dMul (m2 dAdd (m2 dIx (mVar 7) (mC (.int 0))) (m2 dIx (mVar 7) (mC (.int 1)))) (mVar 14)))))))) (sAsg (.nm 7) (mL (mLst (aCons (mVar 16) (aCons (mVar 17) (aCons (mVar 14) (aCons (m2 dIx (mVar 6) (mVar 9)) (aCons (m2 dIx (mVar 6) (mVar 8)) aNil)))))))) (sNx) (JE x0 x1 x2 rim d v.1 v.2 w k j [cI a.1, cI a.2, cI b.1, cI b.2, cI (pB a b), cI (pS a b), cI (pP v a b), cI (pQ v a b), c18, c19, c20]) s = some (.nx (JE x0 x1 x2 rim d' v.1 v.2 w k j [cI a.1, cI a.2, cI b.1, cI b.2, cI (pB a b), cI (pS a b), cI (pP v a b), cI (pQ v a b), c18, c19, c20]), s) →
      ∃ d' c10' c11' c12' c13' c14' c15' c16' c17', Best R v (fun x y => done x y ∨ (x = a ∧ y = b)) d' ∧ lb__law_parts_0 (JE x0 x1 x2 rim d v.1 v.2 w k j [c10, c11, c12, c13, c14, c15, c16, c17, c18, c19, c20]) s = some (.nx (JE x0 x1 x2 rim d' v.1 v.2 w k j [c10', c11', c12', c13', c14', c15', c16', c17', c18, c19, c20]), s) := by
    intro d' h e
    refine ⟨d', cI a.1, cI a.2, cI b.1, cI b.2, cI (pB a b), cI (pS a b), cI (pP v a b), cI (pQ v a b), h, ?_⟩
    unfold lb__law_parts_0
    rw [sSeq_nx t1, sSeq_nx t2, sSeq_nx t3, sSeq_nx t4, sSeq_nx t5]
    exact e
  have z5 : (5 : Nat) ≤ sizeLine := le_size (by decide)
  by_cases q : qual v a b
  · obtain ⟨q1, q2, q3⟩ := q
    rcases hB with ⟨rfl, hn⟩ | ⟨a0, b0, ha0, hb0, q0, rfl, hm⟩
    · refine nxt (bestD v a b) (.inr ⟨a, b, ha, hb, ⟨q1, q2, q3⟩, rfl, fun a' b' hd hq => ?_⟩) ?_
      · rcases hd with hd | ⟨rfl, rfl⟩
        · exact absurd hq (hn a' b' hd)
        · exact Int.le_refl _
      · simp [mIf, mAnd, mOr, mB, m2, mThen, mLift, mVar, mC, JE, dCmp, bOf, q1, q2, q3, dIsN, isNone, isD, qC, sAsg, mL, mLst, aCons, aNil, hj, hk, isDs, z5, bnd, bestD]
    · obtain ⟨r1, r2, r3⟩ := q0
      have sa0 := hR a0 ha0
      have sb0 := hR b0 hb0
      have := sa0.1
      have := sa0.2
      have := sb0.1
      have := sb0.2
      have bS0 : Bi (pS a0 b0) 1 := ⟨by unfold pS; split <;> decide⟩
      have bc1' : Bi (HU.cr v b0) (l + kk + (l + kk) + 1) := biSub
      have bc2' : Bi (HU.cr a0 v) (kk + l + (kk + l) + 1) := biSub
      have bc3' : Bi (HU.cr a0 b0) (kk + kk + (kk + kk) + 1) := biSub
      have bp0 : Bi (pP v a0 b0) (1 + (l + kk + (l + kk) + 1)) := biMul
      have bq0 : Bi (pQ v a0 b0) (1 + (kk + l + (kk + l) + 1)) := biMul
      have bb0 : Bi (pB a0 b0) (1 + (kk + kk + (kk + kk) + 1)) := biMul
      have n1 : dMul (.int (pP v a b + pQ v a b)) (.int (pB a0 b0)) = _ := mulB (by omega)
      have n2 : dMul (.int (pP v a0 b0 + pQ v a0 b0)) (.int (pB a b)) = _ := mulB (by omega)
      by_cases lt : (pP v a b + pQ v a b) * pB a0 b0 < (pP v a0 b0 + pQ v a0 b0) * pB a b
      · refine nxt (bestD v a b) (.inr ⟨a, b, ha, hb, ⟨q1, q2, q3⟩, rfl, fun a' b' hd hq => ?_⟩) ?_
        · rcases hd with hd | ⟨rfl, rfl⟩
          · have h1 := hm a' b' hd hq
            have h2 := Int.mul_le_mul_of_nonneg_right h1 (Int.le_of_lt q1)
            have h3 := Int.mul_le_mul_of_nonneg_right (Int.le_of_lt lt) (Int.le_of_lt hq.1)
            have h4 : pB a0 b0 * ((pP v a b + pQ v a b) * pB a' b') ≤ pB a0 b0 * ((pP v a' b' + pQ v a' b') * pB a b) := by
              have x1 : pB a0 b0 * ((pP v a b + pQ v a b) * pB a' b') = (pP v a b + pQ v a b) * pB a0 b0 * pB a' b' := by grind
              have x2 : pB a0 b0 * ((pP v a' b' + pQ v a' b') * pB a b) = (pP v a' b' + pQ v a' b') * pB a0 b0 * pB a b := by grind
              have x3 : (pP v a0 b0 + pQ v a0 b0) * pB a b * pB a' b' = (pP v a0 b0 + pQ v a0 b0) * pB a' b' * pB a b := by grind
              omega
            exact Int.le_of_mul_le_mul_left h4 r1
          · exact Int.le_refl _
        · have i0 : ∀ x y z p q : D, dIx (.list [x, y, z, p, q]) (.int 0) = some x := fun _ _ _ _ _ => rfl
          have i1 : ∀ x y z p q : D, dIx (.list [x, y, z, p, q]) (.int 1) = some y := fun _ _ _ _ _ => rfl
          have i2 : ∀ x y z p q : D, dIx (.list [x, y, z, p, q]) (.int 2) = some z := fun _ _ _ _ _ => rfl
          simp [mIf, mAnd, mOr, mB, m2, mThen, mLift, mVar, mC, JE, dCmp, bOf, q1, q2, q3, dIsN, isNone, isD, qC, sAsg, mL, mLst, aCons, aNil, hj, hk, isDs, z5, bnd, bestD, i0, i1, i2, dAdd, n1, n2, lt]
      · refine nxt (bestD v a0 b0) (.inr ⟨a0, b0, ha0, hb0, ⟨r1, r2, r3⟩, rfl, fun a' b' hd hq => ?_⟩) ?_
        · rcases hd with hd | ⟨rfl, rfl⟩
          · exact hm a' b' hd hq
          · omega
        · simp [mIf, mAnd, mOr, mB, m2, mThen, mLift, mVar, mC, JE, dCmp, bOf, q1, q2, q3, dIsN, isNone, isD, qC, bestD, dIx, atI, ixN, dAdd, n1, n2, lt, sNx]
  · refine nxt d ?_ ?_
    · rcases hB with ⟨rfl, hn⟩ | ⟨a0, b0, ha0, hb0, q0, rfl, hm⟩
      · refine .inl ⟨rfl, fun a' b' hd => ?_⟩
        rcases hd with hd | ⟨rfl, rfl⟩
        · exact hn a' b' hd
        · exact q
      · refine .inr ⟨a0, b0, ha0, hb0, q0, rfl, fun a' b' hd hq => ?_⟩
        rcases hd with hd | ⟨rfl, rfl⟩
        · exact hm a' b' hd hq
        · exact absurd hq q
    · unfold qual at q
      by_cases q1 : 0 < pB a b
      · by_cases q2 : 0 ≤ pP v a b
        · have q3 : ¬ 0 ≤ pQ v a b := fun z => q ⟨q1, q2, z⟩
          simp [mIf, mAnd, mB, m2, mThen, mLift, mVar, mC, JE, dCmp, bOf, q1, q2, q3, qC, sNx]
        · simp [mIf, mAnd, mB, m2, mThen, mLift, mVar, mC, JE, dCmp, bOf, q1, q2, qC, sNx]
      · simp [mIf, mAnd, mB, m2, mThen, mLift, mVar, mC, JE, dCmp, bOf, q1, qC, sNx]
end WF
/-! the law's search over all pairs -/
namespace WF
open PySem PySem.Spec PyProof.Rows L2 PL PLS
def JO (x0 x1 x2 rim best : D) (x y w : Int) (k j : Option Cell) (t : List (Option Cell)) : PL.Env := [cD x0, cD x1, cD x2, cI x, cI y, cI w, cD rim, cD best, k, j] ++ t
theorem Best.mono {R : List P} {v : P} {p q : P → P → Prop} {d : D} (h : Best R v p d) (hpq : ∀ a b, q a b → p a b) : Best R v q d := by
  rcases h with ⟨h1, h2⟩ | ⟨a, b, ha, hb, h1, h2, h3⟩
  · exact .inl ⟨h1, fun a b hq => h2 a b (hpq a b hq)⟩
  · exact .inr ⟨a, b, ha, hb, h1, h2, fun a' b' hq => h3 a' b' (hpq a' b' hq)⟩
section
variable {R : List P} {x0 x1 x2 : D} {v : P} {w : Int} {s : S} {kk l : Nat}
theorem parts_inner (hR : ∀ r ∈ R, Sm kk r) (b1 : Bi v.1 l) (b2 : Bi v.2 l) (hbd : kk + l ≤ 200) {kN : Nat} (hk : kN < R.length) : ∀ (js : List Nat) (done : P → P → Prop) (d : D) (j0 c10 c11 c12 c13 c14 c15 c16 c17 c18 c19 c20 : Option Cell), (∀ j ∈ js, j < R.length) → Best R v done d →
    ∃ d' j' c10' c11' c12' c13' c14' c15' c16' c17', Best R v (fun x y => done x y ∨ ∃ j ∈ js, x = R.getD j (0, 0) ∧ y = R.getD kN (0, 0)) d' ∧
      forL (.nm 9) lb__law_parts_0 (js.map fun (j : Nat) => PyData.int (0 + (j : Int))) (JO x0 x1 x2 (.list (R.map dt)) d v.1 v.2 w (cI (0 + (kN : Int))) j0 [c10, c11, c12, c13, c14, c15, c16, c17, c18, c19, c20]) s = some (.nx (JO x0 x1 x2 (.list (R.map dt)) d' v.1 v.2 w (cI (0 + (kN : Int))) j' [c10', c11', c12', c13', c14', c15', c16', c17', c18, c19, c20]), s)
  | [], done, d, j0, c10, c11, c12, c13, c14, c15, c16, c17, c18, c19, c20, _, hB => ⟨d, j0, c10, c11, c12, c13, c14, c15, c16, c17, hB.mono (by rintro a b (h | ⟨j, hj, _⟩); exact h; cases hj), rfl⟩
  | j :: js, done, d, j0, c10, c11, c12, c13, c14, c15, c16, c17, c18, c19, c20, hjs, hB => by
    have hj := hjs j (by simp)
    obtain ⟨d1, e10, e11, e12, e13, e14, e15, e16, e17, hB1, st⟩ := parts_step (x0 := x0) (x1 := x1) (x2 := x2) (w := w) (c10 := c10) (c11 := c11) (c12 := c12) (c13 := c13) (c14 := c14) (c15 := c15) (c16 := c16) (c17 := c17) (c18 := c18) (c19 := c19) (c20 := c20) (s := s) (getD_mem hj) (getD_mem hk) hR b1 b2 hbd (at_dt hj) (at_dt hk) hB
    obtain ⟨d2, j2, f10, f11, f12, f13, f14, f15, f16, f17, hB2, e2⟩ := parts_inner hR b1 b2 hbd hk js _ d1 (cI (0 + (j : Int))) e10 e11 e12 e13 e14 e15 e16 e17 c18 c19 c20 (fun y hy => hjs y (List.mem_cons_of_mem _ hy)) hB1
    refine ⟨d2, j2, f10, f11, f12, f13, f14, f15, f16, f17, hB2.mono ?_, ?_⟩
    · rintro a b (h | ⟨y, hy, h⟩)
      · exact .inl (.inl h)
      · rcases List.mem_cons.mp hy with rfl | hy
        · exact .inl (.inr h)
        · exact .inr ⟨y, hy, h⟩
    · have e0 : bnd (.nm 9) (.int (0 + (j : Int))) (JO x0 x1 x2 (.list (R.map dt)) d v.1 v.2 w (cI (0 + (kN : Int))) j0 [c10, c11, c12, c13, c14, c15, c16, c17, c18, c19, c20]) s = some (JE x0 x1 x2 (.list (R.map dt)) d v.1 v.2 w (0 + (kN : Int)) (0 + (j : Int)) [c10, c11, c12, c13, c14, c15, c16, c17, c18, c19, c20], s) := by simp [bnd, JO, JE]
      rw [List.map_cons, forL_nx e0 st]
      exact e2
theorem mA_v {f : List D → Option (List D)} {c : D} {xs : List D} {ρ : PL.Env} {s : S} {i : Nat} (h0 : ρ[i]? = some (some (.fz c))) (h : f [c] = some xs) : mA f (aCons (mVar i) aNil) ρ s = some (xs, s) := by
  simp [mA, aCons, aNil, mThen, mLift, mVar, h0, h]
theorem parts_outer (hR : ∀ r ∈ R, Sm kk r) (b1 : Bi v.1 l) (b2 : Bi v.2 l) (hbd : kk + l ≤ 200) (hl : R.length < 1000) : ∀ (ks : List Nat) (done : P → P → Prop) (d : D) (k0 j0 c10 c11 c12 c13 c14 c15 c16 c17 c18 c19 c20 : Option Cell), (∀ k ∈ ks, k < R.length) → Best R v done d →
    ∃ d' k' j' c10' c11' c12' c13' c14' c15' c16' c17', Best R v (fun x y => done x y ∨ ∃ k ∈ ks, ∃ j, j < k ∧ x = R.getD j (0, 0) ∧ y = R.getD k (0, 0)) d' ∧
      forL (.nm 8) lb__law_parts_1 (ks.map fun (k : Nat) => PyData.int (0 + (k : Int))) (JO x0 x1 x2 (.list (R.map dt)) d v.1 v.2 w k0 j0 [c10, c11, c12, c13, c14, c15, c16, c17, c18, c19, c20]) s = some (.nx (JO x0 x1 x2 (.list (R.map dt)) d' v.1 v.2 w k' j' [c10', c11', c12', c13', c14', c15', c16', c17', c18, c19, c20]), s)
  | [], done, d, k0, j0, c10, c11, c12, c13, c14, c15, c16, c17, c18, c19, c20, _, hB => ⟨d, k0, j0, c10, c11, c12, c13, c14, c15, c16, c17, hB.mono (by rintro a b (h | ⟨j, hj, _⟩); exact h; cases hj), rfl⟩
  | k :: ks, done, d, k0, j0, c10, c11, c12, c13, c14, c15, c16, c17, c18, c19, c20, hks, hB => by
    have hk := hks k (by simp)
    have rg : rg1 [.int (0 + (k : Int))] = some ((List.range k).map fun (i : Nat) => PyData.int (0 + (i : Int))) := by
      have := rg1_n (n := k) (by omega)
      rw [show (0 + (k : Int)) = (k : Int) by omega]
      exact this
    obtain ⟨d1, j1, e10, e11, e12, e13, e14, e15, e16, e17, hB1, e1⟩ := parts_inner (x0 := x0) (x1 := x1) (x2 := x2) (w := w) (s := s) hR b1 b2 hbd hk (List.range k) done d j0 c10 c11 c12 c13 c14 c15 c16 c17 c18 c19 c20 (fun j hj => by rw [List.mem_range] at hj; omega) hB
    obtain ⟨d2, k2, j2, f10, f11, f12, f13, f14, f15, f16, f17, hB2, e2⟩ := parts_outer hR b1 b2 hbd hl ks _ d1 (cI (0 + (k : Int))) j1 e10 e11 e12 e13 e14 e15 e16 e17 c18 c19 c20 (fun y hy => hks y (List.mem_cons_of_mem _ hy)) hB1
    refine ⟨d2, k2, j2, f10, f11, f12, f13, f14, f15, f16, f17, hB2.mono ?_, ?_⟩
    · rintro a b (h | ⟨y, hy, j, hj, h⟩)
      · exact .inl (.inl h)
      · rcases List.mem_cons.mp hy with rfl | hy
        · exact .inl (.inr ⟨j, List.mem_range.mpr hj, h⟩)
        · exact .inr ⟨y, hy, j, hj, h⟩
    · have e0 : bnd (.nm 8) (.int (0 + (k : Int))) (JO x0 x1 x2 (.list (R.map dt)) d v.1 v.2 w k0 j0 [c10, c11, c12, c13, c14, c15, c16, c17, c18, c19, c20]) s = some (JO x0 x1 x2 (.list (R.map dt)) d v.1 v.2 w (cI (0 + (k : Int))) j0 [c10, c11, c12, c13, c14, c15, c16, c17, c18, c19, c20], s) := by simp [bnd, JO]
      have st : lb__law_parts_1 (JO x0 x1 x2 (.list (R.map dt)) d v.1 v.2 w (cI (0 + (k : Int))) j0 [c10, c11, c12, c13, c14, c15, c16, c17, c18, c19, c20]) s = _ := (sFor_at (mA_v (c := .int (0 + (k : Int))) rfl rg)).trans e1
      rw [List.map_cons, forL_nx e0 st]
      exact e2
/-- all pairs, the earlier corner first -/
def AllP (R : List P) (x y : P) : Prop := ∃ k, k < R.length ∧ ∃ j, j < k ∧ x = R.getD j (0, 0) ∧ y = R.getD k (0, 0)
def two (v a b : P) : List (P × Int) := [(a, pP v a b), (b, pQ v a b)]
def pz (z : P × Int) : Bool := decide (0 < z.2)
def part (K : Int) (z : P × Int) : D := .tuple [dt z.1, fr z.2 K]
theorem e_law_parts {m : D} (hR : ∀ r ∈ R, Sm kk r) (b1 : Bi v.1 l) (b2 : Bi v.2 l) (hbd : kk + l ≤ 200) (hl : R.length < 1000) (hw : 0 < w) {i : Nat} [bw : Bi w i] (hi : i ≤ 200) :
    (v.1 = 0 ∧ v.2 = 0 ∧ f__law_parts [.list [.list (R.map dt), m], pD 0 0 1, pD v.1 v.2 w] s = some (.list [], s)) ∨
    ((v.1 ≠ 0 ∨ v.2 ≠ 0) ∧ (∀ a b, AllP R a b → ¬ qual v a b) ∧ f__law_parts [.list [.list (R.map dt), m], pD 0 0 1, pD v.1 v.2 w] s = some (.none, s)) ∨
    ∃ a b, a ∈ R ∧ b ∈ R ∧ (v.1 ≠ 0 ∨ v.2 ≠ 0) ∧ qual v a b ∧ (∀ a' b', AllP R a' b' → qual v a' b' → (pP v a b + pQ v a b) * pB a' b' ≤ (pP v a' b' + pQ v a' b') * pB a b) ∧
      f__law_parts [.list [.list (R.map dt), m], pD 0 0 1, pD v.1 v.2 w] s = some (.list (((two v a b).filter pz).map (part (pB a b * w))), s) := by
  have m1' : dMul (.int v.1) (.int 1) = some (.int v.1) := by have := mulB (x := v.1) (y := 1) (a := l) (b := 1) (by omega); rw [Int.mul_one] at this; exact this
  have m2' : dMul (.int v.2) (.int 1) = some (.int v.2) := by have := mulB (x := v.2) (y := 1) (a := l) (b := 1) (by omega); rw [Int.mul_one] at this; exact this
  have m3 : dMul (.int 0) (.int w) = some (.int 0) := by have := mulB (x := 0) (y := w) (a := 1) (b := i) (by omega); rw [Int.zero_mul] at this; exact this
  have m4 : dMul (.int 1) (.int w) = some (.int w) := by have := mulB (x := 1) (y := w) (a := 1) (b := i) (by omega); rw [Int.one_mul] at this; exact this
  have t1 : sAsg (.tp [.nm 3, .nm 4, .nm 5]) (mTup (aCons (m2 dSub (m2 dMul (m2 dIx (mVar 2) (mC (.int 0))) (m2 dIx (mVar 1) (mC (.int 2)))) (m2 dMul (m2 dIx (mVar 1) (mC (.int 0))) (m2 dIx (mVar 2) (mC (.int 2))))) (aCons (m2 dSub (m2 dMul (m2 dIx (mVar 2) (mC (.int 1))) (m2 dIx (mVar 1) (mC (.int 2)))) (m2 dMul (m2 dIx (mVar 1) (mC (.int 1))) (m2 dIx (mVar 2) (mC (.int 2))))) (aCons (m2 dMul (m2 dIx (mVar 1) (mC (.int 2))) (m2 dIx (mVar 2) (mC (.int 2)))) aNil)))) (startE 21 [.list [.list (R.map dt), m], pD 0 0 1, pD v.1 v.2 w]) s = some (.nx [cD (.list [.list (R.map dt), m]), cD (pD 0 0 1), cD (pD v.1 v.2 w), cI v.1, cI v.2, cI w, none, none, none, none, none, none, none, none, none, none, none, none, none, none, none], s) := by
    simp [sAsg, mTup, aCons, aNil, m2, mThen, mLift, mVar, mC, startE, dIx, atI, ixN, m1', m2', m3, m4, dSub, isDs, isD, le_size, bnd, bnds]
  have t2 : sAsg (.tp [.nm 6, .nm 7]) (mTup (aCons (m2 dIx (mVar 0) (mC (.int 0))) (aCons (mC .none) aNil))) [cD (.list [.list (R.map dt), m]), cD (pD 0 0 1), cD (pD v.1 v.2 w), cI v.1, cI v.2, cI w, none, none, none, none, none, none, none, none, none, none, none, none, none, none, none] s = some (.nx (JO (.list [.list (R.map dt), m]) (pD 0 0 1) (pD v.1 v.2 w) (.list (R.map dt)) .none v.1 v.2 w none none [none, none, none, none, none, none, none, none, none, none, none]), s) := by
    simp [sAsg, mTup, aCons, aNil, m2, mThen, mLift, mVar, mC, dIx, atI, ixN, isDs, isD, le_size, bnd, bnds, JO]
  by_cases hv : v.1 = 0 ∧ v.2 = 0
  · refine .inl ⟨hv.1, hv.2, fnM_rt rfl ?_⟩
    unfold g__law_parts
    rw [sSeq_nx t1, sSeq_nx t2]
    refine sSeq_rt ?_
    simp [mIf, mAnd, mB, m2, mThen, mLift, mVar, mC, JO, hv.1, hv.2, eqI, bOf, sRet, mL, mLst, aNil, isDs, qC]
  · have hv' : v.1 ≠ 0 ∨ v.2 ≠ 0 := by omega
    have t3 : mIf (mAnd (mB (m2 (dEq) (mVar 3) (mC (.int 0)))) (mB (m2 (dEq) (mVar 4) (mC (.int 0))))) (sRet (mL (mLst aNil))) (sNx) (JO (.list [.list (R.map dt), m]) (pD 0 0 1) (pD v.1 v.2 w) (.list (R.map dt)) .none v.1 v.2 w none none [none, none, none, none, none, none, none, none, none, none, none]) s = some (.nx (JO (.list [.list (R.map dt), m]) (pD 0 0 1) (pD v.1 v.2 w) (.list (R.map dt)) .none v.1 v.2 w none none [none, none, none, none, none, none, none, none, none, none, none]), s) := by
      by_cases c1 : v.1 = 0
      · have c2 : ¬ v.2 = 0 := fun z => hv ⟨c1, z⟩
        simp [mIf, mAnd, mB, m2, mThen, mLift, mVar, mC, JO, c1, c2, eqI, bOf, sNx]
      · simp [mIf, mAnd, mB, m2, mThen, mLift, mVar, mC, JO, c1, eqI, bOf, sNx, qC]
    obtain ⟨d, k', j', f10, f11, f12, f13, f14, f15, f16, f17, hB, e4⟩ := parts_outer (x0 := .list [.list (R.map dt), m]) (x1 := pD 0 0 1) (x2 := pD v.1 v.2 w) (w := w) (s := s) hR b1 b2 hbd hl (List.range R.length) (fun _ _ => False) .none none none none none none none none none none none none none none (fun k hk => List.mem_range.mp hk) (.inl ⟨rfl, fun _ _ h => h.elim⟩)
    have hB' : Best R v (AllP R) d := hB.mono (by
      rintro a b ⟨k, hk, j, hj, h⟩
      exact .inr ⟨k, List.mem_range.mpr hk, j, hj, h⟩)
    have t4 := (sFor_at (p := .nm 8) (body := lb__law_parts_1) (s := s) (ρ := JO (.list [.list (R.map dt), m]) (pD 0 0 1) (pD v.1 v.2 w) (.list (R.map dt)) .none v.1 v.2 w none none [none, none, none, none, none, none, none, none, none, none, none]) (mA_len (i := 6) (X := .list (R.map dt)) rfl (by simp [bLen]) (rg1_n hl))).trans e4
    rcases hB' with ⟨rfl, hn⟩ | ⟨a, b, ha, hb, hq, rfl, hm⟩
    · refine .inr (.inl ⟨hv', hn, fnM_rt rfl ?_⟩)
      unfold g__law_parts
      rw [sSeq_nx t1, sSeq_nx t2, sSeq_nx t3, sSeq_nx t4]
      refine sSeq_rt ?_
      simp [mIf, mB, m2, mThen, mLift, mVar, mC, JO, dIsN, isNone, isD, bOf, sRet]
    · refine .inr (.inr ⟨a, b, ha, hb, hv', hq, hm, fnM_rt rfl ?_⟩)
      have t5 : mIf (mB (m2 (dIsN) (mVar 7) (mC .none))) (sRet (mC .none)) (sNx) (JO (.list [.list (R.map dt), m]) (pD 0 0 1) (pD v.1 v.2 w) (.list (R.map dt)) (bestD v a b) v.1 v.2 w k' j' [f10, f11, f12, f13, f14, f15, f16, f17, none, none, none]) s = some (.nx (JO (.list [.list (R.map dt), m]) (pD 0 0 1) (pD v.1 v.2 w) (.list (R.map dt)) (bestD v a b) v.1 v.2 w k' j' [f10, f11, f12, f13, f14, f15, f16, f17, none, none, none]), s) := by
        simp [mIf, mB, m2, mThen, mLift, mVar, mC, JO, bestD, dIsN, isNone, isD, bOf, sNx]
      have i0 : dIx (bestD v a b) (.int 0) = some (.int (pP v a b)) := rfl
      have i1 : dIx (bestD v a b) (.int 1) = some (.int (pQ v a b)) := rfl
      have i2 : dIx (bestD v a b) (.int 2) = some (.int (pB a b)) := rfl
      have i3 : dIx (bestD v a b) (.int 3) = some (dt a) := rfl
      have i4 : dIx (bestD v a b) (.int 4) = some (dt b) := rfl
      have t6 : sAsg (.nm 18) (mL (mLst (aCons (mTup (aCons (m2 dIx (mVar 7) (mC (.int 3))) (aCons (m2 dIx (mVar 7) (mC (.int 0))) aNil))) (aCons (mTup (aCons (m2 dIx (mVar 7) (mC (.int 4))) (aCons (m2 dIx (mVar 7) (mC (.int 1))) aNil))) aNil)))) (JO (.list [.list (R.map dt), m]) (pD 0 0 1) (pD v.1 v.2 w) (.list (R.map dt)) (bestD v a b) v.1 v.2 w k' j' [f10, f11, f12, f13, f14, f15, f16, f17, none, none, none]) s = some (.nx (JO (.list [.list (R.map dt), m]) (pD 0 0 1) (pD v.1 v.2 w) (.list (R.map dt)) (bestD v a b) v.1 v.2 w k' j' [f10, f11, f12, f13, f14, f15, f16, f17, cD (.list ((two v a b).map fun z => .tuple [dt z.1, .int z.2])), none, none]), s) := by
        simp [sAsg, mL, mLst, mTup, aCons, aNil, m2, mThen, mLift, mVar, mC, JO, i0, i1, i3, i4, isDs, isD, le_size, bnd, two]
      have sa := hR a ha
      have sb := hR b hb
      have := sa.1
      have := sa.2
      have := sb.1
      have := sb.2
      have bS0 : Bi (pS a b) 1 := ⟨by unfold pS; split <;> decide⟩
      have bc3' : Bi (HU.cr a b) (kk + kk + (kk + kk) + 1) := biSub
      have bb0 : Bi (pB a b) (1 + (kk + kk + (kk + kk) + 1)) := biMul
      have n1 : dMul (.int (pB a b)) (.int w) = _ := mulB (by omega)
      have hK : 0 < pB a b * w := Int.mul_pos hq.1 hw
      have t7 : mLc (mIt (mVar 18)) [19, 20] (.tp [.nm 19, .nm 20]) (mB (m2 (dCmp fun i j => decide (j < i)) (mVar 20) (mC (.int 0)))) le__law_parts_2 (JO (.list [.list (R.map dt), m]) (pD 0 0 1) (pD v.1 v.2 w) (.list (R.map dt)) (bestD v a b) v.1 v.2 w k' j' [f10, f11, f12, f13, f14, f15, f16, f17, cD (.list ((two v a b).map fun z => .tuple [dt z.1, .int z.2])), none, none]) s = some (((two v a b).filter pz).map (part (pB a b * w)), s) := by
        refine mLc_fm (enc := fun z : P × Int => .tuple [dt z.1, .int z.2]) (by simp [mIt, mThen, mLift, mVar, JO, itOf]) (by simp [two]) fun z hz => ⟨JO (.list [.list (R.map dt), m]) (pD 0 0 1) (pD v.1 v.2 w) (.list (R.map dt)) (bestD v a b) v.1 v.2 w k' j' [f10, f11, f12, f13, f14, f15, f16, f17, cD (.list ((two v a b).map fun z => .tuple [dt z.1, .int z.2])), cD (dt z.1), cI z.2], by simp [bnd, bnds, wipeE, JO], ?_, fun hp => ⟨?_, rfl⟩⟩
        · simp [mB, m2, mThen, mLift, mVar, mC, JO, dCmp, bOf, pz]
        · have er := e_lratio (a := z.2) (b := pB a b * w) (s := s) hK (by omega)
          have i5 : isD (fr z.2 (pB a b * w)) = true := rfl
          unfold part
          generalize fr z.2 (pB a b * w) = G at *
          have i6 : isD (dt z.1) = true := rfl
          generalize dt z.1 = G2 at *
          have z2 : (2 : Nat) ≤ sizeLine := le_size (by decide)
          simp [le__law_parts_2, mTup, mF, aCons, aNil, m2, mThen, mLift, mVar, mC, JO, i2, n1, er, isDs, i5, i6, z2]
      unfold g__law_parts
      rw [sSeq_nx t1, sSeq_nx t2, sSeq_nx t3, sSeq_nx t4, sSeq_nx t5, sSeq_nx t6]
      have v7 : mL (mLc (mIt (mVar 18)) [19, 20] (.tp [.nm 19, .nm 20]) (mB (m2 (dCmp fun i j => decide (j < i)) (mVar 20) (mC (.int 0)))) le__law_parts_2) (JO (.list [.list (R.map dt), m]) (pD 0 0 1) (pD v.1 v.2 w) (.list (R.map dt)) (bestD v a b) v.1 v.2 w k' j' [f10, f11, f12, f13, f14, f15, f16, f17, cD (.list ((two v a b).map fun z => .tuple [dt z.1, .int z.2])), none, none]) s = some (.list (((two v a b).filter pz).map (part (pB a b * w))), s) := by simp only [mL, mThen, t7, mLift]
      generalize mL _ = G at v7 ⊢
      simp [sRet, mThen, mLift, v7]
end
end WF
/-! what the law's parts rise and fall; both alike -/
namespace WF
open PySem PySem.Spec PyProof.Rows L2 PL PLS
theorem e_lratio_fr {t n K : Int} {s : S} {i j k : Nat} [Bi t i] [Bi n j] [Bi K k] (hK : 0 < K) (hb : i + j + k ≤ 4000) : f__law_ratio [.int (t * nmN n K), .int (nmD n K)] s = some (fr (t * n) K, s) := by
  have h1 := nmD_pos (a := n) hK
  rw [e_lratio (a := t * nmN n K) (b := nmD n K) (s := s) h1 (m := k) (by omega)]
  rw [fr_same (a := t * nmN n K) (b := nmD n K) (c := t * n) (d := K) h1 hK]
  have := nm_of (U := n) hK
  have e : t * nmN n K * K = t * (nmN n K * K) := by grind
  rw [e, this]; grind
theorem grow_step {c0 c1 c2 c3 K Up Dn : Int} {z : P × Int} {X : D} {g : Option Cell} {s : S} {a b k l n u d : Nat} [Bi c0 a] [Bi c1 b] [Bi K n] [bz : Bi z.2 l] [Bi Up u] [Bi Dn d] (hz : Sm k z.1) (hz2 : 0 < z.2) (hK : 0 < K) (hb : a + b + k + l + n ≤ 100) (hb2 : u + d ≤ 1500) :
    ∃ g', lb__law_growth_0 (RF (.tuple [.int c0, .int c1, .int c2, .int c3]) X (fr Up K) (fr Dn K) (cD (dt z.1)) (cD (fr z.2 K)) g) s = some (.nx (RF (.tuple [.int c0, .int c1, .int c2, .int c3]) X (fr (Up + ps (ln c0 c1 z.1 * z.2)) K) (fr (Dn + ng (ln c0 c1 z.1 * z.2)) K) (cD (dt z.1)) (cD (fr z.2 K)) g'), s) := by
  have := hz.1
  have := hz.2
  have n1 : dMul (.int c0) (.int z.1.1) = _ := mulB (by omega)
  have n2 : dMul (.int c1) (.int z.1.2) = _ := mulB (by omega)
  have e0 : c0 * z.1.1 + c1 * z.1.2 = ln c0 c1 z.1 := rfl
  have bl := bi_ln (a := c0) (b := c1) hz
  generalize ln c0 c1 z.1 = lz at *
  have n3 : dMul (.int lz) (.int (nmN z.2 K)) = _ := mulB (by omega)
  have er := e_lratio_fr (t := lz) (n := z.2) (K := K) (s := s) hK (by omega)
  have er2 := e_lratio_fr (t := -lz) (n := z.2) (K := K) (s := s) hK (by omega)
  rw [Int.neg_mul, Int.neg_mul] at er2
  have bp : Bi (lz * z.2) ((a + k + (b + k) + 1) + l) := biMul
  have ea := e_ladd (U := Up) (V := lz * z.2) (s := s) hK (by omega)
  have ea2 := e_ladd (U := Dn) (V := -(lz * z.2)) (s := s) hK (by omega)
  have i0 : dIx (fr z.2 K) (.int 0) = some (.int (nmN z.2 K)) := rfl
  have i1 : dIx (fr z.2 K) (.int 1) = some (.int (nmD z.2 K)) := rfl
  have j0 : dIx (.tuple [.int c0, .int c1, .int c2, .int c3]) (.int 0) = some (.int c0) := rfl
  have j1 : dIx (.tuple [.int c0, .int c1, .int c2, .int c3]) (.int 1) = some (.int c1) := rfl
  have y0 : dIx (dt z.1) (.int 0) = some (.int z.1.1) := rfl
  have y1 : dIx (dt z.1) (.int 1) = some (.int z.1.2) := rfl
  generalize dt z.1 = DT at *
  refine ⟨cI lz, ?_⟩
  by_cases c : 0 < lz
  · have cp := Int.mul_pos c hz2
    have p1 : ps (lz * z.2) = lz * z.2 := by unfold ps; rw [if_neg (by omega)]
    have p2 : ng (lz * z.2) = 0 := by unfold ng; rw [if_neg (by omega)]
    rw [p1, p2, Int.add_zero]
    generalize fr (Up + lz * z.2) K = I at *
    generalize fr (lz * z.2) K = G at *
    generalize fr Up K = E at *
    generalize fr Dn K = F' at *
    generalize fr z.2 K = B at *
    simp [lb__law_growth_0, RF, sSeq, sAsg, m2, mThen, mLift, mVar, mC, j0, j1, y0, y1, n1, n2, dAdd, e0, bnd, mIf, mB, dCmp, c, bOf, mF, aCons, aNil, i0, i1, n3, er, ea]
  · have cp := Int.mul_nonpos_of_nonneg_of_nonpos (Int.le_of_lt hz2) (show lz ≤ 0 by omega)
    rw [Int.mul_comm] at cp
    have p1 : ps (lz * z.2) = 0 := by unfold ps; split <;> omega
    have p2 : ng (lz * z.2) = -(lz * z.2) := by unfold ng; split <;> omega
    rw [p1, p2, Int.add_zero]
    generalize fr (Dn + -(lz * z.2)) K = I at *
    generalize fr (-(lz * z.2)) K = G at *
    generalize fr Up K = E at *
    generalize fr Dn K = F' at *
    generalize fr z.2 K = B at *
    simp [lb__law_growth_0, RF, sSeq, sAsg, m2, mThen, mLift, mVar, mC, j0, j1, y0, y1, n1, n2, dAdd, e0, bnd, mIf, mB, dCmp, c, bOf, mF, aCons, aNil, i0, i1, n3, dSub, er2, ea2]
theorem grow_loop {c0 c1 c2 c3 K : Int} {X : D} {s : S} {a b k l n : Nat} [Bi c0 a] [Bi c1 b] [Bi K n] (hK : 0 < K) (hb : a + b + k + l + n ≤ 100) : ∀ (T : List (P × Int)) (Up Dn : Int) (u d : Nat) (ve ti g : Option Cell), Bi Up u → Bi Dn d → u + d + 500 * T.length ≤ 1500 → (∀ z ∈ T, Sm k z.1 ∧ Bi z.2 l ∧ 0 < z.2) →
    ∃ ve' ti' g', forL (.tp [.nm 4, .nm 5]) lb__law_growth_0 (T.map (part K)) (RF (.tuple [.int c0, .int c1, .int c2, .int c3]) X (fr Up K) (fr Dn K) ve ti g) s = some (.nx (RF (.tuple [.int c0, .int c1, .int c2, .int c3]) X (fr (Up + upS c0 c1 T) K) (fr (Dn + dnS c0 c1 T) K) ve' ti' g'), s)
  | [], Up, Dn, u, d, ve, ti, g, _, _, _, _ => ⟨ve, ti, g, by simp [upS, dnS]; rfl⟩
  | z :: T, Up, Dn, u, d, ve, ti, g, bU, bD, hl, hT => by
    obtain ⟨hz, bz, hz2⟩ := hT z (by simp)
    rw [List.length_cons] at hl
    obtain ⟨g', e1⟩ := grow_step (c0 := c0) (c1 := c1) (c2 := c2) (c3 := c3) (K := K) (Up := Up) (Dn := Dn) (z := z) (X := X) (g := g) (s := s) hz hz2 hK hb (by omega)
    have bl := bi_ln (a := c0) (b := c1) hz
    have bp : Bi (ln c0 c1 z.1 * z.2) ((a + k + (b + k) + 1) + l) := biMul
    have b1 : Bi (Up + ps (ln c0 c1 z.1 * z.2)) (u + ((a + k + (b + k) + 1) + l) + 1) := biAdd
    have b2 : Bi (Dn + ng (ln c0 c1 z.1 * z.2)) (d + ((a + k + (b + k) + 1) + l) + 1) := biAdd
    obtain ⟨ve', ti', g2, e2⟩ := grow_loop (c0 := c0) (c1 := c1) (K := K) hK hb T _ _ _ _ (cD (dt z.1)) (cD (fr z.2 K)) g' b1 b2 (by omega) (fun y hy => hT y (List.mem_cons_of_mem _ hy)) (s := s) (X := X) (c2 := c2) (c3 := c3)
    refine ⟨ve', ti', g2, ?_⟩
    have e0 : bnd (.tp [.nm 4, .nm 5]) (part K z) (RF (.tuple [.int c0, .int c1, .int c2, .int c3]) X (fr Up K) (fr Dn K) ve ti g) s = some (RF (.tuple [.int c0, .int c1, .int c2, .int c3]) X (fr Up K) (fr Dn K) (cD (dt z.1)) (cD (fr z.2 K)) g, s) := by simp [part, bnd, bnds, RF]
    rw [List.map_cons, forL_nx e0 e1, e2]
    have x1 : Up + ps (ln c0 c1 z.1 * z.2) + upS c0 c1 T = Up + upS c0 c1 (z :: T) := Int.add_assoc _ _ _
    have x2 : Dn + ng (ln c0 c1 z.1 * z.2) + dnS c0 c1 T = Dn + dnS c0 c1 (z :: T) := Int.add_assoc _ _ _
    rw [x1, x2]
theorem e_growth {c0 c1 c2 c3 K : Int} {T : List (P × Int)} {s : S} {a b k l n : Nat} [Bi c0 a] [Bi c1 b] [Bi K n] (hK : 0 < K) (hb : a + b + k + l + n ≤ 100) (hl : T.length ≤ 2) (hT : ∀ z ∈ T, Sm k z.1 ∧ Bi z.2 l ∧ 0 < z.2) :
    f__law_growth [.tuple [.int c0, .int c1, .int c2, .int c3], .list (T.map (part K))] s = some (.tuple [fr (upS c0 c1 T) K, fr (dnS c0 c1 T) K], s) := by
  obtain ⟨ve, ti, g, e⟩ := grow_loop (c0 := c0) (c1 := c1) (K := K) (c2 := c2) (c3 := c3) (X := .list (T.map (part K))) (s := s) hK hb T 0 0 1 1 none none none bi0 bi0 (by omega) hT
  rw [Int.zero_add, Int.zero_add, fr_zero hK] at e
  have t1 : sAsg (.tp [.nm 2, .nm 3]) (mTup (aCons (mTup (aCons (mC (.int 0)) (aCons (mC (.int 1)) aNil))) (aCons (mTup (aCons (mC (.int 0)) (aCons (mC (.int 1)) aNil))) aNil))) (startE 7 [.tuple [.int c0, .int c1, .int c2, .int c3], .list (T.map (part K))]) s = some (.nx (RF (.tuple [.int c0, .int c1, .int c2, .int c3]) (.list (T.map (part K))) (fD 0 1) (fD 0 1) none none none), s) := by
    simp [sAsg, mTup, aCons, aNil, mC, mThen, mLift, startE, RF, isDs, isD, le_size, bnd, bnds]
  have t2 := (sFor_at (p := .tp [.nm 4, .nm 5]) (body := lb__law_growth_0) (it := mIt (mVar 1)) (ρ := RF (.tuple [.int c0, .int c1, .int c2, .int c3]) (.list (T.map (part K))) (fD 0 1) (fD 0 1) none none none) (s := s) (s1 := s) (xs := T.map (part K)) (by simp [mIt, mThen, mLift, mVar, RF, itOf])).trans e
  refine fnM_rt rfl ?_
  unfold g__law_growth
  rw [sSeq_nx t1, sSeq_nx t2]
  have i1 : isD (fr (upS c0 c1 T) K) = true := rfl
  have i2 : isD (fr (dnS c0 c1 T) K) = true := rfl
  have z2 : (2 : Nat) ≤ sizeLine := le_size (by decide)
  simp [sRet, mTup, aCons, aNil, mThen, mLift, mVar, RF, isDs, i1, i2, z2]
/-! both alike -/
theorem ps_mul {f x : Int} (hx : 0 ≤ x) : ps (f * x) = x * ps f := by
  unfold ps
  by_cases c : f < 0
  · rw [if_pos c, Int.mul_zero]
    have := Int.mul_nonpos_of_nonneg_of_nonpos hx (Int.le_of_lt c)
    rw [Int.mul_comm] at this
    split <;> omega
  · rw [if_neg c]
    have := Int.mul_nonneg hx (show 0 ≤ f by omega)
    rw [Int.mul_comm] at this
    rw [if_neg (by omega), Int.mul_comm]
theorem ng_mul {f x : Int} (hx : 0 ≤ x) : ng (f * x) = x * ng f := by
  unfold ng
  by_cases c : f < 0
  · rw [if_pos c]
    have := Int.mul_nonpos_of_nonneg_of_nonpos hx (Int.le_of_lt c)
    have e : f * x = x * f := Int.mul_comm _ _
    have e2 : x * -f = -(x * f) := Int.mul_neg _ _
    split <;> omega
  · rw [if_neg c, Int.mul_zero]
    have := Int.mul_nonneg hx (show 0 ≤ f by omega)
    have e : f * x = x * f := Int.mul_comm _ _
    rw [if_neg (by omega)]
theorem up_filter {c0 c1 : Int} {f : P × Int → Bool} (hf : ∀ z, f z = false → 0 ≤ z.2 → z.2 = 0) : ∀ T : List (P × Int), (∀ z ∈ T, 0 ≤ z.2) → upS c0 c1 (T.filter f) = upS c0 c1 T ∧ dnS c0 c1 (T.filter f) = dnS c0 c1 T
  | [], _ => ⟨rfl, rfl⟩
  | z :: T, h => by
    obtain ⟨i1, i2⟩ := up_filter hf T fun y hy => h y (List.mem_cons_of_mem _ hy)
    cases c : f z with
    | true =>
      rw [List.filter_cons, if_pos c]
      unfold upS dnS
      rw [i1, i2]
      exact ⟨rfl, rfl⟩
    | false =>
      rw [List.filter_cons, if_neg (by rw [c]; decide), i1, i2]
      have z0 := hf z c (h z (by simp))
      have e1 : ps (ln c0 c1 z.1 * z.2) = 0 := by rw [z0, Int.mul_zero]; rfl
      have e2 : ng (ln c0 c1 z.1 * z.2) = 0 := by rw [z0, Int.mul_zero]; rfl
      constructor
      · show upS c0 c1 T = ps (ln c0 c1 z.1 * z.2) + upS c0 c1 T
        rw [e1]; omega
      · show dnS c0 c1 T = ng (ln c0 c1 z.1 * z.2) + dnS c0 c1 T
        rw [e2]; omega
theorem raf_same {R : List P} (F : Fig R) {v : P} {e : P × P} (M : Met R v e) {a b : P} {c0 c1 m w : Int} (hm : 0 < m) (hw : 0 < w) (ha : a ∈ R) (hb : b ∈ R) (hq : qual v a b) (hmin : (pP v a b + pQ v a b) * eH e ≤ go e v * pB a b) :
    fr (upS c0 c1 ((ends e v).filter (nzz m))) (eH e * w) = fr (upS c0 c1 ((two v a b).filter pz)) (pB a b * w) ∧ fr (dnS c0 c1 ((ends e v).filter (nzz m))) (eH e * w) = fr (dnS c0 c1 ((two v a b).filter pz)) (pB a b * w) := by
  obtain ⟨x1, x2⟩ := M.cone F
  obtain ⟨q1, q2, q3⟩ := hq
  obtain ⟨i1, i2⟩ := pair_id v a b
  have f1 := up_filter (c0 := c0) (c1 := c1) (f := nzz m) (fun z h _ => by
    unfold nzz at h
    have h' : m * z.2 = 0 := by
      cases q : (m * z.2 == 0) with
      | true => exact eq_of_beq q
      | false => rw [q] at h; cases h
    rcases Int.mul_eq_zero.mp h' with h | h
    · omega
    · exact h) (ends e v) (by
      intro z hz
      simp [ends] at hz
      rcases hz with h | h <;> subst h <;> assumption)
  have f2 := up_filter (c0 := c0) (c1 := c1) (f := pz) (fun z h h0 => by
    unfold pz at h
    simp at h
    omega) (two v a b) (by
      intro z hz
      simp [two] at hz
      rcases hz with h | h <;> subst h <;> assumption)
  rw [f1.1, f1.2, f2.1, f2.2]
  have u1 : upS c0 c1 (ends e v) = HU.cr v e.2 * ps (ln c0 c1 e.1) + HU.cr e.1 v * ps (ln c0 c1 e.2) := by
    show ps (ln c0 c1 e.1 * HU.cr v e.2) + (ps (ln c0 c1 e.2 * HU.cr e.1 v) + 0) = _
    rw [ps_mul x1, ps_mul x2]; omega
  have d1 : dnS c0 c1 (ends e v) = HU.cr v e.2 * ng (ln c0 c1 e.1) + HU.cr e.1 v * ng (ln c0 c1 e.2) := by
    show ng (ln c0 c1 e.1 * HU.cr v e.2) + (ng (ln c0 c1 e.2 * HU.cr e.1 v) + 0) = _
    rw [ng_mul x1, ng_mul x2]; omega
  have u2 : upS c0 c1 (two v a b) = pP v a b * ps (ln c0 c1 a) + pQ v a b * ps (ln c0 c1 b) := by
    show ps (ln c0 c1 a * pP v a b) + (ps (ln c0 c1 b * pQ v a b) + 0) = _
    rw [ps_mul q2, ps_mul q3]; omega
  have d2 : dnS c0 c1 (two v a b) = pP v a b * ng (ln c0 c1 a) + pQ v a b * ng (ln c0 c1 b) := by
    show ng (ln c0 c1 a * pP v a b) + (ng (ln c0 c1 b * pQ v a b) + 0) = _
    rw [ng_mul q2, ng_mul q3]; omega
  have g1 := M.weights F ha hb q1 q2 q3 i1 i2 hmin (fun r => ps (ln c0 c1 r))
  have g2 := M.weights F ha hb q1 q2 q3 i1 i2 hmin (fun r => ng (ln c0 c1 r))
  rw [u1, d1, u2, d2]
  generalize HU.cr v e.2 * ps (ln c0 c1 e.1) + HU.cr e.1 v * ps (ln c0 c1 e.2) = A at *
  generalize pP v a b * ps (ln c0 c1 a) + pQ v a b * ps (ln c0 c1 b) = B at *
  generalize HU.cr v e.2 * ng (ln c0 c1 e.1) + HU.cr e.1 v * ng (ln c0 c1 e.2) = C at *
  generalize pP v a b * ng (ln c0 c1 a) + pQ v a b * ng (ln c0 c1 b) = E at *
  refine ⟨fr_same (Int.mul_pos M.h hw) (Int.mul_pos q1 hw) ?_, fr_same (Int.mul_pos M.h hw) (Int.mul_pos q1 hw) ?_⟩
  · have : A * (pB a b * w) = (pB a b * A) * w := by grind
    rw [this, g1]; grind
  · have : C * (pB a b * w) = (pB a b * C) * w := by grind
    rw [this, g2]; grind
/-- each pair of unlike corners is among the pairs, one way or the other -/
theorem pair_done {R : List P} {a b : P} (ha : a ∈ R) (hb : b ∈ R) (ne : a ≠ b) : AllP R a b ∨ AllP R b a := by
  obtain ⟨i, hi⟩ := List.mem_iff_getElem?.mp ha
  obtain ⟨j, hj⟩ := List.mem_iff_getElem?.mp hb
  have li := (List.getElem?_eq_some_iff.mp hi).1
  have lj := (List.getElem?_eq_some_iff.mp hj).1
  have ei : R.getD i (0, 0) = a := by have := get_some li; rw [hi] at this; exact (Option.some.inj this).symm
  have ej : R.getD j (0, 0) = b := by have := get_some lj; rw [hj] at this; exact (Option.some.inj this).symm
  have nij : i ≠ j := fun z => by subst z; rw [hi] at hj; exact ne (Option.some.inj hj)
  rcases Nat.lt_or_gt_of_ne nij with h | h
  · exact .inl ⟨j, lj, i, h, ei.symm, ej.symm⟩
  · exact .inr ⟨i, li, j, h, ej.symm, ei.symm⟩
theorem allp_mem {R : List P} {a b : P} (h : AllP R a b) : a ∈ R ∧ b ∈ R := by
  obtain ⟨k, hk, j, hj, rfl, rfl⟩ := h
  exact ⟨getD_mem (by omega), getD_mem hk⟩
theorem Met.least {R : List P} (F : Fig R) {v : P} {e : P × P} (M : Met R v e) {a b : P} (hm : ∀ a' b', AllP R a' b' → qual v a' b' → (pP v a b + pQ v a b) * pB a' b' ≤ (pP v a' b' + pQ v a' b') * pB a b) : (pP v a b + pQ v a b) * eH e ≤ go e v * pB a b := by
  obtain ⟨k1, k2, k3, k4, k5, k6⟩ := M.pair F
  have mem := edge_mem M.mem
  rcases pair_done mem.1 mem.2 (F.ne _ M.mem) with h | h
  · have := hm _ _ h k1
    rw [k3, k5] at this
    exact this
  · have := hm _ _ h k2
    rw [k4, k6] at this
    exact this
theorem Met.some {R : List P} (F : Fig R) {v : P} {e : P × P} (M : Met R v e) (hn : ∀ a b, AllP R a b → ¬ qual v a b) : False := by
  obtain ⟨k1, k2, _⟩ := M.pair F
  have mem := edge_mem M.mem
  rcases pair_done mem.1 mem.2 (F.ne _ M.mem) with h | h
  · exact hn _ _ h k1
  · exact hn _ _ h k2
theorem Met.way {R : List P} {v : P} {e : P × P} (M : Met R v e) : v.1 ≠ 0 ∨ v.2 ≠ 0 := by
  by_cases c : v.1 = 0
  · refine .inr fun c2 => ?_
    have := M.g
    unfold go ln at this
    rw [c, c2] at this
    simp at this
  · exact .inl c
end WF
/-! the sack made of the script; the law's own def -/
namespace WF
open PySem PySem.Spec PyProof.Rows L2 PL PLS
def nsD (ns : List Int) : List D := ns.map PyData.int
theorem fnL_rl {n N : Nat} {body : M Out} {ds : List D} {s s' : S} {es : List D} (hl : ds.length = n) (h : body (startE N ds) s = some (.rl es, s')) : fnL n N body ds s = some (es, s') := by
  unfold fnL
  rw [if_pos hl, h]
theorem nsD_at {ns : List Int} {i : Int} (h0 : 0 ≤ i) (h1 : i < ns.length) : ∃ c, atI (nsD ns) i = some (.int c) := by
  unfold atI ixN nsD
  have hl : i.toNat < ns.length := by omega
  refine ⟨ns[i.toNat], ?_⟩
  simp [h0, h1, hl]
theorem nsD_cut (ns : List Int) : ∃ ms : List Int, cutD (nsD ns) none (some 7) = nsD ms ∧ ms.length ≤ ns.length := by
  refine ⟨(ns.drop (HT.sIx (nsD ns).length 0 none)).take (HT.sIx (nsD ns).length (nsD ns).length (some 7) - HT.sIx (nsD ns).length 0 none), ?_, ?_⟩
  · unfold PL.cutD nsD
    rw [List.map_take, List.map_drop]
  · rw [List.length_take, List.length_drop]
    omega
def LN (sc : D) (tu ce st ea : Option Cell) : PL.Env := [some (.fz sc), tu, ce, st, ea]
theorem stir_step {sc : D} {tu ce : Option Cell} {b x : Int} {s : S} (b0 : 0 ≤ b) (b1 : b < 2147483543) : ∃ b', 0 ≤ b' ∧ b' < 2147483543 ∧ lb__law_sack_0 (LN sc tu ce (cI b) (cI x)) s = some (.nx (LN sc tu ce (cI b') (cI x)), s) := by
  have hb := bi31 b0 (by omega)
  have b69 : Bi 69069 31 := biAbs (by decide)
  have m1' : dMul (.int b) (.int 69069) = _ := mulB (by decide)
  have d1 : dMod (.int x) (.int 2147483543) = _ := modB (by decide)
  have d2 : dMod (.int (b * 69069 + x % 2147483543 + 13)) (.int 2147483543) = _ := modB (by decide)
  refine ⟨(b * 69069 + x % 2147483543 + 13) % 2147483543, Int.emod_nonneg _ (by decide), Int.emod_lt_of_pos _ (by decide), ?_⟩
  simp [lb__law_sack_0, LN, sAsg, bnd, m2, mThen, mLift, mVar, mC, mCall, aCons, aNil, bInt, dAdd, m1', d1, d2]
theorem stir_loop {sc : D} {tu ce : Option Cell} {s : S} : ∀ (ms : List Int) (ea : Option Cell) (b : Int), 0 ≤ b → b < 2147483543 → ∃ b' ea', 0 ≤ b' ∧ b' < 2147483543 ∧ forL (.nm 4) lb__law_sack_0 (nsD ms) (LN sc tu ce (cI b) ea) s = some (.nx (LN sc tu ce (cI b') ea'), s)
  | [], ea, b, h0, h1 => ⟨b, ea, h0, h1, rfl⟩
  | x :: ms, ea, b, h0, h1 => by
    obtain ⟨b1, g0, g1, e⟩ := stir_step (sc := sc) (tu := tu) (ce := ce) (x := x) (s := s) h0 h1
    obtain ⟨b2, ea', k0, k1, e2⟩ := stir_loop ms (cI x) b1 g0 g1
    exact ⟨b2, ea', k0, k1, (forL_nx (ρ1 := LN sc tu ce (cI b) (cI x)) rfl e).trans e2⟩
theorem e_sack {ns : List Int} {i : Int} {s : S} (hl : ns.length ≤ 63) (h0 : 0 ≤ i) (h1 : i ≤ 2) : ∃ a b, 0 ≤ a ∧ 0 ≤ b ∧ b < 2147483543 ∧ f__law_sack [.list (nsD ns), .int i] s = some ([.int a, .int b, .int 0], s) := by
  have bi : Bi i 31 := bi31 h0 (by omega)
  have b79 : Bi 7919 31 := biAbs (by decide)
  have b17 : Bi 1709 31 := biAbs (by decide)
  obtain ⟨c, hc⟩ : ∃ c, mIf (mB (m2 (dCmp fun i j => decide (i < j)) (mVar 1) (mCall bLen (aCons (mVar 0) aNil)))) (mCall bInt (aCons (m2 dIx (mVar 0) (mVar 1)) aNil)) (m2 dAdd (m2 dMul (mC (.int 7919)) (mVar 1)) (mC (.int 101))) (LN (.list (nsD ns)) (cI i) none none none) s = some (.int c, s) := by
    by_cases h : i < (nsD ns).length
    · obtain ⟨c, e⟩ := nsD_at (ns := ns) h0 (by simpa [nsD] using h)
      refine ⟨c, ?_⟩
      simp [LN, mIf, mB, m2, mThen, mLift, mVar, mCall, aCons, aNil, bLen, dCmp, bOf, h, dIx, e, bInt]
    · have k : dMul (.int 7919) (.int i) = _ := mulB (by decide)
      refine ⟨7919 * i + 101, ?_⟩
      simp [LN, mIf, mB, m2, mThen, mLift, mVar, mC, mCall, aCons, aNil, bLen, dCmp, bOf, h, k, dAdd]
  have t1 : sAsg (.nm 2) (mIf (mB (m2 (dCmp fun i j => decide (i < j)) (mVar 1) (mCall bLen (aCons (mVar 0) aNil)))) (mCall bInt (aCons (m2 dIx (mVar 0) (mVar 1)) aNil)) (m2 dAdd (m2 dMul (mC (.int 7919)) (mVar 1)) (mC (.int 101)))) (LN (.list (nsD ns)) (cI i) none none none) s = some (.nx (LN (.list (nsD ns)) (cI i) (cI c) none none), s) := by
    unfold sAsg
    rw [hc]
    rfl
  have k2 : dMul (.int 1709) (.int i) = _ := mulB (by decide)
  have t2 : sAsg (.nm 3) (m2 dAdd (mC (.int 30011)) (m2 dMul (mC (.int 1709)) (mVar 1))) (LN (.list (nsD ns)) (cI i) (cI c) none none) s = some (.nx (LN (.list (nsD ns)) (cI i) (cI c) (cI (30011 + 1709 * i)) none), s) := by
    simp [LN, sAsg, bnd, m2, mThen, mLift, mVar, mC, k2, dAdd]
  obtain ⟨ms, hm, lm⟩ := nsD_cut ns
  obtain ⟨b, ea, b0, b1, e⟩ := stir_loop (sc := .list (nsD ns)) (tu := cI i) (ce := cI c) (s := s) (ms ++ [c]) none (30011 + 1709 * i) (by omega) (by omega)
  have el : nsD (ms ++ [c]) = nsD ms ++ [.int c] := by simp [nsD]
  have hz : (nsD ms).length + 1 ≤ sizeLine := by
    rw [sizeLine_eq]
    simp [nsD]
    omega
  have t3 : sFor (mIt (m2 dAdd (mCall bList (aCons (mSl (mVar 0) oNo (oSome (mC (.int 7)))) aNil)) (mL (mLst (aCons (mVar 2) aNil))))) (.nm 4) lb__law_sack_0 (LN (.list (nsD ns)) (cI i) (cI c) (cI (30011 + 1709 * i)) none) s = _ := (sFor_at (by
    rw [el]
    have z1 : (1 : Nat) ≤ sizeLine := by rw [sizeLine_eq]; omega
    simp [LN, mIt, m2, mThen, mLift, mVar, mC, mCall, aCons, aNil, mSl, oNo, oSome, dSl, hm, bList, mL, mLst, isDs, isD, z1, dAdd, hz, itOf])).trans e
  have p18 : dPow (.int 10) (.int 18) = some (.int 1000000000000000000) := by
    simp [dPow]
  obtain ⟨a, ha, t4⟩ : ∃ a, 0 ≤ a ∧ sRetL (mLst (aCons (mIf (mOr (mB (m2 (dCmp fun i j => decide (i < j)) (mVar 2) (mC (.int 0)))) (mB (m2 (dCmp fun i j => decide (j ≤ i)) (mVar 2) (m2 dPow (mC (.int 10)) (mC (.int 18)))))) (mCall bAbs (aCons (mVar 2) aNil)) (mC (.int 0))) (aCons (mVar 3) (aCons (mC (.int 0)) aNil)))) (LN (.list (nsD ns)) (cI i) (cI c) (cI b) ea) s = some (.rl [.int a, .int b, .int 0], s) := by
    have z3 : (3 : Nat) ≤ sizeLine := by rw [sizeLine_eq]; omega
    by_cases h : c < 0
    · refine ⟨-c, by omega, ?_⟩
      simp [LN, sRetL, mLst, aCons, aNil, mIf, mOr, mB, m2, mThen, mLift, mVar, mC, dCmp, bOf, h, qC, mCall, bAbs, isDs, isD, z3]
    · by_cases h2 : 1000000000000000000 ≤ c
      · refine ⟨c, by omega, ?_⟩
        simp [LN, sRetL, mLst, aCons, aNil, mIf, mOr, mB, m2, mThen, mLift, mVar, mC, dCmp, bOf, h, h2, p18, qC, mCall, bAbs, isDs, isD, z3]
      · refine ⟨0, by omega, ?_⟩
        simp [LN, sRetL, mLst, aCons, aNil, mIf, mOr, mB, m2, mThen, mLift, mVar, mC, dCmp, bOf, h, h2, p18, qC, mCall, bAbs, isDs, isD, z3]
  exact ⟨a, b, ha, b0, b1, fnL_rl rfl ((sSeq_nx t1).trans ((sSeq_nx t2).trans ((sSeq_nx t3).trans t4)))⟩
/-- what a law's round is to be -/
def Good (right : Fn) : Prop := ∀ s, Sk 0 s → ∃ s', right [SACK] s = some (.bool true, s')
def leLaw (right : Fn) : M D := mSack right (mFL f__law_sack (aCons (mVar 0) (aCons (mVar 1) aNil)))
theorem law_lc {right : Fn} (hg : Good right) {ns : List Int} (hl : ns.length ≤ 63) : ∀ (xs : List D), (∀ x ∈ xs, ∃ i : Int, x = .int i ∧ 0 ≤ i ∧ i ≤ 2) → ∃ bs : List Bool, lcGo (.nm 1) (qC true) (leLaw right) [some (.fz (.list (nsD ns))), none] xs [] = some (bs.map PyData.bool, []) ∧ bs.all id = true
  | [], _ => ⟨[], rfl, rfl⟩
  | x :: xs, h => by
    obtain ⟨i, rfl, i0, i1⟩ := h _ List.mem_cons_self
    obtain ⟨bs, e, t⟩ := law_lc hg hl xs fun x hx => h x (List.mem_cons_of_mem _ hx)
    obtain ⟨a, b, a0, b0, b1, e2⟩ := e_sack (ns := ns) (i := i) (s := []) hl i0 i1
    obtain ⟨s3, e3⟩ := hg [.int a, .int b, .int 0] ⟨a, b, 0, rfl, a0, b0, b1, by decide, by decide⟩
    refine ⟨true :: bs, ?_, by simpa using t⟩
    have e4 : leLaw right [some (.fz (.list (nsD ns))), some (.fz (.int i))] [] = some (.bool true, []) := by
      simp [leLaw, mSack, mFL, aCons, aNil, mThen, mLift, mVar, e2, e3, isD]
    generalize leLaw right = L at e e4 ⊢
    simp [lcGo, bnd, qC, e4, isD, e]
theorem bools_at : ∀ bs : List Bool, boolsOf (bs.map PyData.bool) = some bs
  | [] => rfl
  | b :: bs => by
    show (boolsOf (bs.map PyData.bool)).map (b :: ·) = _
    rw [bools_at bs]
    rfl
def gLaw (right : Fn) : M Out := sRet (mCall bAll (aCons (mL (mLc (mA rg1 (aCons (mCall bMax (aCons (mC (.int 2)) (aCons (mCall bMin (aCons (mCall bLen (aCons (mVar 0) aNil)) (aCons (mC (.int 3)) aNil))) aNil))) aNil)) [1] (.nm 1) (qC true) (leLaw right))) aNil))
theorem law_of {right : Fn} (hg : Good right) : ∀ ns : List Int, ns.length ≤ 63 → (∀ z ∈ ns, Builtin.Int.intBits z ≤ 1048576) → ∃ s', fnM 1 2 (gLaw right) [.list (ns.map PyData.int)] [] = some (.bool true, s') := fun ns hl _ => by
  refine ⟨[], ?_⟩
  obtain ⟨j, hj0, hj, hx⟩ : ∃ j : Int, 0 ≤ j ∧ j ≤ 3 ∧ (mA rg1 (aCons (mCall bMax (aCons (mC (.int 2)) (aCons (mCall bMin (aCons (mCall bLen (aCons (mVar 0) aNil)) (aCons (mC (.int 3)) aNil))) aNil))) aNil)) [some (.fz (.list (nsD ns))), none] [] = some (rgD 0 j.toNat, []) := by
    generalize hn : ((nsD ns).length : Int) = n
    have n0 : 0 ≤ n := by omega
    refine ⟨if (if 3 < n then 3 else n) > 2 then (if 3 < n then 3 else n) else 2, by split <;> split <;> omega, by split <;> split <;> omega, ?_⟩
    have ok : ∀ z : Int, 0 ≤ z → z ≤ 3 → okRg z = true := fun z h1 h2 => by
      unfold okRg
      rw [Bool.and_eq_true]
      exact ⟨decide_eq_true (by omega), decide_eq_true (by omega)⟩
    have o1 := ok (if (if 3 < n then 3 else n) > 2 then (if 3 < n then 3 else n) else 2) (by split <;> split <;> omega) (by split <;> split <;> omega)
    simp [mA, aCons, aNil, mThen, mLift, mVar, mC, mCall, bLen, hn, bMin, bMax]
    unfold rg1
    simp at o1
    simp [o1]
  obtain ⟨bs, e, t⟩ := law_lc hg hl (rgD 0 j.toNat) fun x hx => by
    unfold rgD at hx
    rw [List.mem_map] at hx
    obtain ⟨i, hi, rfl⟩ := hx
    rw [List.mem_range] at hi
    exact ⟨_, rfl, by omega, by omega⟩
  have hz : (rgD 0 j.toNat).length ≤ sizeLine := by
    rw [sizeLine_eq]
    simp [rgD]
    omega
  refine fnM_rt rfl ?_
  show gLaw right [some (.fz (.list (nsD ns))), none] [] = _
  unfold gLaw
  have e4 : mLc (mA rg1 (aCons (mCall bMax (aCons (mC (.int 2)) (aCons (mCall bMin (aCons (mCall bLen (aCons (mVar 0) aNil)) (aCons (mC (.int 3)) aNil))) aNil))) aNil)) [1] (.nm 1) (qC true) (leLaw right) [some (.fz (.list (nsD ns))), none] [] = some (bs.map PyData.bool, []) := by
    unfold mLc
    rw [hx]
    show (if (rgD 0 j.toNat).length ≤ sizeLine then _ else _) = _
    rw [if_pos hz]
    exact e
  generalize mLc (mA rg1 (aCons (mCall bMax (aCons (mC (.int 2)) (aCons (mCall bMin (aCons (mCall bLen (aCons (mVar 0) aNil)) (aCons (mC (.int 3)) aNil))) aNil))) aNil)) [1] (.nm 1) (qC true) (leLaw right) = L at e4 ⊢
  simp [sRet, mCall, aCons, aNil, mThen, mLift, mL, e4, bAll, bools_at]
  simpa using t
end WF
namespace K50
open PySem PySem.Spec PyProof.Rows L2 PL
def top (i : Nat) : Stmt := PySem.Challenge.pw_windfigure_k50_whole_rise_and_fall_of_wa.main.body.getD i (.Pass ⟨0, 0, 0, 0⟩)
def nmOf : Nat → Option Str
  | 9 => some "is_whole"
  | 10 => some "are_whole"
  | 11 => some "ratio"
  | 12 => some "ratio_sum"
  | 13 => some "ratio_gap"
  | 14 => some "ratio_product"
  | 15 => some "is_less"
  | 16 => some "point_of"
  | 17 => some "course_to"
  | 18 => some "side_of"
  | 19 => some "along"
  | 20 => some "overshoot"
  | 21 => some "parts_along"
  | 23 => some "is_point"
  | 24 => some "need_point"
  | 27 => some "shape_hull"
  | 28 => some "half_hull"
  | 29 => some "edge_courses"
  | 30 => some "shape_sides"
  | 31 => some "shape_support"
  | 32 => some "shape_holds"
  | 34 => some "first_no_point"
  | 35 => some "is_polygon"
  | 37 => some "is_figure"
  | 38 => some "need_figure"
  | 39 => some "time_and_side"
  | 40 => some "soonest_tacks"
  | 42 => some "is_channel"
  | 43 => some "need_channel"
  | 44 => some "cross_of"
  | 45 => some "cross_by"
  | 46 => some "rise_and_fall"
  | 47 => some "rise_and_fall_by"
  | 49 => some "_law_sack"
  | 50 => some "_law_draw"
  | 51 => some "_law_one"
  | 52 => some "_law_gcd"
  | 53 => some "_law_ratio"
  | 54 => some "_law_add"
  | 55 => some "_law_spot"
  | 56 => some "_law_said"
  | 57 => some "_law_bend"
  | 58 => some "_law_chain"
  | 59 => some "_law_rim"
  | 60 => some "_law_boat"
  | 61 => some "_law_dot"
  | 62 => some "_law_parts"
  | 63 => some "_law_normal"
  | 64 => some "_law_channel"
  | 65 => some "_law_growth"
  | 66 => some "_law_way"
  | 67 => some "_law_right"
  | 68 => some "law"
  | _ => none
structure Pg (K : PySem.W.Frag) (mg : Str → Option Value) (Ad : Nat → Addr) (Dd : Nat → FuncData) : Prop where
  fn : ∀ (i : Nat) (x : Str), nmOf i = some x → FnP K x (top i) (Ad i) (Dd i) ∧ mg x = some (.ref (Ad i))
structure Nm (K : PySem.W.Frag) (mg : Str → Option Value) : Prop where
  n_abs : mg "abs" = none
  n_all : mg "all" = none
  n_bool : mg "bool" = none
  n_divmod : mg "divmod" = none
  n_enumerate : mg "enumerate" = none
  n_int : mg "int" = none
  n_isinstance : mg "isinstance" = none
  n_len : mg "len" = none
  n_list : mg "list" = none
  n_max : mg "max" = none
  n_min : mg "min" = none
  n_range : mg "range" = none
  n_repr : mg "repr" = none
  n_set : mg "set" = none
  n_sorted : mg "sorted" = none
  n_tuple : mg "tuple" = none
  n_zip : mg "zip" = none
  g_gcd : mg "gcd" = some (.builtin "math.gcd")
  g_lcm : mg "lcm" = some (.builtin "math.lcm")
  c_AXES : Cst K mg "AXES" (.tuple [(.tuple [(.int 1), (.int 0)]), (.tuple [(.int 0), (.int 1)]), (.tuple [(.int (-1)), (.int 0)]), (.tuple [(.int 0), (.int (-1))])])
  c_NOUGHT : Cst K mg "NOUGHT" (.tuple [(.int 0), (.int 0), (.int 1)])
  c_ZERO : Cst K mg "ZERO" (.tuple [(.int 0), (.int 1)])
section
variable {Pr : Program} {w : World} {K : PySem.W.Frag} {mg : Str → Option Value} {base : Heap} {Ad : Nat → Addr} {Dd : Nat → FuncData}
theorem kw_cross_of_1_0 {K : PySem.W.Frag} {f : Addr} {fd : FuncData} (F : FnP K "cross_of" (top 44) f fd) (s : Shared) (ws : List Value) (hl : ws.length = (["point", "channel"] : List Str).length) : BindsTo s fd ⟨[], (["point", "channel"] : List Str).zip ws⟩ ((["channel", "point"] : List Str).zip (reord [1, 0] ws)) := by
  obtain ⟨oc, od, dV, kV, doc, pm, an, cdv, ct, osl, rfl, lk, hcd, hD, hK⟩ := F.ex
  rcases hD with ⟨_, rfl⟩ | ⟨e, _⟩
  · match ws, hl with
    | [_, _], _ => exact .of_eq rfl
  · exact absurd rfl e
theorem kw_rise_and_fall_1_2_0 {K : PySem.W.Frag} {f : Addr} {fd : FuncData} (F : FnP K "rise_and_fall" (top 46) f fd) (s : Shared) (ws : List Value) (hl : ws.length = (["way", "figure", "channel"] : List Str).length) : BindsTo s fd ⟨[], (["way", "figure", "channel"] : List Str).zip ws⟩ ((["figure", "channel", "way"] : List Str).zip (reord [1, 2, 0] ws)) := by
  obtain ⟨oc, od, dV, kV, doc, pm, an, cdv, ct, osl, rfl, lk, hcd, hD, hK⟩ := F.ex
  rcases hD with ⟨_, rfl⟩ | ⟨e, _⟩
  · match ws, hl with
    | [_, _, _], _ => exact .of_eq rfl
  · exact absurd rfl e
theorem sc_is_whole : FnScope ["value"] ["value"] (defScope (top 9)) := ⟨rfl, rfl, rfl, by decide +kernel, rfl, by decide +kernel, by decide +kernel⟩
theorem b_is_whole {K : PySem.W.Frag} {f : Addr} {fd : FuncData} (F : FnP K "is_whole" (top 9) f fd) : Binds K fd ["value"] [] := F.bindsN fun _ _ _ _ _ _ us hl => match us, hl with | [_], _ => rfl
theorem ok_is_whole (T : Pg K mg Ad Dd) (N : Nm K mg) : FnG Pr w K mg base CX0 1 (Ad 9) (Dd 9) ["value"] (spF K WF.f_is_whole) :=
  P.fn (T.fn 9 "is_whole" rfl).1 sc_is_whole rfl rfl fun cdv A outer s H E hg hr => by
    have hu := hr.units
    exact (P.last (P.ret (P.andV (P.isi (by rfl) N.n_isinstance (P.v 0) (by rfl) N.n_int (by decide +kernel) okT_int) (P.one (P.notV (P.isi (by rfl) N.n_isinstance (P.v 0) (by rfl) N.n_bool (by decide +kernel) okT_bool))))))
theorem sc_are_whole : FnScope ["value", "many", "part"] ["value", "many"] (defScope (top 10)) := ⟨rfl, rfl, rfl, by decide +kernel, rfl, by decide +kernel, by decide +kernel⟩
theorem b_are_whole {K : PySem.W.Frag} {f : Addr} {fd : FuncData} (F : FnP K "are_whole" (top 10) f fd) : Binds K fd ["value", "many"] [] := F.bindsN fun _ _ _ _ _ _ us hl => match us, hl with | [_, _], _ => rfl
theorem ok_are_whole (T : Pg K mg Ad Dd) (N : Nm K mg) : FnG Pr w K mg base CX0 2 (Ad 10) (Dd 10) ["value", "many"] (spF K WF.f_are_whole) :=
  P.fn (T.fn 10 "are_whole" rfl).1 sc_are_whole rfl rfl fun cdv A outer s H E hg hr => by
    have hu := hr.units
    exact (P.last (P.ret (P.andV (P.isi (by rfl) N.n_isinstance (P.v 0) (by rfl) N.n_tuple (by decide +kernel) okT_tuple) (P.andV (P.cmp (op_eqP hr.units) w_eq (P.callB call_lenA w_len (by rfl) N.n_len (by decide +kernel) (P.acons (P.v 0) P.anil)) (P.v 1) (nomark _)) (P.one (P.callB (cr_all rfl) w_all (by rfl) N.n_all (by decide +kernel) (P.acons (P.ofL (P.lc rfl sc_are_whole.nd (own := [("part", 2)]) (P.iterE (P.iter (P.v 0))) (blkOk_by (own := [("part", 2)]) (N := ["value", "many", "part"]) (sc := defScope (top 10)) (by decide +kernel)) (by decide) (fun _ _ _ _ _ => (P.gnm sc_are_whole.nd (i := 2) rfl (by first | exact .inl rfl | exact .inr rfl))) (fun _ _ _ _ _ => P.nif) (fun _ _ _ _ _ => (P.call (ok_is_whole T N) hg (hr.mono (by decide)) (by rfl) (T.fn 9 "is_whole" rfl).2 (T.fn 9 "is_whole" rfl).1.kp (b_is_whole (T.fn 9 "is_whole" rfl).1) (P.acons (P.v 2) P.anil))))) P.anil)))))))
theorem sc_ratio : FnScope ["top", "bottom", "common"] ["top", "bottom"] (defScope (top 11)) := ⟨rfl, rfl, rfl, by decide +kernel, rfl, by decide +kernel, by decide +kernel⟩
theorem b_ratio {K : PySem.W.Frag} {f : Addr} {fd : FuncData} (F : FnP K "ratio" (top 11) f fd) : Binds K fd ["top", "bottom"] [] := F.bindsN fun _ _ _ _ _ _ us hl => match us, hl with | [_, _], _ => rfl
theorem ok_ratio (T : Pg K mg Ad Dd) (N : Nm K mg) : FnG Pr w K mg base CX0 1 (Ad 11) (Dd 11) ["top", "bottom"] (spF K WF.f_ratio) :=
  P.fn (T.fn 11 "ratio" rfl).1 sc_ratio rfl rfl fun cdv A outer s H E hg hr => by
    have hu := hr.units
    exact (P.seq (P.set (i := 2) sc_ratio.nd rfl (by first | exact .inl rfl | exact .inr rfl) (P.callG cr_gcdA w_gcd (by rfl) N.g_gcd (P.acons (P.v 0) (P.acons (P.v 1) P.anil)))) (P.seq (P.iff (P.cmpT op_lt w2_cmp (P.v 1) P.int (nomark _)) (P.last (P.set (i := 2) sc_ratio.nd rfl (by first | exact .inl rfl | exact .inr rfl) (P.un un_neg w_neg (P.v 2)))) P.nil) (P.last (P.ret (P.tup (P.acons (P.op op_fdivW w_div (P.v 0) (P.v 2)) (P.acons (P.op op_fdivW w_div (P.v 1) (P.v 2)) P.anil)))))))
theorem sc_ratio_sum : FnScope ["one", "two"] ["one", "two"] (defScope (top 12)) := ⟨rfl, rfl, rfl, by decide +kernel, rfl, by decide +kernel, by decide +kernel⟩
theorem b_ratio_sum {K : PySem.W.Frag} {f : Addr} {fd : FuncData} (F : FnP K "ratio_sum" (top 12) f fd) : Binds K fd ["one", "two"] [] := F.bindsN fun _ _ _ _ _ _ us hl => match us, hl with | [_, _], _ => rfl
theorem ok_ratio_sum (T : Pg K mg Ad Dd) (N : Nm K mg) : FnG Pr w K mg base CX0 2 (Ad 12) (Dd 12) ["one", "two"] (spF K WF.f_ratio_sum) :=
  P.fn (T.fn 12 "ratio_sum" rfl).1 sc_ratio_sum rfl rfl fun cdv A outer s H E hg hr => by
    have hu := hr.units
    exact (P.last (P.ret (P.call (ok_ratio T N) hg (hr.mono (by decide)) (by rfl) (T.fn 11 "ratio" rfl).2 (T.fn 11 "ratio" rfl).1.kp (b_ratio (T.fn 11 "ratio" rfl).1) (P.acons (P.op op_addA w_add (P.op op_mulW w_mul (P.ix ix_seq w_ix (P.v 0) P.int (fun _ _ => rfl)) (P.ix ix_seq w_ix (P.v 1) P.int (fun _ _ => rfl))) (P.op op_mulW w_mul (P.ix ix_seq w_ix (P.v 1) P.int (fun _ _ => rfl)) (P.ix ix_seq w_ix (P.v 0) P.int (fun _ _ => rfl)))) (P.acons (P.op op_mulW w_mul (P.ix ix_seq w_ix (P.v 0) P.int (fun _ _ => rfl)) (P.ix ix_seq w_ix (P.v 1) P.int (fun _ _ => rfl))) P.anil)))))
theorem sc_ratio_gap : FnScope ["one", "two"] ["one", "two"] (defScope (top 13)) := ⟨rfl, rfl, rfl, by decide +kernel, rfl, by decide +kernel, by decide +kernel⟩
theorem b_ratio_gap {K : PySem.W.Frag} {f : Addr} {fd : FuncData} (F : FnP K "ratio_gap" (top 13) f fd) : Binds K fd ["one", "two"] [] := F.bindsN fun _ _ _ _ _ _ us hl => match us, hl with | [_, _], _ => rfl
theorem ok_ratio_gap (T : Pg K mg Ad Dd) (N : Nm K mg) : FnG Pr w K mg base CX0 2 (Ad 13) (Dd 13) ["one", "two"] (spF K WF.f_ratio_gap) :=
  P.fn (T.fn 13 "ratio_gap" rfl).1 sc_ratio_gap rfl rfl fun cdv A outer s H E hg hr => by
    have hu := hr.units
    exact (P.last (P.ret (P.call (ok_ratio T N) hg (hr.mono (by decide)) (by rfl) (T.fn 11 "ratio" rfl).2 (T.fn 11 "ratio" rfl).1.kp (b_ratio (T.fn 11 "ratio" rfl).1) (P.acons (P.op op_sub w_sub (P.op op_mulW w_mul (P.ix ix_seq w_ix (P.v 0) P.int (fun _ _ => rfl)) (P.ix ix_seq w_ix (P.v 1) P.int (fun _ _ => rfl))) (P.op op_mulW w_mul (P.ix ix_seq w_ix (P.v 1) P.int (fun _ _ => rfl)) (P.ix ix_seq w_ix (P.v 0) P.int (fun _ _ => rfl)))) (P.acons (P.op op_mulW w_mul (P.ix ix_seq w_ix (P.v 0) P.int (fun _ _ => rfl)) (P.ix ix_seq w_ix (P.v 1) P.int (fun _ _ => rfl))) P.anil)))))
theorem sc_ratio_product : FnScope ["one", "two"] ["one", "two"] (defScope (top 14)) := ⟨rfl, rfl, rfl, by decide +kernel, rfl, by decide +kernel, by decide +kernel⟩
theorem b_ratio_product {K : PySem.W.Frag} {f : Addr} {fd : FuncData} (F : FnP K "ratio_product" (top 14) f fd) : Binds K fd ["one", "two"] [] := F.bindsN fun _ _ _ _ _ _ us hl => match us, hl with | [_, _], _ => rfl
theorem ok_ratio_product (T : Pg K mg Ad Dd) (N : Nm K mg) : FnG Pr w K mg base CX0 2 (Ad 14) (Dd 14) ["one", "two"] (spF K WF.f_ratio_product) :=
  P.fn (T.fn 14 "ratio_product" rfl).1 sc_ratio_product rfl rfl fun cdv A outer s H E hg hr => by
    have hu := hr.units
    exact (P.last (P.ret (P.call (ok_ratio T N) hg (hr.mono (by decide)) (by rfl) (T.fn 11 "ratio" rfl).2 (T.fn 11 "ratio" rfl).1.kp (b_ratio (T.fn 11 "ratio" rfl).1) (P.acons (P.op op_mulW w_mul (P.ix ix_seq w_ix (P.v 0) P.int (fun _ _ => rfl)) (P.ix ix_seq w_ix (P.v 1) P.int (fun _ _ => rfl))) (P.acons (P.op op_mulW w_mul (P.ix ix_seq w_ix (P.v 0) P.int (fun _ _ => rfl)) (P.ix ix_seq w_ix (P.v 1) P.int (fun _ _ => rfl))) P.anil)))))
theorem sc_is_less : FnScope ["one", "two"] ["one", "two"] (defScope (top 15)) := ⟨rfl, rfl, rfl, by decide +kernel, rfl, by decide +kernel, by decide +kernel⟩
theorem b_is_less {K : PySem.W.Frag} {f : Addr} {fd : FuncData} (F : FnP K "is_less" (top 15) f fd) : Binds K fd ["one", "two"] [] := F.bindsN fun _ _ _ _ _ _ us hl => match us, hl with | [_, _], _ => rfl
theorem ok_is_less (T : Pg K mg Ad Dd) (N : Nm K mg) : FnG Pr w K mg base CX0 1 (Ad 15) (Dd 15) ["one", "two"] (spF K WF.f_is_less) :=
  P.fn (T.fn 15 "is_less" rfl).1 sc_is_less rfl rfl fun cdv A outer s H E hg hr => by
    have hu := hr.units
    exact (P.last (P.ret (P.cmp op_lt w2_cmp (P.op op_mulW w_mul (P.ix ix_seq w_ix (P.v 0) P.int (fun _ _ => rfl)) (P.ix ix_seq w_ix (P.v 1) P.int (fun _ _ => rfl))) (P.op op_mulW w_mul (P.ix ix_seq w_ix (P.v 1) P.int (fun _ _ => rfl)) (P.ix ix_seq w_ix (P.v 0) P.int (fun _ _ => rfl))) (nomark _))))
theorem sc_point_of : FnScope ["x", "y", "w", "common"] ["x", "y", "w"] (defScope (top 16)) := ⟨rfl, rfl, rfl, by decide +kernel, rfl, by decide +kernel, by decide +kernel⟩
theorem b_point_of {K : PySem.W.Frag} {f : Addr} {fd : FuncData} (F : FnP K "point_of" (top 16) f fd) : Binds K fd ["x", "y", "w"] [] := F.bindsN fun _ _ _ _ _ _ us hl => match us, hl with | [_, _, _], _ => rfl
theorem ok_point_of (T : Pg K mg Ad Dd) (N : Nm K mg) : FnG Pr w K mg base CX0 1 (Ad 16) (Dd 16) ["x", "y", "w"] (spF K WF.f_point_of) :=
  P.fn (T.fn 16 "point_of" rfl).1 sc_point_of rfl rfl fun cdv A outer s H E hg hr => by
    have hu := hr.units
    exact (P.seq (P.set (i := 3) sc_point_of.nd rfl (by first | exact .inl rfl | exact .inr rfl) (P.callG cr_gcdA w_gcd (by rfl) N.g_gcd (P.acons (P.v 0) (P.acons (P.v 1) (P.acons (P.v 2) P.anil))))) (P.seq (P.iff (P.cmpT op_lt w2_cmp (P.v 2) P.int (nomark _)) (P.last (P.set (i := 3) sc_point_of.nd rfl (by first | exact .inl rfl | exact .inr rfl) (P.un un_neg w_neg (P.v 3)))) P.nil) (P.last (P.ret (P.tup (P.acons (P.op op_fdivW w_div (P.v 0) (P.v 3)) (P.acons (P.op op_fdivW w_div (P.v 1) (P.v 3)) (P.acons (P.op op_fdivW w_div (P.v 2) (P.v 3)) P.anil))))))))
theorem sc_course_to : FnScope ["one", "two", "x", "y", "w", "u", "v", "t"] ["one", "two"] (defScope (top 17)) := ⟨rfl, rfl, rfl, by decide +kernel, rfl, by decide +kernel, by decide +kernel⟩
theorem b_course_to {K : PySem.W.Frag} {f : Addr} {fd : FuncData} (F : FnP K "course_to" (top 17) f fd) : Binds K fd ["one", "two"] [] := F.bindsN fun _ _ _ _ _ _ us hl => match us, hl with | [_, _], _ => rfl
theorem ok_course_to (T : Pg K mg Ad Dd) (N : Nm K mg) : FnG Pr w K mg base CX0 1 (Ad 17) (Dd 17) ["one", "two"] (spF K WF.f_course_to) :=
  P.fn (T.fn 17 "course_to" rfl).1 sc_course_to rfl rfl fun cdv A outer s H E hg hr => by
    have hu := hr.units
    exact (P.seq (P.asg (P.tup (P.acons (P.v 0) (P.acons (P.v 1) P.anil))) (P.gtup (n := 2) rfl (P.gcons (P.gtup (n := 3) rfl (P.gcons (P.gnm sc_course_to.nd (i := 2) rfl (by first | exact .inl rfl | exact .inr rfl)) (P.gcons (P.gnm sc_course_to.nd (i := 3) rfl (by first | exact .inl rfl | exact .inr rfl)) (P.gcons (P.gnm sc_course_to.nd (i := 4) rfl (by first | exact .inl rfl | exact .inr rfl)) P.gnil)))) (P.gcons (P.gtup (n := 3) rfl (P.gcons (P.gnm sc_course_to.nd (i := 5) rfl (by first | exact .inl rfl | exact .inr rfl)) (P.gcons (P.gnm sc_course_to.nd (i := 6) rfl (by first | exact .inl rfl | exact .inr rfl)) (P.gcons (P.gnm sc_course_to.nd (i := 7) rfl (by first | exact .inl rfl | exact .inr rfl)) P.gnil)))) P.gnil)))) (P.last (P.ret (P.tup (P.acons (P.op op_sub w_sub (P.op op_mulW w_mul (P.v 5) (P.v 4)) (P.op op_mulW w_mul (P.v 2) (P.v 7))) (P.acons (P.op op_sub w_sub (P.op op_mulW w_mul (P.v 6) (P.v 4)) (P.op op_mulW w_mul (P.v 3) (P.v 7))) P.anil))))))
theorem sc_side_of : FnScope ["a", "b", "bound", "top", "bottom", "common"] ["a", "b", "bound"] (defScope (top 18)) := ⟨rfl, rfl, rfl, by decide +kernel, rfl, by decide +kernel, by decide +kernel⟩
theorem b_side_of {K : PySem.W.Frag} {f : Addr} {fd : FuncData} (F : FnP K "side_of" (top 18) f fd) : Binds K fd ["a", "b", "bound"] [] := F.bindsN fun _ _ _ _ _ _ us hl => match us, hl with | [_, _, _], _ => rfl
theorem ok_side_of (T : Pg K mg Ad Dd) (N : Nm K mg) : FnG Pr w K mg base CX0 1 (Ad 18) (Dd 18) ["a", "b", "bound"] (spF K WF.f_side_of) :=
  P.fn (T.fn 18 "side_of" rfl).1 sc_side_of rfl rfl fun cdv A outer s H E hg hr => by
    have hu := hr.units
    exact (P.seq (P.asg (P.v 2) (P.gtup (n := 2) rfl (P.gcons (P.gnm sc_side_of.nd (i := 3) rfl (by first | exact .inl rfl | exact .inr rfl)) (P.gcons (P.gnm sc_side_of.nd (i := 4) rfl (by first | exact .inl rfl | exact .inr rfl)) P.gnil)))) (P.seq (P.set (i := 5) sc_side_of.nd rfl (by first | exact .inl rfl | exact .inr rfl) (P.callG cr_gcdA w_gcd (by rfl) N.g_gcd (P.acons (P.op op_mulW w_mul (P.v 0) (P.v 4)) (P.acons (P.op op_mulW w_mul (P.v 1) (P.v 4)) (P.acons (P.v 3) P.anil))))) (P.last (P.ret (P.tup (P.acons (P.op op_fdivW w_div (P.op op_mulW w_mul (P.v 0) (P.v 4)) (P.v 5)) (P.acons (P.op op_fdivW w_div (P.op op_mulW w_mul (P.v 1) (P.v 4)) (P.v 5)) (P.acons (P.op op_fdivW w_div (P.v 3) (P.v 5)) P.anil))))))))
theorem sc_along : FnScope ["a", "b", "point"] ["a", "b", "point"] (defScope (top 19)) := ⟨rfl, rfl, rfl, by decide +kernel, rfl, by decide +kernel, by decide +kernel⟩
theorem b_along {K : PySem.W.Frag} {f : Addr} {fd : FuncData} (F : FnP K "along" (top 19) f fd) : Binds K fd ["a", "b", "point"] [] := F.bindsN fun _ _ _ _ _ _ us hl => match us, hl with | [_, _, _], _ => rfl
theorem ok_along (T : Pg K mg Ad Dd) (N : Nm K mg) : FnG Pr w K mg base CX0 2 (Ad 19) (Dd 19) ["a", "b", "point"] (spF K WF.f_along) :=
  P.fn (T.fn 19 "along" rfl).1 sc_along rfl rfl fun cdv A outer s H E hg hr => by
    have hu := hr.units
    exact (P.last (P.ret (P.call (ok_ratio T N) hg (hr.mono (by decide)) (by rfl) (T.fn 11 "ratio" rfl).2 (T.fn 11 "ratio" rfl).1.kp (b_ratio (T.fn 11 "ratio" rfl).1) (P.acons (P.op op_addA w_add (P.op op_mulW w_mul (P.v 0) (P.ix ix_seq w_ix (P.v 2) P.int (fun _ _ => rfl))) (P.op op_mulW w_mul (P.v 1) (P.ix ix_seq w_ix (P.v 2) P.int (fun _ _ => rfl)))) (P.acons (P.ix ix_seq w_ix (P.v 2) P.int (fun _ _ => rfl)) P.anil)))))
theorem sc_overshoot : FnScope ["side", "point"] ["side", "point"] (defScope (top 20)) := ⟨rfl, rfl, rfl, by decide +kernel, rfl, by decide +kernel, by decide +kernel⟩
theorem b_overshoot {K : PySem.W.Frag} {f : Addr} {fd : FuncData} (F : FnP K "overshoot" (top 20) f fd) : Binds K fd ["side", "point"] [] := F.bindsN fun _ _ _ _ _ _ us hl => match us, hl with | [_, _], _ => rfl
theorem ok_overshoot (T : Pg K mg Ad Dd) (N : Nm K mg) : FnG Pr w K mg base CX0 1 (Ad 20) (Dd 20) ["side", "point"] (spF K WF.f_overshoot) :=
  P.fn (T.fn 20 "overshoot" rfl).1 sc_overshoot rfl rfl fun cdv A outer s H E hg hr => by
    have hu := hr.units
    exact (P.last (P.ret (P.op op_sub w_sub (P.op op_addA w_add (P.op op_mulW w_mul (P.ix ix_seq w_ix (P.v 0) P.int (fun _ _ => rfl)) (P.ix ix_seq w_ix (P.v 1) P.int (fun _ _ => rfl))) (P.op op_mulW w_mul (P.ix ix_seq w_ix (P.v 0) P.int (fun _ _ => rfl)) (P.ix ix_seq w_ix (P.v 1) P.int (fun _ _ => rfl)))) (P.op op_mulW w_mul (P.ix ix_seq w_ix (P.v 0) P.int (fun _ _ => rfl)) (P.ix ix_seq w_ix (P.v 1) P.int (fun _ _ => rfl))))))
theorem sc_parts_along : FnScope ["one", "two", "way", "x", "y", "w", "u", "v", "t", "p", "q", "r", "area"] ["one", "two", "way"] (defScope (top 21)) := ⟨rfl, rfl, rfl, by decide +kernel, rfl, by decide +kernel, by decide +kernel⟩
theorem b_parts_along {K : PySem.W.Frag} {f : Addr} {fd : FuncData} (F : FnP K "parts_along" (top 21) f fd) : Binds K fd ["one", "two", "way"] [] := F.bindsN fun _ _ _ _ _ _ us hl => match us, hl with | [_, _, _], _ => rfl
theorem ok_parts_along (T : Pg K mg Ad Dd) (N : Nm K mg) : FnG Pr w K mg base CX0 2 (Ad 21) (Dd 21) ["one", "two", "way"] (spF K WF.f_parts_along) :=
  P.fn (T.fn 21 "parts_along" rfl).1 sc_parts_along rfl rfl fun cdv A outer s H E hg hr => by
    have hu := hr.units
    exact (P.seq (P.asg (P.tup (P.acons (P.v 0) (P.acons (P.v 1) (P.acons (P.v 2) P.anil)))) (P.gtup (n := 3) rfl (P.gcons (P.gtup (n := 3) rfl (P.gcons (P.gnm sc_parts_along.nd (i := 3) rfl (by first | exact .inl rfl | exact .inr rfl)) (P.gcons (P.gnm sc_parts_along.nd (i := 4) rfl (by first | exact .inl rfl | exact .inr rfl)) (P.gcons (P.gnm sc_parts_along.nd (i := 5) rfl (by first | exact .inl rfl | exact .inr rfl)) P.gnil)))) (P.gcons (P.gtup (n := 3) rfl (P.gcons (P.gnm sc_parts_along.nd (i := 6) rfl (by first | exact .inl rfl | exact .inr rfl)) (P.gcons (P.gnm sc_parts_along.nd (i := 7) rfl (by first | exact .inl rfl | exact .inr rfl)) (P.gcons (P.gnm sc_parts_along.nd (i := 8) rfl (by first | exact .inl rfl | exact .inr rfl)) P.gnil)))) (P.gcons (P.gtup (n := 3) rfl (P.gcons (P.gnm sc_parts_along.nd (i := 9) rfl (by first | exact .inl rfl | exact .inr rfl)) (P.gcons (P.gnm sc_parts_along.nd (i := 10) rfl (by first | exact .inl rfl | exact .inr rfl)) (P.gcons (P.gnm sc_parts_along.nd (i := 11) rfl (by first | exact .inl rfl | exact .inr rfl)) P.gnil)))) P.gnil))))) (P.seq (P.set (i := 12) sc_parts_along.nd rfl (by first | exact .inl rfl | exact .inr rfl) (P.op op_sub w_sub (P.op op_mulW w_mul (P.v 3) (P.v 7)) (P.op op_mulW w_mul (P.v 4) (P.v 6)))) (P.seq (P.iff (P.cmpT (op_eqP hr.units) w_eq (P.v 12) P.int (nomark _)) (P.last (P.ret P.non)) P.nil) (P.last (P.ret (P.tup (P.acons (P.call (ok_ratio T N) hg (hr.mono (by decide)) (by rfl) (T.fn 11 "ratio" rfl).2 (T.fn 11 "ratio" rfl).1.kp (b_ratio (T.fn 11 "ratio" rfl).1) (P.acons (P.op op_mulW w_mul (P.op op_sub w_sub (P.op op_mulW w_mul (P.v 9) (P.v 7)) (P.op op_mulW w_mul (P.v 10) (P.v 6))) (P.v 5)) (P.acons (P.op op_mulW w_mul (P.v 12) (P.v 11)) P.anil))) (P.acons (P.call (ok_ratio T N) hg (hr.mono (by decide)) (by rfl) (T.fn 11 "ratio" rfl).2 (T.fn 11 "ratio" rfl).1.kp (b_ratio (T.fn 11 "ratio" rfl).1) (P.acons (P.op op_mulW w_mul (P.op op_sub w_sub (P.op op_mulW w_mul (P.v 3) (P.v 10)) (P.op op_mulW w_mul (P.v 4) (P.v 9))) (P.v 8)) (P.acons (P.op op_mulW w_mul (P.v 12) (P.v 11)) P.anil))) P.anil))))))))
theorem sc_is_point : FnScope ["value"] ["value"] (defScope (top 23)) := ⟨rfl, rfl, rfl, by decide +kernel, rfl, by decide +kernel, by decide +kernel⟩
theorem b_is_point {K : PySem.W.Frag} {f : Addr} {fd : FuncData} (F : FnP K "is_point" (top 23) f fd) : Binds K fd ["value"] [] := F.bindsN fun _ _ _ _ _ _ us hl => match us, hl with | [_], _ => rfl
theorem ok_is_point (T : Pg K mg Ad Dd) (N : Nm K mg) : FnG Pr w K mg base CX0 3 (Ad 23) (Dd 23) ["value"] (spF K WF.f_is_point) :=
  P.fn (T.fn 23 "is_point" rfl).1 sc_is_point rfl rfl fun cdv A outer s H E hg hr => by
    have hu := hr.units
    exact (P.last (P.ret (P.andV (P.call (ok_are_whole T N) hg (hr.mono (by decide)) (by rfl) (T.fn 10 "are_whole" rfl).2 (T.fn 10 "are_whole" rfl).1.kp (b_are_whole (T.fn 10 "are_whole" rfl).1) (P.acons (P.v 0) (P.acons P.int P.anil))) (P.andV (P.cmp op_gt w2_cmp (P.ix ix_seq w_ix (P.v 0) P.int (fun _ _ => rfl)) P.int (nomark _)) (P.one (P.cmp (op_eqP hr.units) w_eq (P.callG cr_gcdA w_gcd (by rfl) N.g_gcd (P.acons (P.ix ix_seq w_ix (P.v 0) P.int (fun _ _ => rfl)) (P.acons (P.ix ix_seq w_ix (P.v 0) P.int (fun _ _ => rfl)) (P.acons (P.ix ix_seq w_ix (P.v 0) P.int (fun _ _ => rfl)) P.anil)))) P.int (nomark _)))))))
theorem sc_need_point : FnScope ["value"] ["value"] (defScope (top 24)) := ⟨rfl, rfl, rfl, by decide +kernel, rfl, by decide +kernel, by decide +kernel⟩
theorem b_need_point {K : PySem.W.Frag} {f : Addr} {fd : FuncData} (F : FnP K "need_point" (top 24) f fd) : Binds K fd ["value"] [] := F.bindsN fun _ _ _ _ _ _ us hl => match us, hl with | [_], _ => rfl
theorem ok_need_point (T : Pg K mg Ad Dd) (N : Nm K mg) : FnG Pr w K mg base CX0 4 (Ad 24) (Dd 24) ["value"] (spF K WF.f_need_point) :=
  P.fn (T.fn 24 "need_point" rfl).1 sc_need_point rfl rfl fun cdv A outer s H E hg hr => by
    have hu := hr.units
    exact (P.last (P.iff (P.not (P.tval (P.call (ok_is_point T N) hg (hr.mono (by decide)) (by rfl) (T.fn 23 "is_point" rfl).2 (T.fn 23 "is_point" rfl).1.kp (b_is_point (T.fn 23 "is_point" rfl).1) (P.acons (P.v 0) P.anil)))) (P.last P.no) P.nil))
theorem sc_half_hull : FnScope ["spots", "chain", "x", "y", "u", "v", "s", "t"] ["spots"] (defScope (top 28)) := ⟨rfl, rfl, rfl, by decide +kernel, rfl, by decide +kernel, by decide +kernel⟩
theorem b_half_hull {K : PySem.W.Frag} {f : Addr} {fd : FuncData} (F : FnP K "half_hull" (top 28) f fd) : Binds K fd ["spots"] [] := F.bindsN fun _ _ _ _ _ _ us hl => match us, hl with | [_], _ => rfl
theorem ok_half_hull (T : Pg K mg Ad Dd) (N : Nm K mg) : FnG Pr w K mg base CX0 1 (Ad 28) (Dd 28) ["spots"] (spF K WF.f_half_hull) :=
  P.fn (T.fn 28 "half_hull" rfl).1 sc_half_hull rfl rfl fun cdv A outer s H E hg hr => by
    have hu := hr.units
    exact (P.seq (P.own (i := 1) sc_half_hull.nd rfl (by first | exact .inl rfl | exact .inr rfl) (P.list P.anil)) (P.seq (P.for PassesOwn.never rfl (P.iter (P.v 0)) (P.gtup (n := 2) rfl (P.gcons (P.gnm sc_half_hull.nd (i := 2) rfl (by first | exact .inl rfl | exact .inr rfl)) (P.gcons (P.gnm sc_half_hull.nd (i := 3) rfl (by first | exact .inl rfl | exact .inr rfl)) P.gnil))) (P.seq (P.while (WF.t_half_hull_0) PassesOwn.never (P.cmpT op_gt w2_cmp (P.lenOv 1 (by rfl) N.n_len) P.int (nomark _)) (P.seq (P.asg (P.tup (P.acons (P.ixOv 1 (P.un un_neg w_neg P.int)) (P.acons (P.ixOv 1 (P.un un_neg w_neg P.int)) P.anil))) (P.gtup (n := 2) rfl (P.gcons (P.gtup (n := 2) rfl (P.gcons (P.gnm sc_half_hull.nd (i := 4) rfl (by first | exact .inl rfl | exact .inr rfl)) (P.gcons (P.gnm sc_half_hull.nd (i := 5) rfl (by first | exact .inl rfl | exact .inr rfl)) P.gnil))) (P.gcons (P.gtup (n := 2) rfl (P.gcons (P.gnm sc_half_hull.nd (i := 6) rfl (by first | exact .inl rfl | exact .inr rfl)) (P.gcons (P.gnm sc_half_hull.nd (i := 7) rfl (by first | exact .inl rfl | exact .inr rfl)) P.gnil))) P.gnil)))) (P.seq (P.iff (P.cmpT op_gt w2_cmp (P.op op_sub w_sub (P.op op_mulW w_mul (P.op op_sub w_sub (P.v 6) (P.v 4)) (P.op op_sub w_sub (P.v 3) (P.v 5))) (P.op op_mulW w_mul (P.op op_sub w_sub (P.v 7) (P.v 5)) (P.op op_sub w_sub (P.v 2) (P.v 4)))) P.int (nomark _)) (P.last P.brk) P.nil) (P.last (P.popv 1))))) (P.last (P.appv 1 (P.tup (P.acons (P.v 2) (P.acons (P.v 3) P.anil))))))) (P.frzs 1 (P.last (P.ret (P.v 1))))))
theorem sc_shape_hull : FnScope ["points", "bottom", "point", "spots", "x", "y", "w"] ["points"] (defScope (top 27)) := ⟨rfl, rfl, rfl, by decide +kernel, rfl, by decide +kernel, by decide +kernel⟩
theorem b_shape_hull {K : PySem.W.Frag} {f : Addr} {fd : FuncData} (F : FnP K "shape_hull" (top 27) f fd) : Binds K fd ["points"] [] := F.bindsN fun _ _ _ _ _ _ us hl => match us, hl with | [_], _ => rfl
theorem ok_shape_hull (T : Pg K mg Ad Dd) (N : Nm K mg) : FnG Pr w K mg base CX0 2 (Ad 27) (Dd 27) ["points"] (spF K WF.f_shape_hull) :=
  P.fn (T.fn 27 "shape_hull" rfl).1 sc_shape_hull rfl rfl fun cdv A outer s H E hg hr => by
    have hu := hr.units
    exact (P.seq (P.set (i := 1) sc_shape_hull.nd rfl (by first | exact .inl rfl | exact .inr rfl) P.int) (P.seq (P.for PassesOwn.never rfl (P.iter (P.v 0)) (P.gnm sc_shape_hull.nd (i := 2) rfl (by first | exact .inl rfl | exact .inr rfl)) (P.last (P.set (i := 1) sc_shape_hull.nd rfl (by first | exact .inl rfl | exact .inr rfl) (P.callG cr_lcm w_lcm (by rfl) N.g_lcm (P.acons (P.v 1) (P.acons (P.ix ix_seq w_ix (P.v 2) P.int (fun _ _ => rfl)) P.anil)))))) (P.seq (P.set (i := 3) sc_shape_hull.nd rfl (by first | exact .inl rfl | exact .inr rfl) (P.ofL (P.srtSc (by rfl) N.n_sorted hr.units rfl sc_shape_hull.nd (own := [("x", 4), ("y", 5), ("w", 6)]) (P.iterE (P.iter (P.v 0))) (blkOk_by (own := [("x", 4), ("y", 5), ("w", 6)]) (N := ["points", "bottom", "point", "spots", "x", "y", "w"]) (sc := defScope (top 27)) (by decide +kernel)) (by decide) (fun _ _ _ _ _ => (P.gtup (n := 3) rfl (P.gcons (P.gnm sc_shape_hull.nd (i := 4) rfl (by first | exact .inl rfl | exact .inr rfl)) (P.gcons (P.gnm sc_shape_hull.nd (i := 5) rfl (by first | exact .inl rfl | exact .inr rfl)) (P.gcons (P.gnm sc_shape_hull.nd (i := 6) rfl (by first | exact .inl rfl | exact .inr rfl)) P.gnil))))) (fun _ _ _ _ _ => P.nif) (fun _ _ _ _ _ => (P.tup (P.acons (P.op op_mulW w_mul (P.v 4) (P.op op_fdivW w_div (P.v 1) (P.v 6))) (P.acons (P.op op_mulW w_mul (P.v 5) (P.op op_fdivW w_div (P.v 1) (P.v 6))) P.anil))))))) (P.seq (P.iff (P.cmpT op_gt w2_cmp (P.callB call_lenA w_len (by rfl) N.n_len (by decide +kernel) (P.acons (P.v 3) P.anil)) P.int (nomark _)) (P.last (P.set (i := 3) sc_shape_hull.nd rfl (by first | exact .inl rfl | exact .inr rfl) (P.op op_addA w_add (P.sl (P.call (ok_half_hull T N) hg (hr.mono (by decide)) (by rfl) (T.fn 28 "half_hull" rfl).2 (T.fn 28 "half_hull" rfl).1.kp (b_half_hull (T.fn 28 "half_hull" rfl).1) (P.acons (P.v 3) P.anil)) P.ono (P.osome (P.un un_neg w_neg P.int))) (P.sl (P.call (ok_half_hull T N) hg (hr.mono (by decide)) (by rfl) (T.fn 28 "half_hull" rfl).2 (T.fn 28 "half_hull" rfl).1.kp (b_half_hull (T.fn 28 "half_hull" rfl).1) (P.acons (P.ofL (P.rev (P.rD (P.v 3)))) P.anil)) P.ono (P.osome (P.un un_neg w_neg P.int)))))) P.nil) (P.last (P.ret (P.callTy call_tuple_of w_tuple (by rfl) N.n_tuple (by decide +kernel) (P.acons (P.ofL (P.lc rfl sc_shape_hull.nd (own := [("x", 4), ("y", 5)]) (P.iterE (P.iter (P.v 3))) (blkOk_by (own := [("x", 4), ("y", 5)]) (N := ["points", "bottom", "point", "spots", "x", "y", "w"]) (sc := defScope (top 27)) (by decide +kernel)) (by decide) (fun _ _ _ _ _ => (P.gtup (n := 2) rfl (P.gcons (P.gnm sc_shape_hull.nd (i := 4) rfl (by first | exact .inl rfl | exact .inr rfl)) (P.gcons (P.gnm sc_shape_hull.nd (i := 5) rfl (by first | exact .inl rfl | exact .inr rfl)) P.gnil)))) (fun _ _ _ _ _ => P.nif) (fun _ _ _ _ _ => (P.call (ok_point_of T N) hg (hr.mono (by decide)) (by rfl) (T.fn 16 "point_of" rfl).2 (T.fn 16 "point_of" rfl).1.kp (b_point_of (T.fn 16 "point_of" rfl).1) (P.acons (P.v 4) (P.acons (P.v 5) (P.acons (P.v 1) P.anil))))))) P.anil))))))))
theorem sc_edge_courses : FnScope ["corners", "index"] ["corners"] (defScope (top 29)) := ⟨rfl, rfl, rfl, by decide +kernel, rfl, by decide +kernel, by decide +kernel⟩
theorem b_edge_courses {K : PySem.W.Frag} {f : Addr} {fd : FuncData} (F : FnP K "edge_courses" (top 29) f fd) : Binds K fd ["corners"] [] := F.bindsN fun _ _ _ _ _ _ us hl => match us, hl with | [_], _ => rfl
theorem ok_edge_courses (T : Pg K mg Ad Dd) (N : Nm K mg) : FnG Pr w K mg base CX0 2 (Ad 29) (Dd 29) ["corners"] (spF K WF.f_edge_courses) :=
  P.fn (T.fn 29 "edge_courses" rfl).1 sc_edge_courses rfl rfl fun cdv A outer s H E hg hr => by
    have hu := hr.units
    exact (P.seq (P.iff (P.cmpT (op_eqP hr.units) w_eq (P.callB call_lenA w_len (by rfl) N.n_len (by decide +kernel) (P.acons (P.v 0) P.anil)) P.int (nomark _)) (P.last (P.ret (P.ofL (P.list P.anil)))) P.nil) (P.last (P.ret (P.op op_addA w_add (P.ofL (P.lc rfl sc_edge_courses.nd (own := [("index", 1)]) (P.iterE (P.rng2 (by rfl) N.n_range (P.acons P.int (P.acons (P.callB call_lenA w_len (by rfl) N.n_len (by decide +kernel) (P.acons (P.v 0) P.anil)) P.anil)))) (blkOk_by (own := [("index", 1)]) (N := ["corners", "index"]) (sc := defScope (top 29)) (by decide +kernel)) (by decide) (fun _ _ _ _ _ => (P.gnm sc_edge_courses.nd (i := 1) rfl (by first | exact .inl rfl | exact .inr rfl))) (fun _ _ _ _ _ => P.nif) (fun _ _ _ _ _ => (P.call (ok_course_to T N) hg (hr.mono (by decide)) (by rfl) (T.fn 17 "course_to" rfl).2 (T.fn 17 "course_to" rfl).1.kp (b_course_to (T.fn 17 "course_to" rfl).1) (P.acons (P.ix ix_seq w_ix (P.v 0) (P.op op_sub w_sub (P.v 1) P.int) (fun _ _ => rfl)) (P.acons (P.ix ix_seq w_ix (P.v 0) (P.v 1) (fun _ _ => rfl)) P.anil)))))) (P.ofL (P.list (P.acons (P.call (ok_course_to T N) hg (hr.mono (by decide)) (by rfl) (T.fn 17 "course_to" rfl).2 (T.fn 17 "course_to" rfl).1.kp (b_course_to (T.fn 17 "course_to" rfl).1) (P.acons (P.ix ix_seq w_ix (P.v 0) (P.un un_neg w_neg P.int) (fun _ _ => rfl)) (P.acons (P.ix ix_seq w_ix (P.v 0) P.int (fun _ _ => rfl)) P.anil))) P.anil)))))))
theorem sc_shape_support : FnScope ["corners", "a", "b", "most", "corner", "reach"] ["corners", "a", "b"] (defScope (top 31)) := ⟨rfl, rfl, rfl, by decide +kernel, rfl, by decide +kernel, by decide +kernel⟩
theorem b_shape_support {K : PySem.W.Frag} {f : Addr} {fd : FuncData} (F : FnP K "shape_support" (top 31) f fd) : Binds K fd ["corners", "a", "b"] [] := F.bindsN fun _ _ _ _ _ _ us hl => match us, hl with | [_, _, _], _ => rfl
theorem ok_shape_support (T : Pg K mg Ad Dd) (N : Nm K mg) : FnG Pr w K mg base CX0 3 (Ad 31) (Dd 31) ["corners", "a", "b"] (spF K WF.f_shape_support) :=
  P.fn (T.fn 31 "shape_support" rfl).1 sc_shape_support rfl rfl fun cdv A outer s H E hg hr => by
    have hu := hr.units
    exact (P.seq (P.set (i := 3) sc_shape_support.nd rfl (by first | exact .inl rfl | exact .inr rfl) (P.call (ok_along T N) hg (hr.mono (by decide)) (by rfl) (T.fn 19 "along" rfl).2 (T.fn 19 "along" rfl).1.kp (b_along (T.fn 19 "along" rfl).1) (P.acons (P.v 1) (P.acons (P.v 2) (P.acons (P.ix ix_seq w_ix (P.v 0) P.int (fun _ _ => rfl)) P.anil))))) (P.seq (P.for PassesOwn.never rfl (P.iter (P.sl (P.v 0) (P.osome P.int) P.ono)) (P.gnm sc_shape_support.nd (i := 4) rfl (by first | exact .inl rfl | exact .inr rfl)) (P.seq (P.set (i := 5) sc_shape_support.nd rfl (by first | exact .inl rfl | exact .inr rfl) (P.call (ok_along T N) hg (hr.mono (by decide)) (by rfl) (T.fn 19 "along" rfl).2 (T.fn 19 "along" rfl).1.kp (b_along (T.fn 19 "along" rfl).1) (P.acons (P.v 1) (P.acons (P.v 2) (P.acons (P.v 4) P.anil))))) (P.last (P.iff (P.tval (P.call (ok_is_less T N) hg (hr.mono (by decide)) (by rfl) (T.fn 15 "is_less" rfl).2 (T.fn 15 "is_less" rfl).1.kp (b_is_less (T.fn 15 "is_less" rfl).1) (P.acons (P.v 3) (P.acons (P.v 5) P.anil)))) (P.last (P.set (i := 3) sc_shape_support.nd rfl (by first | exact .inl rfl | exact .inr rfl) (P.v 5))) P.nil)))) (P.last (P.ret (P.v 3)))))
theorem sc_shape_sides : FnScope ["corners", "u", "v", "corner", "normals", "a", "b"] ["corners"] (defScope (top 30)) := ⟨rfl, rfl, rfl, by decide +kernel, rfl, by decide +kernel, by decide +kernel⟩
theorem b_shape_sides {K : PySem.W.Frag} {f : Addr} {fd : FuncData} (F : FnP K "shape_sides" (top 30) f fd) : Binds K fd ["corners"] [] := F.bindsN fun _ _ _ _ _ _ us hl => match us, hl with | [_], _ => rfl
theorem ok_shape_sides (T : Pg K mg Ad Dd) (N : Nm K mg) : FnG Pr w K mg base CX0 4 (Ad 30) (Dd 30) ["corners"] (spF K WF.f_shape_sides) :=
  P.fn (T.fn 30 "shape_sides" rfl).1 sc_shape_sides rfl rfl fun cdv A outer s H E hg hr => by
    have hu := hr.units
    exact (P.seq (P.iff (P.cmpT op_gt w2_cmp (P.callB call_lenA w_len (by rfl) N.n_len (by decide +kernel) (P.acons (P.v 0) P.anil)) P.int (nomark _)) (P.last (P.ret (P.callTy call_tuple_of w_tuple (by rfl) N.n_tuple (by decide +kernel) (P.acons (P.ofL (P.lc rfl sc_shape_sides.nd (own := [("u", 1), ("v", 2), ("corner", 3)]) (P.iterE (P.zip (by rfl) N.n_zip (P.acons (P.call (ok_edge_courses T N) hg (hr.mono (by decide)) (by rfl) (T.fn 29 "edge_courses" rfl).2 (T.fn 29 "edge_courses" rfl).1.kp (b_edge_courses (T.fn 29 "edge_courses" rfl).1) (P.acons (P.v 0) P.anil)) (P.acons (P.v 0) P.anil)))) (blkOk_by (own := [("u", 1), ("v", 2), ("corner", 3)]) (N := ["corners", "u", "v", "corner", "normals", "a", "b"]) (sc := defScope (top 30)) (by decide +kernel)) (by decide) (fun _ _ _ _ _ => (P.gtup (n := 2) rfl (P.gcons (P.gtup (n := 2) rfl (P.gcons (P.gnm sc_shape_sides.nd (i := 1) rfl (by first | exact .inl rfl | exact .inr rfl)) (P.gcons (P.gnm sc_shape_sides.nd (i := 2) rfl (by first | exact .inl rfl | exact .inr rfl)) P.gnil))) (P.gcons (P.gnm sc_shape_sides.nd (i := 3) rfl (by first | exact .inl rfl | exact .inr rfl)) P.gnil)))) (fun _ _ _ _ _ => P.nif) (fun _ _ _ _ _ => (P.call (ok_side_of T N) hg (hr.mono (by decide)) (by rfl) (T.fn 18 "side_of" rfl).2 (T.fn 18 "side_of" rfl).1.kp (b_side_of (T.fn 18 "side_of" rfl).1) (P.acons (P.v 2) (P.acons (P.un un_neg w_neg (P.v 1)) (P.acons (P.call (ok_along T N) hg (hr.mono (by decide)) (by rfl) (T.fn 19 "along" rfl).2 (T.fn 19 "along" rfl).1.kp (b_along (T.fn 19 "along" rfl).1) (P.acons (P.v 2) (P.acons (P.un un_neg w_neg (P.v 1)) (P.acons (P.v 3) P.anil)))) P.anil))))))) P.anil)))) P.nil) (P.seq (P.set (i := 4) sc_shape_sides.nd rfl (by first | exact .inl rfl | exact .inr rfl) (P.cst (by rfl) N.c_AXES)) (P.seq (P.iff (P.cmpT (op_eqP hr.units) w_eq (P.callB call_lenA w_len (by rfl) N.n_len (by decide +kernel) (P.acons (P.v 0) P.anil)) P.int (nomark _)) (P.seq (P.asg (P.call (ok_course_to T N) hg (hr.mono (by decide)) (by rfl) (T.fn 17 "course_to" rfl).2 (T.fn 17 "course_to" rfl).1.kp (b_course_to (T.fn 17 "course_to" rfl).1) (P.acons (P.ix ix_seq w_ix (P.v 0) P.int (fun _ _ => rfl)) (P.acons (P.ix ix_seq w_ix (P.v 0) P.int (fun _ _ => rfl)) P.anil))) (P.gtup (n := 2) rfl (P.gcons (P.gnm sc_shape_sides.nd (i := 1) rfl (by first | exact .inl rfl | exact .inr rfl)) (P.gcons (P.gnm sc_shape_sides.nd (i := 2) rfl (by first | exact .inl rfl | exact .inr rfl)) P.gnil)))) (P.last (P.set (i := 4) sc_shape_sides.nd rfl (by first | exact .inl rfl | exact .inr rfl) (P.tup (P.acons (P.tup (P.acons (P.v 2) (P.acons (P.un un_neg w_neg (P.v 1)) P.anil))) (P.acons (P.tup (P.acons (P.v 1) (P.acons (P.v 2) P.anil))) (P.acons (P.tup (P.acons (P.un un_neg w_neg (P.v 2)) (P.acons (P.v 1) P.anil))) (P.acons (P.tup (P.acons (P.un un_neg w_neg (P.v 1)) (P.acons (P.un un_neg w_neg (P.v 2)) P.anil))) P.anil)))))))) P.nil) (P.last (P.ret (P.callTy call_tuple_of w_tuple (by rfl) N.n_tuple (by decide +kernel) (P.acons (P.ofL (P.lc rfl sc_shape_sides.nd (own := [("a", 5), ("b", 6)]) (P.iterE (P.iter (P.v 4))) (blkOk_by (own := [("a", 5), ("b", 6)]) (N := ["corners", "u", "v", "corner", "normals", "a", "b"]) (sc := defScope (top 30)) (by decide +kernel)) (by decide) (fun _ _ _ _ _ => (P.gtup (n := 2) rfl (P.gcons (P.gnm sc_shape_sides.nd (i := 5) rfl (by first | exact .inl rfl | exact .inr rfl)) (P.gcons (P.gnm sc_shape_sides.nd (i := 6) rfl (by first | exact .inl rfl | exact .inr rfl)) P.gnil)))) (fun _ _ _ _ _ => P.nif) (fun _ _ _ _ _ => (P.call (ok_side_of T N) hg (hr.mono (by decide)) (by rfl) (T.fn 18 "side_of" rfl).2 (T.fn 18 "side_of" rfl).1.kp (b_side_of (T.fn 18 "side_of" rfl).1) (P.acons (P.v 5) (P.acons (P.v 6) (P.acons (P.call (ok_shape_support T N) hg (hr.mono (by decide)) (by rfl) (T.fn 31 "shape_support" rfl).2 (T.fn 31 "shape_support" rfl).1.kp (b_shape_support (T.fn 31 "shape_support" rfl).1) (P.acons (P.v 0) (P.acons (P.v 5) (P.acons (P.v 6) P.anil)))) P.anil))))))) P.anil)))))))
theorem sc_shape_holds : FnScope ["corners", "point", "side"] ["corners", "point"] (defScope (top 32)) := ⟨rfl, rfl, rfl, by decide +kernel, rfl, by decide +kernel, by decide +kernel⟩
theorem b_shape_holds {K : PySem.W.Frag} {f : Addr} {fd : FuncData} (F : FnP K "shape_holds" (top 32) f fd) : Binds K fd ["corners", "point"] [] := F.bindsN fun _ _ _ _ _ _ us hl => match us, hl with | [_, _], _ => rfl
theorem ok_shape_holds (T : Pg K mg Ad Dd) (N : Nm K mg) : FnG Pr w K mg base CX0 5 (Ad 32) (Dd 32) ["corners", "point"] (spF K WF.f_shape_holds) :=
  P.fn (T.fn 32 "shape_holds" rfl).1 sc_shape_holds rfl rfl fun cdv A outer s H E hg hr => by
    have hu := hr.units
    exact (P.last (P.ret (P.callB (cr_all rfl) w_all (by rfl) N.n_all (by decide +kernel) (P.acons (P.ofL (P.lc rfl sc_shape_holds.nd (own := [("side", 2)]) (P.iterE (P.iter (P.call (ok_shape_sides T N) hg (hr.mono (by decide)) (by rfl) (T.fn 30 "shape_sides" rfl).2 (T.fn 30 "shape_sides" rfl).1.kp (b_shape_sides (T.fn 30 "shape_sides" rfl).1) (P.acons (P.v 0) P.anil)))) (blkOk_by (own := [("side", 2)]) (N := ["corners", "point", "side"]) (sc := defScope (top 32)) (by decide +kernel)) (by decide) (fun _ _ _ _ _ => (P.gnm sc_shape_holds.nd (i := 2) rfl (by first | exact .inl rfl | exact .inr rfl))) (fun _ _ _ _ _ => P.nif) (fun _ _ _ _ _ => (P.cmp op_le w2_cmp (P.call (ok_overshoot T N) hg (hr.mono (by decide)) (by rfl) (T.fn 20 "overshoot" rfl).2 (T.fn 20 "overshoot" rfl).1.kp (b_overshoot (T.fn 20 "overshoot" rfl).1) (P.acons (P.v 2) (P.acons (P.v 1) P.anil))) P.int (nomark _))))) P.anil))))
theorem sc_first_no_point : FnScope ["values", "index", "value"] ["values"] (defScope (top 34)) := ⟨rfl, rfl, rfl, by decide +kernel, rfl, by decide +kernel, by decide +kernel⟩
theorem b_first_no_point {K : PySem.W.Frag} {f : Addr} {fd : FuncData} (F : FnP K "first_no_point" (top 34) f fd) : Binds K fd ["values"] [] := F.bindsN fun _ _ _ _ _ _ us hl => match us, hl with | [_], _ => rfl
theorem ok_first_no_point (T : Pg K mg Ad Dd) (N : Nm K mg) : FnG Pr w K mg base CX0 4 (Ad 34) (Dd 34) ["values"] (spF K WF.f_first_no_point) :=
  P.fn (T.fn 34 "first_no_point" rfl).1 sc_first_no_point rfl rfl fun cdv A outer s H E hg hr => by
    have hu := hr.units
    exact (P.seq (P.for PassesOwn.never rfl (P.enum (by rfl) N.n_enumerate (P.v 0)) (P.gtup (n := 2) rfl (P.gcons (P.gnm sc_first_no_point.nd (i := 1) rfl (by first | exact .inl rfl | exact .inr rfl)) (P.gcons (P.gnm sc_first_no_point.nd (i := 2) rfl (by first | exact .inl rfl | exact .inr rfl)) P.gnil))) (P.last (P.iff (P.not (P.tval (P.call (ok_is_point T N) hg (hr.mono (by decide)) (by rfl) (T.fn 23 "is_point" rfl).2 (T.fn 23 "is_point" rfl).1.kp (b_is_point (T.fn 23 "is_point" rfl).1) (P.acons (P.v 2) P.anil)))) (P.last (P.ret (P.v 1))) P.nil))) (P.last (P.ret P.non)))
theorem sc_is_polygon : FnScope ["value"] ["value"] (defScope (top 35)) := ⟨rfl, rfl, rfl, by decide +kernel, rfl, by decide +kernel, by decide +kernel⟩
theorem b_is_polygon {K : PySem.W.Frag} {f : Addr} {fd : FuncData} (F : FnP K "is_polygon" (top 35) f fd) : Binds K fd ["value"] [] := F.bindsN fun _ _ _ _ _ _ us hl => match us, hl with | [_], _ => rfl
theorem ok_is_polygon (T : Pg K mg Ad Dd) (N : Nm K mg) : FnG Pr w K mg base CX0 5 (Ad 35) (Dd 35) ["value"] (spF K WF.f_is_polygon) :=
  P.fn (T.fn 35 "is_polygon" rfl).1 sc_is_polygon rfl rfl fun cdv A outer s H E hg hr => by
    have hu := hr.units
    exact (P.seq (P.iff (PW.pt (P.or (P.not (P.tval (P.isi (by rfl) N.n_isinstance (P.v 0) (by rfl) N.n_tuple (by decide +kernel) okT_tuple))) (P.or (P.cmpT (op_eqP hr.units) w_eq (P.v 0) (P.tup P.anil) (nomark _)) (P.or1 (P.cmpT op_notN w_notN (P.call (ok_first_no_point T N) hg (hr.mono (by decide)) (by rfl) (T.fn 34 "first_no_point" rfl).2 (T.fn 34 "first_no_point" rfl).1.kp (b_first_no_point (T.fn 34 "first_no_point" rfl).1) (P.acons (P.v 0) P.anil)) P.non (nomark _)))))) (P.last (P.ret P.bl)) P.nil) (P.last (P.ret (P.cmp (op_eqP hr.units) w_eq (P.call (ok_shape_hull T N) hg (hr.mono (by decide)) (by rfl) (T.fn 27 "shape_hull" rfl).2 (T.fn 27 "shape_hull" rfl).1.kp (b_shape_hull (T.fn 27 "shape_hull" rfl).1) (P.acons (P.v 0) P.anil)) (P.v 0) (nomark _)))))
theorem sc_is_figure : FnScope ["value"] ["value"] (defScope (top 37)) := ⟨rfl, rfl, rfl, by decide +kernel, rfl, by decide +kernel, by decide +kernel⟩
theorem b_is_figure {K : PySem.W.Frag} {f : Addr} {fd : FuncData} (F : FnP K "is_figure" (top 37) f fd) : Binds K fd ["value"] [] := F.bindsN fun _ _ _ _ _ _ us hl => match us, hl with | [_], _ => rfl
theorem ok_is_figure (T : Pg K mg Ad Dd) (N : Nm K mg) : FnG Pr w K mg base CX0 6 (Ad 37) (Dd 37) ["value"] (spF K WF.f_is_figure) :=
  P.fn (T.fn 37 "is_figure" rfl).1 sc_is_figure rfl rfl fun cdv A outer s H E hg hr => by
    have hu := hr.units
    exact (P.last (P.ret (P.andV (P.call (ok_is_polygon T N) hg (hr.mono (by decide)) (by rfl) (T.fn 35 "is_polygon" rfl).2 (T.fn 35 "is_polygon" rfl).1.kp (b_is_polygon (T.fn 35 "is_polygon" rfl).1) (P.acons (P.v 0) P.anil)) (P.andV (P.cmp op_gt w2_cmp (P.callB call_lenA w_len (by rfl) N.n_len (by decide +kernel) (P.acons (P.v 0) P.anil)) P.int (nomark _)) (P.one (P.call (ok_shape_holds T N) hg (hr.mono (by decide)) (by rfl) (T.fn 32 "shape_holds" rfl).2 (T.fn 32 "shape_holds" rfl).1.kp (b_shape_holds (T.fn 32 "shape_holds" rfl).1) (P.acons (P.v 0) (P.acons (P.cst (by rfl) N.c_NOUGHT) P.anil))))))))
theorem sc_need_figure : FnScope ["value"] ["value"] (defScope (top 38)) := ⟨rfl, rfl, rfl, by decide +kernel, rfl, by decide +kernel, by decide +kernel⟩
theorem b_need_figure {K : PySem.W.Frag} {f : Addr} {fd : FuncData} (F : FnP K "need_figure" (top 38) f fd) : Binds K fd ["value"] [] := F.bindsN fun _ _ _ _ _ _ us hl => match us, hl with | [_], _ => rfl
theorem ok_need_figure (T : Pg K mg Ad Dd) (N : Nm K mg) : FnG Pr w K mg base CX0 7 (Ad 38) (Dd 38) ["value"] (spF K WF.f_need_figure) :=
  P.fn (T.fn 38 "need_figure" rfl).1 sc_need_figure rfl rfl fun cdv A outer s H E hg hr => by
    have hu := hr.units
    exact (P.last (P.iff (P.not (P.tval (P.call (ok_is_figure T N) hg (hr.mono (by decide)) (by rfl) (T.fn 37 "is_figure" rfl).2 (T.fn 37 "is_figure" rfl).1.kp (b_is_figure (T.fn 37 "is_figure" rfl).1) (P.acons (P.v 0) P.anil)))) (P.last P.no) P.nil))
theorem sc_time_and_side : FnScope ["sides", "way", "x", "y", "w", "most", "met", "index", "a", "b", "h", "gain", "wanted"] ["sides", "way"] (defScope (top 39)) := ⟨rfl, rfl, rfl, by decide +kernel, rfl, by decide +kernel, by decide +kernel⟩
theorem b_time_and_side {K : PySem.W.Frag} {f : Addr} {fd : FuncData} (F : FnP K "time_and_side" (top 39) f fd) : Binds K fd ["sides", "way"] [] := F.bindsN fun _ _ _ _ _ _ us hl => match us, hl with | [_, _], _ => rfl
theorem ok_time_and_side (T : Pg K mg Ad Dd) (N : Nm K mg) : FnG Pr w K mg base CX0 2 (Ad 39) (Dd 39) ["sides", "way"] (spF K WF.f_time_and_side) :=
  P.fn (T.fn 39 "time_and_side" rfl).1 sc_time_and_side rfl rfl fun cdv A outer s H E hg hr => by
    have hu := hr.units
    exact (P.seq (P.asg (P.v 1) (P.gtup (n := 3) rfl (P.gcons (P.gnm sc_time_and_side.nd (i := 2) rfl (by first | exact .inl rfl | exact .inr rfl)) (P.gcons (P.gnm sc_time_and_side.nd (i := 3) rfl (by first | exact .inl rfl | exact .inr rfl)) (P.gcons (P.gnm sc_time_and_side.nd (i := 4) rfl (by first | exact .inl rfl | exact .inr rfl)) P.gnil))))) (P.seq (P.par (i := 5) (j := 6) rfl sc_time_and_side.nd rfl rfl (by decide) rfl rfl (P.acons (P.cst (by rfl) N.c_ZERO) (P.acons P.non P.anil)) (by rfl)) (P.seq (P.for PassesOwn.never rfl (P.enum (by rfl) N.n_enumerate (P.v 0)) (P.gtup (n := 2) rfl (P.gcons (P.gnm sc_time_and_side.nd (i := 7) rfl (by first | exact .inl rfl | exact .inr rfl)) (P.gcons (P.gtup (n := 3) rfl (P.gcons (P.gnm sc_time_and_side.nd (i := 8) rfl (by first | exact .inl rfl | exact .inr rfl)) (P.gcons (P.gnm sc_time_and_side.nd (i := 9) rfl (by first | exact .inl rfl | exact .inr rfl)) (P.gcons (P.gnm sc_time_and_side.nd (i := 10) rfl (by first | exact .inl rfl | exact .inr rfl)) P.gnil)))) P.gnil))) (P.seq (P.set (i := 11) sc_time_and_side.nd rfl (by first | exact .inl rfl | exact .inr rfl) (P.op op_addA w_add (P.op op_mulW w_mul (P.v 8) (P.v 2)) (P.op op_mulW w_mul (P.v 9) (P.v 3)))) (P.last (P.iff (P.cmpT op_gt w2_cmp (P.v 10) P.int (nomark _)) (P.seq (P.set (i := 12) sc_time_and_side.nd rfl (by first | exact .inl rfl | exact .inr rfl) (P.call (ok_ratio T N) hg (hr.mono (by decide)) (by rfl) (T.fn 11 "ratio" rfl).2 (T.fn 11 "ratio" rfl).1.kp (b_ratio (T.fn 11 "ratio" rfl).1) (P.acons (P.v 11) (P.acons (P.op op_mulW w_mul (P.v 10) (P.v 4)) P.anil)))) (P.last (P.iff (P.tval (P.call (ok_is_less T N) hg (hr.mono (by decide)) (by rfl) (T.fn 15 "is_less" rfl).2 (T.fn 15 "is_less" rfl).1.kp (b_is_less (T.fn 15 "is_less" rfl).1) (P.acons (P.v 5) (P.acons (P.v 12) P.anil)))) (P.last (P.par (i := 5) (j := 6) rfl sc_time_and_side.nd rfl rfl (by decide) rfl rfl (P.acons (P.v 12) (P.acons (P.v 7) P.anil)) (by rfl))) P.nil))) (P.last (P.iff (P.cmpT op_gt w2_cmp (P.v 11) P.int (nomark _)) (P.last (P.ret (P.tup (P.acons P.non (P.acons P.non P.anil))))) P.nil)))))) (P.last (P.ret (P.tup (P.acons (P.v 5) (P.acons (P.v 6) P.anil))))))))
theorem sc_soonest_tacks : FnScope ["figure", "way", "time", "met", "corners", "shares", "corner", "share"] ["figure", "way"] (defScope (top 40)) := ⟨rfl, rfl, rfl, by decide +kernel, rfl, by decide +kernel, by decide +kernel⟩
theorem b_soonest_tacks {K : PySem.W.Frag} {f : Addr} {fd : FuncData} (F : FnP K "soonest_tacks" (top 40) f fd) : Binds K fd ["figure", "way"] [] := F.bindsN fun _ _ _ _ _ _ us hl => match us, hl with | [_, _], _ => rfl
theorem ok_soonest_tacks (T : Pg K mg Ad Dd) (N : Nm K mg) : FnG Pr w K mg base CX0 5 (Ad 40) (Dd 40) ["figure", "way"] (spF K WF.f_soonest_tacks) :=
  P.fn (T.fn 40 "soonest_tacks" rfl).1 sc_soonest_tacks rfl rfl fun cdv A outer s H E hg hr => by
    have hu := hr.units
    exact (P.seq (P.asg (P.call (ok_time_and_side T N) hg (hr.mono (by decide)) (by rfl) (T.fn 39 "time_and_side" rfl).2 (T.fn 39 "time_and_side" rfl).1.kp (b_time_and_side (T.fn 39 "time_and_side" rfl).1) (P.acons (P.call (ok_shape_sides T N) hg (hr.mono (by decide)) (by rfl) (T.fn 30 "shape_sides" rfl).2 (T.fn 30 "shape_sides" rfl).1.kp (b_shape_sides (T.fn 30 "shape_sides" rfl).1) (P.acons (P.v 0) P.anil)) (P.acons (P.v 1) P.anil))) (P.gtup (n := 2) rfl (P.gcons (P.gnm sc_soonest_tacks.nd (i := 2) rfl (by first | exact .inl rfl | exact .inr rfl)) (P.gcons (P.gnm sc_soonest_tacks.nd (i := 3) rfl (by first | exact .inl rfl | exact .inr rfl)) P.gnil)))) (P.seq (P.iff (P.cmpT op_isN w_isN (P.v 2) P.non (nomark _)) (P.last (P.ret P.non)) P.nil) (P.seq (P.iff (P.cmpT op_isN w_isN (P.v 3) P.non (nomark _)) (P.last (P.ret (P.tup P.anil))) P.nil) (P.seq (P.set (i := 4) sc_soonest_tacks.nd rfl (by first | exact .inl rfl | exact .inr rfl) (P.tup (P.acons (P.ix ix_seq w_ix (P.v 0) (P.v 3) (fun _ _ => rfl)) (P.acons (P.ix ix_seq w_ix (P.v 0) (P.op op_mod w_mod (P.op op_addA w_add (P.v 3) P.int) (P.callB call_lenA w_len (by rfl) N.n_len (by decide +kernel) (P.acons (P.v 0) P.anil))) (fun _ _ => rfl)) P.anil)))) (P.seq (P.set (i := 5) sc_soonest_tacks.nd rfl (by first | exact .inl rfl | exact .inr rfl) (P.call (ok_parts_along T N) hg (hr.mono (by decide)) (by rfl) (T.fn 21 "parts_along" rfl).2 (T.fn 21 "parts_along" rfl).1.kp (b_parts_along (T.fn 21 "parts_along" rfl).1) (P.acons (P.ix ix_seq w_ix (P.v 4) P.int (fun _ _ => rfl)) (P.acons (P.ix ix_seq w_ix (P.v 4) P.int (fun _ _ => rfl)) (P.acons (P.v 1) P.anil))))) (P.last (P.ret (P.callTy call_tuple_of w_tuple (by rfl) N.n_tuple (by decide +kernel) (P.acons (P.ofL (P.lc rfl sc_soonest_tacks.nd (own := [("corner", 6), ("share", 7)]) (P.iterE (P.zip (by rfl) N.n_zip (P.acons (P.v 4) (P.acons (P.v 5) P.anil)))) (blkOk_by (own := [("corner", 6), ("share", 7)]) (N := ["figure", "way", "time", "met", "corners", "shares", "corner", "share"]) (sc := defScope (top 40)) (by decide +kernel)) (by decide) (fun _ _ _ _ _ => (P.gtup (n := 2) rfl (P.gcons (P.gnm sc_soonest_tacks.nd (i := 6) rfl (by first | exact .inl rfl | exact .inr rfl)) (P.gcons (P.gnm sc_soonest_tacks.nd (i := 7) rfl (by first | exact .inl rfl | exact .inr rfl)) P.gnil)))) (fun _ _ _ _ _ => (P.one_if (P.cmpT (op_neP hr.units) w_ne (P.v 7) (P.cst (by rfl) N.c_ZERO) (nomark _)))) (fun _ _ _ _ _ => (P.tup (P.acons (P.v 6) (P.acons (P.v 7) P.anil)))))) P.anil)))))))))
theorem sc_is_channel : FnScope ["value"] ["value"] (defScope (top 42)) := ⟨rfl, rfl, rfl, by decide +kernel, rfl, by decide +kernel, by decide +kernel⟩
theorem b_is_channel {K : PySem.W.Frag} {f : Addr} {fd : FuncData} (F : FnP K "is_channel" (top 42) f fd) : Binds K fd ["value"] [] := F.bindsN fun _ _ _ _ _ _ us hl => match us, hl with | [_], _ => rfl
theorem ok_is_channel (T : Pg K mg Ad Dd) (N : Nm K mg) : FnG Pr w K mg base CX0 3 (Ad 42) (Dd 42) ["value"] (spF K WF.f_is_channel) :=
  P.fn (T.fn 42 "is_channel" rfl).1 sc_is_channel rfl rfl fun cdv A outer s H E hg hr => by
    have hu := hr.units
    exact (P.seq (P.iff (PW.pt (P.or (P.not (P.tval (P.call (ok_are_whole T N) hg (hr.mono (by decide)) (by rfl) (T.fn 10 "are_whole" rfl).2 (T.fn 10 "are_whole" rfl).1.kp (b_are_whole (T.fn 10 "are_whole" rfl).1) (P.acons (P.v 0) (P.acons P.int P.anil))))) (P.or (P.cmpT (op_eqP hr.units) w_eq (P.sl (P.v 0) P.ono (P.osome P.int)) (P.tup (P.acons P.int (P.acons P.int P.anil))) (nomark _)) (P.or1 (P.cmpT op_ge w2_cmp (P.ix ix_seq w_ix (P.v 0) P.int (fun _ _ => rfl)) (P.ix ix_seq w_ix (P.v 0) P.int (fun _ _ => rfl)) (nomark _)))))) (P.last (P.ret P.bl)) P.nil) (P.last (P.ret (P.cmp (op_eqP hr.units) w_eq (P.callG cr_gcd4 w_gcd4 (by rfl) N.g_gcd (P.acons (P.ix ix_seq w_ix (P.v 0) P.int (fun _ _ => rfl)) (P.acons (P.ix ix_seq w_ix (P.v 0) P.int (fun _ _ => rfl)) (P.acons (P.ix ix_seq w_ix (P.v 0) P.int (fun _ _ => rfl)) (P.acons (P.ix ix_seq w_ix (P.v 0) P.int (fun _ _ => rfl)) P.anil))))) P.int (nomark _)))))
theorem sc_need_channel : FnScope ["value"] ["value"] (defScope (top 43)) := ⟨rfl, rfl, rfl, by decide +kernel, rfl, by decide +kernel, by decide +kernel⟩
theorem b_need_channel {K : PySem.W.Frag} {f : Addr} {fd : FuncData} (F : FnP K "need_channel" (top 43) f fd) : Binds K fd ["value"] [] := F.bindsN fun _ _ _ _ _ _ us hl => match us, hl with | [_], _ => rfl
theorem ok_need_channel (T : Pg K mg Ad Dd) (N : Nm K mg) : FnG Pr w K mg base CX0 4 (Ad 43) (Dd 43) ["value"] (spF K WF.f_need_channel) :=
  P.fn (T.fn 43 "need_channel" rfl).1 sc_need_channel rfl rfl fun cdv A outer s H E hg hr => by
    have hu := hr.units
    exact (P.last (P.iff (P.not (P.tval (P.call (ok_is_channel T N) hg (hr.mono (by decide)) (by rfl) (T.fn 42 "is_channel" rfl).2 (T.fn 42 "is_channel" rfl).1.kp (b_is_channel (T.fn 42 "is_channel" rfl).1) (P.acons (P.v 0) P.anil)))) (P.last P.no) P.nil))
theorem sc_cross_by : FnScope ["channel", "point"] ["channel", "point"] (defScope (top 45)) := ⟨rfl, rfl, rfl, by decide +kernel, rfl, by decide +kernel, by decide +kernel⟩
theorem b_cross_by {K : PySem.W.Frag} {f : Addr} {fd : FuncData} (F : FnP K "cross_by" (top 45) f fd) : Binds K fd ["channel", "point"] [] := F.bindsN fun _ _ _ _ _ _ us hl => match us, hl with | [_, _], _ => rfl
theorem ok_cross_by (T : Pg K mg Ad Dd) (N : Nm K mg) : FnG Pr w K mg base CX0 3 (Ad 45) (Dd 45) ["channel", "point"] (spF K WF.f_cross_by) :=
  P.fn (T.fn 45 "cross_by" rfl).1 sc_cross_by rfl rfl fun cdv A outer s H E hg hr => by
    have hu := hr.units
    exact (P.last (P.ret (P.call (ok_along T N) hg (hr.mono (by decide)) (by rfl) (T.fn 19 "along" rfl).2 (T.fn 19 "along" rfl).1.kp (b_along (T.fn 19 "along" rfl).1) (P.acons (P.ix ix_seq w_ix (P.v 0) P.int (fun _ _ => rfl)) (P.acons (P.ix ix_seq w_ix (P.v 0) P.int (fun _ _ => rfl)) (P.acons (P.v 1) P.anil))))))
theorem sc_cross_of : FnScope ["channel", "point"] ["channel", "point"] (defScope (top 44)) := ⟨rfl, rfl, rfl, by decide +kernel, rfl, by decide +kernel, by decide +kernel⟩
theorem b_cross_of {K : PySem.W.Frag} {f : Addr} {fd : FuncData} (F : FnP K "cross_of" (top 44) f fd) : Binds K fd ["channel", "point"] [] := F.bindsN fun _ _ _ _ _ _ us hl => match us, hl with | [_, _], _ => rfl
theorem ok_cross_of (T : Pg K mg Ad Dd) (N : Nm K mg) : FnG Pr w K mg base CX0 5 (Ad 44) (Dd 44) ["channel", "point"] (spF K WF.f_cross_of) :=
  P.fn (T.fn 44 "cross_of" rfl).1 sc_cross_of rfl rfl fun cdv A outer s H E hg hr => by
    have hu := hr.units
    exact (P.seq (P.expr (P.call (ok_need_channel T N) hg (hr.mono (by decide)) (by rfl) (T.fn 43 "need_channel" rfl).2 (T.fn 43 "need_channel" rfl).1.kp (b_need_channel (T.fn 43 "need_channel" rfl).1) (P.acons (P.v 0) P.anil))) (P.seq (P.expr (P.call (ok_need_point T N) hg (hr.mono (by decide)) (by rfl) (T.fn 24 "need_point" rfl).2 (T.fn 24 "need_point" rfl).1.kp (b_need_point (T.fn 24 "need_point" rfl).1) (P.acons (P.v 1) P.anil))) (P.last (P.ret (P.call (ok_cross_by T N) hg (hr.mono (by decide)) (by rfl) (T.fn 45 "cross_by" rfl).2 (T.fn 45 "cross_by" rfl).1.kp (b_cross_by (T.fn 45 "cross_by" rfl).1) (P.acons (P.v 0) (P.acons (P.v 1) P.anil)))))))
theorem sc_rise_and_fall_by : FnScope ["channel", "tacks", "rise", "fall", "velocity", "time", "gain"] ["channel", "tacks"] (defScope (top 47)) := ⟨rfl, rfl, rfl, by decide +kernel, rfl, by decide +kernel, by decide +kernel⟩
theorem b_rise_and_fall_by {K : PySem.W.Frag} {f : Addr} {fd : FuncData} (F : FnP K "rise_and_fall_by" (top 47) f fd) : Binds K fd ["channel", "tacks"] [] := F.bindsN fun _ _ _ _ _ _ us hl => match us, hl with | [_, _], _ => rfl
theorem ok_rise_and_fall_by (T : Pg K mg Ad Dd) (N : Nm K mg) : FnG Pr w K mg base CX0 4 (Ad 47) (Dd 47) ["channel", "tacks"] (spF K WF.f_rise_and_fall_by) :=
  P.fn (T.fn 47 "rise_and_fall_by" rfl).1 sc_rise_and_fall_by rfl rfl fun cdv A outer s H E hg hr => by
    have hu := hr.units
    exact (P.seq (P.par (i := 2) (j := 3) rfl sc_rise_and_fall_by.nd rfl rfl (by decide) rfl rfl (P.acons (P.cst (by rfl) N.c_ZERO) (P.acons (P.cst (by rfl) N.c_ZERO) P.anil)) (by rfl)) (P.seq (P.for PassesOwn.never rfl (P.iter (P.v 1)) (P.gtup (n := 2) rfl (P.gcons (P.gnm sc_rise_and_fall_by.nd (i := 4) rfl (by first | exact .inl rfl | exact .inr rfl)) (P.gcons (P.gnm sc_rise_and_fall_by.nd (i := 5) rfl (by first | exact .inl rfl | exact .inr rfl)) P.gnil))) (P.seq (P.set (i := 6) sc_rise_and_fall_by.nd rfl (by first | exact .inl rfl | exact .inr rfl) (P.call (ok_ratio_product T N) hg (hr.mono (by decide)) (by rfl) (T.fn 14 "ratio_product" rfl).2 (T.fn 14 "ratio_product" rfl).1.kp (b_ratio_product (T.fn 14 "ratio_product" rfl).1) (P.acons (P.call (ok_cross_by T N) hg (hr.mono (by decide)) (by rfl) (T.fn 45 "cross_by" rfl).2 (T.fn 45 "cross_by" rfl).1.kp (b_cross_by (T.fn 45 "cross_by" rfl).1) (P.acons (P.v 0) (P.acons (P.v 4) P.anil))) (P.acons (P.v 5) P.anil)))) (P.last (P.iff (P.tval (P.call (ok_is_less T N) hg (hr.mono (by decide)) (by rfl) (T.fn 15 "is_less" rfl).2 (T.fn 15 "is_less" rfl).1.kp (b_is_less (T.fn 15 "is_less" rfl).1) (P.acons (P.v 6) (P.acons (P.cst (by rfl) N.c_ZERO) P.anil)))) (P.last (P.set (i := 3) sc_rise_and_fall_by.nd rfl (by first | exact .inl rfl | exact .inr rfl) (P.call (ok_ratio_gap T N) hg (hr.mono (by decide)) (by rfl) (T.fn 13 "ratio_gap" rfl).2 (T.fn 13 "ratio_gap" rfl).1.kp (b_ratio_gap (T.fn 13 "ratio_gap" rfl).1) (P.acons (P.v 3) (P.acons (P.v 6) P.anil))))) (P.last (P.set (i := 2) sc_rise_and_fall_by.nd rfl (by first | exact .inl rfl | exact .inr rfl) (P.call (ok_ratio_sum T N) hg (hr.mono (by decide)) (by rfl) (T.fn 12 "ratio_sum" rfl).2 (T.fn 12 "ratio_sum" rfl).1.kp (b_ratio_sum (T.fn 12 "ratio_sum" rfl).1) (P.acons (P.v 2) (P.acons (P.v 6) P.anil))))))))) (P.last (P.ret (P.tup (P.acons (P.v 2) (P.acons (P.v 3) P.anil)))))))
theorem sc_rise_and_fall : FnScope ["figure", "channel", "way", "tacks"] ["figure", "channel", "way"] (defScope (top 46)) := ⟨rfl, rfl, rfl, by decide +kernel, rfl, by decide +kernel, by decide +kernel⟩
theorem b_rise_and_fall {K : PySem.W.Frag} {f : Addr} {fd : FuncData} (F : FnP K "rise_and_fall" (top 46) f fd) : Binds K fd ["figure", "channel", "way"] [] := F.bindsN fun _ _ _ _ _ _ us hl => match us, hl with | [_, _, _], _ => rfl
theorem ok_rise_and_fall (T : Pg K mg Ad Dd) (N : Nm K mg) : FnG Pr w K mg base CX0 8 (Ad 46) (Dd 46) ["figure", "channel", "way"] (spF K WF.f_rise_and_fall) :=
  P.fn (T.fn 46 "rise_and_fall" rfl).1 sc_rise_and_fall rfl rfl fun cdv A outer s H E hg hr => by
    have hu := hr.units
    exact (P.seq (P.expr (P.call (ok_need_figure T N) hg (hr.mono (by decide)) (by rfl) (T.fn 38 "need_figure" rfl).2 (T.fn 38 "need_figure" rfl).1.kp (b_need_figure (T.fn 38 "need_figure" rfl).1) (P.acons (P.v 0) P.anil))) (P.seq (P.expr (P.call (ok_need_channel T N) hg (hr.mono (by decide)) (by rfl) (T.fn 43 "need_channel" rfl).2 (T.fn 43 "need_channel" rfl).1.kp (b_need_channel (T.fn 43 "need_channel" rfl).1) (P.acons (P.v 1) P.anil))) (P.seq (P.expr (P.call (ok_need_point T N) hg (hr.mono (by decide)) (by rfl) (T.fn 24 "need_point" rfl).2 (T.fn 24 "need_point" rfl).1.kp (b_need_point (T.fn 24 "need_point" rfl).1) (P.acons (P.v 2) P.anil))) (P.seq (P.set (i := 3) sc_rise_and_fall.nd rfl (by first | exact .inl rfl | exact .inr rfl) (P.call (ok_soonest_tacks T N) hg (hr.mono (by decide)) (by rfl) (T.fn 40 "soonest_tacks" rfl).2 (T.fn 40 "soonest_tacks" rfl).1.kp (b_soonest_tacks (T.fn 40 "soonest_tacks" rfl).1) (P.acons (P.v 0) (P.acons (P.v 2) P.anil)))) (P.seq (P.iff (P.cmpT op_isN w_isN (P.v 3) P.non (nomark _)) (P.last (P.ret P.non)) P.nil) (P.last (P.ret (P.call (ok_rise_and_fall_by T N) hg (hr.mono (by decide)) (by rfl) (T.fn 47 "rise_and_fall_by" rfl).2 (T.fn 47 "rise_and_fall_by" rfl).1.kp (b_rise_and_fall_by (T.fn 47 "rise_and_fall_by" rfl).1) (P.acons (P.v 1) (P.acons (P.v 3) P.anil))))))))))
theorem sc__law_sack : FnScope ["_law_script", "_law_turn", "_law_cell", "_law_stir", "_law_each"] ["_law_script", "_law_turn"] (defScope (top 49)) := ⟨rfl, rfl, rfl, by decide +kernel, rfl, by decide +kernel, by decide +kernel⟩
theorem b__law_sack {K : PySem.W.Frag} {f : Addr} {fd : FuncData} (F : FnP K "_law_sack" (top 49) f fd) : Binds K fd ["_law_script", "_law_turn"] [] := F.bindsN fun _ _ _ _ _ _ us hl => match us, hl with | [_, _], _ => rfl
theorem ok__law_sack (T : Pg K mg Ad Dd) (N : Nm K mg) : FnG Pr w K mg base CX0 1 (Ad 49) (Dd 49) ["_law_script", "_law_turn"] (spL K WF.f__law_sack) :=
  P.fnl (T.fn 49 "_law_sack" rfl).1 sc__law_sack rfl rfl fun cdv A outer s H E hg hr => by
    have hu := hr.units
    exact (P.seq (P.set (i := 2) sc__law_sack.nd rfl (by first | exact .inl rfl | exact .inr rfl) (P.ifE (P.cmpT op_lt w2_cmp (P.v 1) (P.callB call_lenA w_len (by rfl) N.n_len (by decide +kernel) (P.acons (P.v 0) P.anil)) (nomark _)) (P.callTy call_int1 w_int (by rfl) N.n_int (by decide +kernel) (P.acons (P.ix ix_seq w_ix (P.v 0) (P.v 1) (fun _ _ => rfl)) P.anil)) (P.op op_addA w_add (P.op op_mulW w_mul P.int (P.v 1)) P.int))) (P.seq (P.set (i := 3) sc__law_sack.nd rfl (by first | exact .inl rfl | exact .inr rfl) (P.op op_addA w_add P.int (P.op op_mulW w_mul P.int (P.v 1)))) (P.seq (P.for PassesOwn.never rfl (P.iter (P.op op_addA w_add (P.callTy call_list_of w_list (by rfl) N.n_list (by decide +kernel) (P.acons (P.sl (P.v 0) P.ono (P.osome P.int)) P.anil)) (P.ofL (P.list (P.acons (P.v 2) P.anil))))) (P.gnm sc__law_sack.nd (i := 4) rfl (by first | exact .inl rfl | exact .inr rfl)) (P.last (P.set (i := 3) sc__law_sack.nd rfl (by first | exact .inl rfl | exact .inr rfl) (P.op op_mod w_mod (P.callTy call_int1 w_int (by rfl) N.n_int (by decide +kernel) (P.acons (P.op op_addA w_add (P.op op_addA w_add (P.op op_mulW w_mul (P.v 3) P.int) (P.op op_mod w_mod (P.callTy call_int1 w_int (by rfl) N.n_int (by decide +kernel) (P.acons (P.v 4) P.anil)) P.int)) P.int) P.anil)) P.int)))) (P.last (P.retL (P.list (P.acons (P.ifE (PW.pt (P.or (P.cmpT op_lt w2_cmp (P.v 2) P.int (nomark _)) (P.or1 (P.cmpT op_ge w2_cmp (P.v 2) (P.op op_pow w_pow P.int P.int) (nomark _))))) (P.callB call_abs w_abs (by rfl) N.n_abs (by decide +kernel) (P.acons (P.v 2) P.anil)) P.int) (P.acons (P.v 3) (P.acons P.int P.anil)))))))))
theorem sc__law_draw : FnScope ["_law_sack_here", "_law_size", "_law_digit", "_law_blend"] ["_law_sack_here", "_law_size"] (defScope (top 50)) := ⟨rfl, rfl, rfl, by decide +kernel, rfl, by decide +kernel, by decide +kernel⟩
theorem b__law_draw {K : PySem.W.Frag} {f : Addr} {fd : FuncData} (F : FnP K "_law_draw" (top 50) f fd) : Binds K fd ["_law_sack_here", "_law_size"] [] := F.bindsN fun _ _ _ _ _ _ us hl => match us, hl with | [_, _], _ => rfl
theorem ok__law_draw (T : Pg K mg Ad Dd) (N : Nm K mg) : FnG Pr w K mg base CX0 1 (Ad 50) (Dd 50) ["_law_sack_here", "_law_size"] (spF K WF.f__law_draw) :=
  P.fn (T.fn 50 "_law_draw" rfl).1 sc__law_draw rfl rfl fun cdv A outer s H E hg hr => by
    have hu := hr.units
    exact (P.seq (P.iff (P.cmpT op_gt w2_cmp (P.skv 0) P.int (nomark _)) (P.seq (P.asg (P.callB call_divmod w_divmod (by rfl) N.n_divmod (by decide +kernel) (P.acons (P.skv 0) (P.acons (P.v 1) P.anil))) (P.gtup (n := 2) rfl (P.gcons (P.gsubv 0) (P.gcons (P.gnm sc__law_draw.nd (i := 2) rfl (by first | exact .inl rfl | exact .inr rfl)) P.gnil)))) (P.last (P.ret (P.v 2)))) P.nil) (P.seq (P.asg (P.op op_addA w_add (P.skv 0) P.int) (P.gsubv 0)) (P.seq (P.set (i := 3) sc__law_draw.nd rfl (by first | exact .inl rfl | exact .inr rfl) (P.op op_mod w_mod (P.callTy call_int1 w_int (by rfl) N.n_int (by decide +kernel) (P.acons (P.op op_addA w_add (P.op op_mulW w_mul (P.skv 0) P.int) (P.op op_mulW w_mul (P.skv 0) P.int)) P.anil)) P.int)) (P.seq (P.asg (P.op op_mod w_mod (P.callTy call_int1 w_int (by rfl) N.n_int (by decide +kernel) (P.acons (P.op op_addA w_add (P.op op_mulW w_mul (P.v 3) (P.op op_addA w_add (P.op op_mod w_mod (P.callTy call_int1 w_int (by rfl) N.n_int (by decide +kernel) (P.acons (P.op op_fdivW w_div (P.v 3) P.int) P.anil)) P.int) P.int)) P.int) P.anil)) P.int) (P.gsubv 0)) (P.last (P.ret (P.op op_mod w_mod (P.callTy call_int1 w_int (by rfl) N.n_int (by decide +kernel) (P.acons (P.op op_fdivW w_div (P.skv 0) P.int) P.anil)) (P.v 1))))))))
theorem sc__law_one : FnScope ["_law_sack_here", "_law_some"] ["_law_sack_here", "_law_some"] (defScope (top 51)) := ⟨rfl, rfl, rfl, by decide +kernel, rfl, by decide +kernel, by decide +kernel⟩
theorem b__law_one {K : PySem.W.Frag} {f : Addr} {fd : FuncData} (F : FnP K "_law_one" (top 51) f fd) : Binds K fd ["_law_sack_here", "_law_some"] [] := F.bindsN fun _ _ _ _ _ _ us hl => match us, hl with | [_, _], _ => rfl
theorem ok__law_one (T : Pg K mg Ad Dd) (N : Nm K mg) : FnG Pr w K mg base CX0 2 (Ad 51) (Dd 51) ["_law_sack_here", "_law_some"] (spF K WF.f__law_one) :=
  P.fn (T.fn 51 "_law_one" rfl).1 sc__law_one rfl rfl fun cdv A outer s H E hg hr => by
    have hu := hr.units
    exact (P.last (P.ret (P.ix ix_seq w_ix (P.v 1) (P.call (ok__law_draw T N) hg (hr.mono (by decide)) (by rfl) (T.fn 50 "_law_draw" rfl).2 (T.fn 50 "_law_draw" rfl).1.kp (b__law_draw (T.fn 50 "_law_draw" rfl).1) (P.acons (P.v 0) (P.acons (P.callB call_lenA w_len (by rfl) N.n_len (by decide +kernel) (P.acons (P.v 1) P.anil)) P.anil))) (fun _ _ => rfl))))
theorem sc__law_gcd : FnScope ["_law_one_here", "_law_two"] ["_law_one_here", "_law_two"] (defScope (top 52)) := ⟨rfl, rfl, rfl, by decide +kernel, rfl, by decide +kernel, by decide +kernel⟩
theorem b__law_gcd {K : PySem.W.Frag} {f : Addr} {fd : FuncData} (F : FnP K "_law_gcd" (top 52) f fd) : Binds K fd ["_law_one_here", "_law_two"] [] := F.bindsN fun _ _ _ _ _ _ us hl => match us, hl with | [_, _], _ => rfl
theorem ok__law_gcd (T : Pg K mg Ad Dd) (N : Nm K mg) : FnG Pr w K mg base CX0 1 (Ad 52) (Dd 52) ["_law_one_here", "_law_two"] (spF K WF.f__law_gcd) :=
  P.fn (T.fn 52 "_law_gcd" rfl).1 sc__law_gcd rfl rfl fun cdv A outer s H E hg hr => by
    have hu := hr.units
    exact (P.seq (P.par (i := 0) (j := 1) rfl sc__law_gcd.nd rfl rfl (by decide) rfl rfl (P.acons (P.callB call_abs w_abs (by rfl) N.n_abs (by decide +kernel) (P.acons (P.v 0) P.anil)) (P.acons (P.callB call_abs w_abs (by rfl) N.n_abs (by decide +kernel) (P.acons (P.v 1) P.anil)) P.anil)) (by rfl)) (P.seq (P.while (WF.t__law_gcd_0) PassesOwn.never (P.cmpT (op_neP hr.units) w_ne (P.v 1) P.int (nomark _)) (P.last (P.par (i := 0) (j := 1) rfl sc__law_gcd.nd rfl rfl (by decide) rfl rfl (P.acons (P.v 1) (P.acons (P.op op_mod w_mod (P.callTy call_int1 w_int (by rfl) N.n_int (by decide +kernel) (P.acons (P.v 0) P.anil)) (P.v 1)) P.anil)) (by rfl)))) (P.last (P.ret (P.v 0)))))
theorem sc__law_ratio : FnScope ["_law_n", "_law_m", "_law_low"] ["_law_n", "_law_m"] (defScope (top 53)) := ⟨rfl, rfl, rfl, by decide +kernel, rfl, by decide +kernel, by decide +kernel⟩
theorem b__law_ratio {K : PySem.W.Frag} {f : Addr} {fd : FuncData} (F : FnP K "_law_ratio" (top 53) f fd) : Binds K fd ["_law_n", "_law_m"] [] := F.bindsN fun _ _ _ _ _ _ us hl => match us, hl with | [_, _], _ => rfl
theorem ok__law_ratio (T : Pg K mg Ad Dd) (N : Nm K mg) : FnG Pr w K mg base CX0 2 (Ad 53) (Dd 53) ["_law_n", "_law_m"] (spF K WF.f__law_ratio) :=
  P.fn (T.fn 53 "_law_ratio" rfl).1 sc__law_ratio rfl rfl fun cdv A outer s H E hg hr => by
    have hu := hr.units
    exact (P.seq (P.set (i := 2) sc__law_ratio.nd rfl (by first | exact .inl rfl | exact .inr rfl) (P.call (ok__law_gcd T N) hg (hr.mono (by decide)) (by rfl) (T.fn 52 "_law_gcd" rfl).2 (T.fn 52 "_law_gcd" rfl).1.kp (b__law_gcd (T.fn 52 "_law_gcd" rfl).1) (P.acons (P.v 0) (P.acons (P.v 1) P.anil)))) (P.last (P.ret (P.ifE (P.cmpT op_gt w2_cmp (P.v 1) P.int (nomark _)) (P.tup (P.acons (P.op op_fdivW w_div (P.v 0) (P.v 2)) (P.acons (P.op op_fdivW w_div (P.v 1) (P.v 2)) P.anil))) (P.tup (P.acons (P.op op_sub w_sub P.int (P.op op_fdivW w_div (P.v 0) (P.v 2))) (P.acons (P.op op_sub w_sub P.int (P.op op_fdivW w_div (P.v 1) (P.v 2))) P.anil)))))))
theorem sc__law_add : FnScope ["_law_one_here", "_law_two"] ["_law_one_here", "_law_two"] (defScope (top 54)) := ⟨rfl, rfl, rfl, by decide +kernel, rfl, by decide +kernel, by decide +kernel⟩
theorem b__law_add {K : PySem.W.Frag} {f : Addr} {fd : FuncData} (F : FnP K "_law_add" (top 54) f fd) : Binds K fd ["_law_one_here", "_law_two"] [] := F.bindsN fun _ _ _ _ _ _ us hl => match us, hl with | [_, _], _ => rfl
theorem ok__law_add (T : Pg K mg Ad Dd) (N : Nm K mg) : FnG Pr w K mg base CX0 3 (Ad 54) (Dd 54) ["_law_one_here", "_law_two"] (spF K WF.f__law_add) :=
  P.fn (T.fn 54 "_law_add" rfl).1 sc__law_add rfl rfl fun cdv A outer s H E hg hr => by
    have hu := hr.units
    exact (P.seq (P.iff (PW.pt (P.or (P.cmpT op_isN w_isN (P.v 0) P.non (nomark _)) (P.or1 (P.cmpT op_isN w_isN (P.v 1) P.non (nomark _))))) (P.last (P.ret P.non)) P.nil) (P.last (P.ret (P.call (ok__law_ratio T N) hg (hr.mono (by decide)) (by rfl) (T.fn 53 "_law_ratio" rfl).2 (T.fn 53 "_law_ratio" rfl).1.kp (b__law_ratio (T.fn 53 "_law_ratio" rfl).1) (P.acons (P.op op_addA w_add (P.op op_mulW w_mul (P.ix ix_seq w_ix (P.v 0) P.int (fun _ _ => rfl)) (P.ix ix_seq w_ix (P.v 1) P.int (fun _ _ => rfl))) (P.op op_mulW w_mul (P.ix ix_seq w_ix (P.v 1) P.int (fun _ _ => rfl)) (P.ix ix_seq w_ix (P.v 0) P.int (fun _ _ => rfl)))) (P.acons (P.op op_mulW w_mul (P.ix ix_seq w_ix (P.v 0) P.int (fun _ _ => rfl)) (P.ix ix_seq w_ix (P.v 1) P.int (fun _ _ => rfl))) P.anil))))))
theorem sc__law_spot : FnScope ["_law_x", "_law_y", "_law_w", "_law_low"] ["_law_x", "_law_y", "_law_w"] (defScope (top 55)) := ⟨rfl, rfl, rfl, by decide +kernel, rfl, by decide +kernel, by decide +kernel⟩
theorem b__law_spot {K : PySem.W.Frag} {f : Addr} {fd : FuncData} (F : FnP K "_law_spot" (top 55) f fd) : Binds K fd ["_law_x", "_law_y", "_law_w"] [] := F.bindsN fun _ _ _ _ _ _ us hl => match us, hl with | [_, _, _], _ => rfl
theorem ok__law_spot (T : Pg K mg Ad Dd) (N : Nm K mg) : FnG Pr w K mg base CX0 2 (Ad 55) (Dd 55) ["_law_x", "_law_y", "_law_w"] (spF K WF.f__law_spot) :=
  P.fn (T.fn 55 "_law_spot" rfl).1 sc__law_spot rfl rfl fun cdv A outer s H E hg hr => by
    have hu := hr.units
    exact (P.seq (P.set (i := 3) sc__law_spot.nd rfl (by first | exact .inl rfl | exact .inr rfl) (P.call (ok__law_gcd T N) hg (hr.mono (by decide)) (by rfl) (T.fn 52 "_law_gcd" rfl).2 (T.fn 52 "_law_gcd" rfl).1.kp (b__law_gcd (T.fn 52 "_law_gcd" rfl).1) (P.acons (P.call (ok__law_gcd T N) hg (hr.mono (by decide)) (by rfl) (T.fn 52 "_law_gcd" rfl).2 (T.fn 52 "_law_gcd" rfl).1.kp (b__law_gcd (T.fn 52 "_law_gcd" rfl).1) (P.acons (P.v 0) (P.acons (P.v 1) P.anil))) (P.acons (P.v 2) P.anil)))) (P.last (P.ret (P.tup (P.acons (P.op op_fdivW w_div (P.v 0) (P.v 3)) (P.acons (P.op op_fdivW w_div (P.v 1) (P.v 3)) (P.acons (P.op op_fdivW w_div (P.v 2) (P.v 3)) P.anil)))))))
theorem sc__law_said : FnScope ["_law_dots", "_law_scale", "_law_x", "_law_y"] ["_law_dots", "_law_scale"] (defScope (top 56)) := ⟨rfl, rfl, rfl, by decide +kernel, rfl, by decide +kernel, by decide +kernel⟩
theorem b__law_said {K : PySem.W.Frag} {f : Addr} {fd : FuncData} (F : FnP K "_law_said" (top 56) f fd) : Binds K fd ["_law_dots", "_law_scale"] [] := F.bindsN fun _ _ _ _ _ _ us hl => match us, hl with | [_, _], _ => rfl
theorem ok__law_said (T : Pg K mg Ad Dd) (N : Nm K mg) : FnG Pr w K mg base CX0 3 (Ad 56) (Dd 56) ["_law_dots", "_law_scale"] (spF K WF.f__law_said) :=
  P.fn (T.fn 56 "_law_said" rfl).1 sc__law_said rfl rfl fun cdv A outer s H E hg hr => by
    have hu := hr.units
    exact (P.last (P.ret (P.callTy call_tuple_of w_tuple (by rfl) N.n_tuple (by decide +kernel) (P.acons (P.ofL (P.lc rfl sc__law_said.nd (own := [("_law_x", 2), ("_law_y", 3)]) (P.iterE (P.iter (P.v 0))) (blkOk_by (own := [("_law_x", 2), ("_law_y", 3)]) (N := ["_law_dots", "_law_scale", "_law_x", "_law_y"]) (sc := defScope (top 56)) (by decide +kernel)) (by decide) (fun _ _ _ _ _ => (P.gtup (n := 2) rfl (P.gcons (P.gnm sc__law_said.nd (i := 2) rfl (by first | exact .inl rfl | exact .inr rfl)) (P.gcons (P.gnm sc__law_said.nd (i := 3) rfl (by first | exact .inl rfl | exact .inr rfl)) P.gnil)))) (fun _ _ _ _ _ => P.nif) (fun _ _ _ _ _ => (P.call (ok__law_spot T N) hg (hr.mono (by decide)) (by rfl) (T.fn 55 "_law_spot" rfl).2 (T.fn 55 "_law_spot" rfl).1.kp (b__law_spot (T.fn 55 "_law_spot" rfl).1) (P.acons (P.v 2) (P.acons (P.v 3) (P.acons (P.v 1) P.anil))))))) P.anil))))
theorem sc__law_bend : FnScope ["_law_a", "_law_b", "_law_c"] ["_law_a", "_law_b", "_law_c"] (defScope (top 57)) := ⟨rfl, rfl, rfl, by decide +kernel, rfl, by decide +kernel, by decide +kernel⟩
theorem b__law_bend {K : PySem.W.Frag} {f : Addr} {fd : FuncData} (F : FnP K "_law_bend" (top 57) f fd) : Binds K fd ["_law_a", "_law_b", "_law_c"] [] := F.bindsN fun _ _ _ _ _ _ us hl => match us, hl with | [_, _, _], _ => rfl
theorem ok__law_bend (T : Pg K mg Ad Dd) (N : Nm K mg) : FnG Pr w K mg base CX0 1 (Ad 57) (Dd 57) ["_law_a", "_law_b", "_law_c"] (spF K WF.f__law_bend) :=
  P.fn (T.fn 57 "_law_bend" rfl).1 sc__law_bend rfl rfl fun cdv A outer s H E hg hr => by
    have hu := hr.units
    exact (P.last (P.ret (P.op op_sub w_sub (P.op op_mulW w_mul (P.op op_sub w_sub (P.ix ix_seq w_ix (P.v 1) P.int (fun _ _ => rfl)) (P.ix ix_seq w_ix (P.v 0) P.int (fun _ _ => rfl))) (P.op op_sub w_sub (P.ix ix_seq w_ix (P.v 2) P.int (fun _ _ => rfl)) (P.ix ix_seq w_ix (P.v 0) P.int (fun _ _ => rfl)))) (P.op op_mulW w_mul (P.op op_sub w_sub (P.ix ix_seq w_ix (P.v 1) P.int (fun _ _ => rfl)) (P.ix ix_seq w_ix (P.v 0) P.int (fun _ _ => rfl))) (P.op op_sub w_sub (P.ix ix_seq w_ix (P.v 2) P.int (fun _ _ => rfl)) (P.ix ix_seq w_ix (P.v 0) P.int (fun _ _ => rfl)))))))
theorem sc__law_chain : FnScope ["_law_dots", "_law_kept", "_law_dot_here"] ["_law_dots"] (defScope (top 58)) := ⟨rfl, rfl, rfl, by decide +kernel, rfl, by decide +kernel, by decide +kernel⟩
theorem b__law_chain {K : PySem.W.Frag} {f : Addr} {fd : FuncData} (F : FnP K "_law_chain" (top 58) f fd) : Binds K fd ["_law_dots"] [] := F.bindsN fun _ _ _ _ _ _ us hl => match us, hl with | [_], _ => rfl
theorem ok__law_chain (T : Pg K mg Ad Dd) (N : Nm K mg) : FnG Pr w K mg base CX0 2 (Ad 58) (Dd 58) ["_law_dots"] (spF K WF.f__law_chain) :=
  P.fn (T.fn 58 "_law_chain" rfl).1 sc__law_chain rfl rfl fun cdv A outer s H E hg hr => by
    have hu := hr.units
    exact (P.seq (P.own (i := 1) sc__law_chain.nd rfl (by first | exact .inl rfl | exact .inr rfl) (P.list P.anil)) (P.seq (P.for PassesOwn.never rfl (P.iter (P.v 0)) (P.gnm sc__law_chain.nd (i := 2) rfl (by first | exact .inl rfl | exact .inr rfl)) (P.seq (P.while (WF.t__law_chain_0) PassesOwn.never (PW.pt (P.and (P.cmpT op_gt w2_cmp (P.lenOv 1 (by rfl) N.n_len) P.int (nomark _)) (P.and1 (P.cmpT op_le w2_cmp (P.call (ok__law_bend T N) hg (hr.mono (by decide)) (by rfl) (T.fn 57 "_law_bend" rfl).2 (T.fn 57 "_law_bend" rfl).1.kp (b__law_bend (T.fn 57 "_law_bend" rfl).1) (P.acons (P.ixOv 1 (P.un un_neg w_neg P.int)) (P.acons (P.ixOv 1 (P.un un_neg w_neg P.int)) (P.acons (P.v 2) P.anil)))) P.int (nomark _))))) (P.last (P.popv 1))) (P.last (P.appv 1 (P.v 2))))) (P.frzs 1 (P.last (P.ret (P.v 1))))))
theorem sc__law_rim : FnScope ["_law_dots", "_law_some"] ["_law_dots"] (defScope (top 59)) := ⟨rfl, rfl, rfl, by decide +kernel, rfl, by decide +kernel, by decide +kernel⟩
theorem b__law_rim {K : PySem.W.Frag} {f : Addr} {fd : FuncData} (F : FnP K "_law_rim" (top 59) f fd) : Binds K fd ["_law_dots"] [] := F.bindsN fun _ _ _ _ _ _ us hl => match us, hl with | [_], _ => rfl
theorem ok__law_rim (T : Pg K mg Ad Dd) (N : Nm K mg) : FnG Pr w K mg base CX0 3 (Ad 59) (Dd 59) ["_law_dots"] (spF K WF.f__law_rim) :=
  P.fn (T.fn 59 "_law_rim" rfl).1 sc__law_rim rfl rfl fun cdv A outer s H E hg hr => by
    have hu := hr.units
    exact (P.seq (P.set (i := 1) sc__law_rim.nd rfl (by first | exact .inl rfl | exact .inr rfl) (P.ofL (P.srtSet (P.rD (P.v 0)) (by rfl) N.n_sorted (by rfl) N.n_set hr.units rfl))) (P.seq (P.iff (P.cmpT op_lt w2_cmp (P.callB call_lenA w_len (by rfl) N.n_len (by decide +kernel) (P.acons (P.v 1) P.anil)) P.int (nomark _)) (P.last (P.ret (P.v 1))) P.nil) (P.last (P.ret (P.op op_addA w_add (P.sl (P.call (ok__law_chain T N) hg (hr.mono (by decide)) (by rfl) (T.fn 58 "_law_chain" rfl).2 (T.fn 58 "_law_chain" rfl).1.kp (b__law_chain (T.fn 58 "_law_chain" rfl).1) (P.acons (P.v 1) P.anil)) P.ono (P.osome (P.un un_neg w_neg P.int))) (P.sl (P.call (ok__law_chain T N) hg (hr.mono (by decide)) (by rfl) (T.fn 58 "_law_chain" rfl).2 (T.fn 58 "_law_chain" rfl).1.kp (b__law_chain (T.fn 58 "_law_chain" rfl).1) (P.acons (P.ofL (P.rev (P.rD (P.v 1)))) P.anil)) P.ono (P.osome (P.un un_neg w_neg P.int))))))))
theorem sc__law_boat : FnScope ["_law_sack_here", "_law_dots", "_law_branch", "_law_turn", "_law_wide", "_law_high", "_law_x", "_law_y", "_law_rim_here"] ["_law_sack_here"] (defScope (top 60)) := ⟨rfl, rfl, rfl, by decide +kernel, rfl, by decide +kernel, by decide +kernel⟩
theorem b__law_boat {K : PySem.W.Frag} {f : Addr} {fd : FuncData} (F : FnP K "_law_boat" (top 60) f fd) : Binds K fd ["_law_sack_here"] [] := F.bindsN fun _ _ _ _ _ _ us hl => match us, hl with | [_], _ => rfl
theorem ok__law_boat (T : Pg K mg Ad Dd) (N : Nm K mg) : FnG Pr w K mg base CX0 4 (Ad 60) (Dd 60) ["_law_sack_here"] (spF K WF.f__law_boat) :=
  P.fn (T.fn 60 "_law_boat" rfl).1 sc__law_boat rfl rfl fun cdv A outer s H E hg hr => by
    have hu := hr.units
    exact (P.seq (P.parOF (i := 1) (j := 2) rfl sc__law_boat.nd rfl rfl (by decide) rfl rfl (P.list (P.acons (P.tup (P.acons P.int (P.acons P.int P.anil))) P.anil)) (P.call (ok__law_draw T N) hg (hr.mono (by decide)) (by rfl) (T.fn 50 "_law_draw" rfl).2 (T.fn 50 "_law_draw" rfl).1.kp (b__law_draw (T.fn 50 "_law_draw" rfl).1) (P.acons (P.v 0) (P.acons P.int P.anil))) (by rfl)) (P.seq (P.for PassesOwn.never rfl (P.rng1 (by rfl) N.n_range (P.acons (P.op op_addA w_add P.int (P.call (ok__law_draw T N) hg (hr.mono (by decide)) (by rfl) (T.fn 50 "_law_draw" rfl).2 (T.fn 50 "_law_draw" rfl).1.kp (b__law_draw (T.fn 50 "_law_draw" rfl).1) (P.acons (P.v 0) (P.acons P.int P.anil)))) P.anil)) (P.gnm sc__law_boat.nd (i := 3) rfl (by first | exact .inl rfl | exact .inr rfl)) (P.last (P.appv 1 (P.tup (P.acons (P.op op_sub w_sub (P.call (ok__law_draw T N) hg (hr.mono (by decide)) (by rfl) (T.fn 50 "_law_draw" rfl).2 (T.fn 50 "_law_draw" rfl).1.kp (b__law_draw (T.fn 50 "_law_draw" rfl).1) (P.acons (P.v 0) (P.acons P.int P.anil))) P.int) (P.acons (P.op op_sub w_sub (P.call (ok__law_draw T N) hg (hr.mono (by decide)) (by rfl) (T.fn 50 "_law_draw" rfl).2 (T.fn 50 "_law_draw" rfl).1.kp (b__law_draw (T.fn 50 "_law_draw" rfl).1) (P.acons (P.v 0) (P.acons P.int P.anil))) P.int) P.anil)))))) (P.seq (P.iff (P.cmpT op_lt w2_cmp (P.v 2) P.int (nomark _)) (P.last (P.own (i := 1) sc__law_boat.nd rfl (by first | exact .inl rfl | exact .inr rfl) (P.cat (P.rO 1) (P.rL (P.list (P.acons (P.tup (P.acons (P.op op_addA w_add P.int (P.v 2)) (P.acons P.int P.anil))) (P.acons (P.tup (P.acons (P.op op_sub w_sub P.int (P.v 2)) (P.acons P.int P.anil))) (P.acons (P.tup (P.acons (P.un un_neg w_neg P.int) (P.acons (P.un un_neg w_neg P.int) P.anil))) P.anil)))))))) (P.last (P.iff (P.cmpT (op_eqP hr.units) w_eq (P.v 2) P.int (nomark _)) (P.seq (P.asg (P.tup (P.acons (P.call (ok__law_one T N) hg (hr.mono (by decide)) (by rfl) (T.fn 51 "_law_one" rfl).2 (T.fn 51 "_law_one" rfl).1.kp (b__law_one (T.fn 51 "_law_one" rfl).1) (P.acons (P.v 0) (P.acons (P.tup (P.acons P.int (P.acons (P.un un_neg w_neg P.int) P.anil))) P.anil))) (P.acons (P.call (ok__law_one T N) hg (hr.mono (by decide)) (by rfl) (T.fn 51 "_law_one" rfl).2 (T.fn 51 "_law_one" rfl).1.kp (b__law_one (T.fn 51 "_law_one" rfl).1) (P.acons (P.v 0) (P.acons (P.tup (P.acons P.int (P.acons (P.un un_neg w_neg P.int) P.anil))) P.anil))) P.anil))) (P.gtup (n := 2) rfl (P.gcons (P.gnm sc__law_boat.nd (i := 4) rfl (by first | exact .inl rfl | exact .inr rfl)) (P.gcons (P.gnm sc__law_boat.nd (i := 5) rfl (by first | exact .inl rfl | exact .inr rfl)) P.gnil)))) (P.last (P.own (i := 1) sc__law_boat.nd rfl (by first | exact .inl rfl | exact .inr rfl) (P.cat (P.rL (P.lc rfl sc__law_boat.nd (own := [("_law_x", 6), ("_law_y", 7)]) (P.iterOv 1) (blkOk_by (own := [("_law_x", 6), ("_law_y", 7)]) (N := ["_law_sack_here", "_law_dots", "_law_branch", "_law_turn", "_law_wide", "_law_high", "_law_x", "_law_y", "_law_rim_here"]) (sc := defScope (top 60)) (by decide +kernel)) (by decide) (fun _ _ _ _ _ => (P.gtup (n := 2) rfl (P.gcons (P.gnm sc__law_boat.nd (i := 6) rfl (by first | exact .inl rfl | exact .inr rfl)) (P.gcons (P.gnm sc__law_boat.nd (i := 7) rfl (by first | exact .inl rfl | exact .inr rfl)) P.gnil)))) (fun _ _ _ _ _ => P.nif) (fun _ _ _ _ _ => (P.tup (P.acons (P.op op_mulW w_mul (P.v 4) (P.callB call_abs w_abs (by rfl) N.n_abs (by decide +kernel) (P.acons (P.v 6) P.anil))) (P.acons (P.op op_mulW w_mul (P.v 5) (P.callB call_abs w_abs (by rfl) N.n_abs (by decide +kernel) (P.acons (P.v 7) P.anil))) P.anil)))))) (P.rL (P.list (P.acons (P.tup (P.acons (P.v 4) (P.acons P.int P.anil))) (P.acons (P.tup (P.acons (P.v 4) (P.acons (P.op op_mulW w_mul P.int (P.v 5)) P.anil))) P.anil)))))))) P.nil))) (P.frzs 1 (P.seq (P.set (i := 8) sc__law_boat.nd rfl (by first | exact .inl rfl | exact .inr rfl) (P.call (ok__law_rim T N) hg (hr.mono (by decide)) (by rfl) (T.fn 59 "_law_rim" rfl).2 (T.fn 59 "_law_rim" rfl).1.kp (b__law_rim (T.fn 59 "_law_rim" rfl).1) (P.acons (P.v 1) P.anil))) (P.seq (P.iff (P.cmpT op_lt w2_cmp (P.callB call_lenA w_len (by rfl) N.n_len (by decide +kernel) (P.acons (P.v 8) P.anil)) P.int (nomark _)) (P.last (P.set (i := 8) sc__law_boat.nd rfl (by first | exact .inl rfl | exact .inr rfl) (P.call (ok__law_rim T N) hg (hr.mono (by decide)) (by rfl) (T.fn 59 "_law_rim" rfl).2 (T.fn 59 "_law_rim" rfl).1.kp (b__law_rim (T.fn 59 "_law_rim" rfl).1) (P.acons (P.op op_addA w_add (P.v 1) (P.ofL (P.list (P.acons (P.tup (P.acons P.int (P.acons P.int P.anil))) (P.acons (P.tup (P.acons P.int (P.acons (P.un un_neg w_neg P.int) P.anil))) P.anil))))) P.anil)))) P.nil) (P.last (P.ret (P.ofL (P.list (P.acons (P.v 8) (P.acons (P.op op_addA w_add P.int (P.call (ok__law_draw T N) hg (hr.mono (by decide)) (by rfl) (T.fn 50 "_law_draw" rfl).2 (T.fn 50 "_law_draw" rfl).1.kp (b__law_draw (T.fn 50 "_law_draw" rfl).1) (P.acons (P.v 0) (P.acons P.int P.anil)))) P.anil))))))))))))
theorem sc__law_dot : FnScope ["_law_sack_here"] ["_law_sack_here"] (defScope (top 61)) := ⟨rfl, rfl, rfl, by decide +kernel, rfl, by decide +kernel, by decide +kernel⟩
theorem b__law_dot {K : PySem.W.Frag} {f : Addr} {fd : FuncData} (F : FnP K "_law_dot" (top 61) f fd) : Binds K fd ["_law_sack_here"] [] := F.bindsN fun _ _ _ _ _ _ us hl => match us, hl with | [_], _ => rfl
theorem ok__law_dot (T : Pg K mg Ad Dd) (N : Nm K mg) : FnG Pr w K mg base CX0 2 (Ad 61) (Dd 61) ["_law_sack_here"] (spF K WF.f__law_dot) :=
  P.fn (T.fn 61 "_law_dot" rfl).1 sc__law_dot rfl rfl fun cdv A outer s H E hg hr => by
    have hu := hr.units
    exact (P.last (P.ret (P.tup (P.acons (P.op op_sub w_sub (P.call (ok__law_draw T N) hg (hr.mono (by decide)) (by rfl) (T.fn 50 "_law_draw" rfl).2 (T.fn 50 "_law_draw" rfl).1.kp (b__law_draw (T.fn 50 "_law_draw" rfl).1) (P.acons (P.v 0) (P.acons P.int P.anil))) P.int) (P.acons (P.op op_sub w_sub (P.call (ok__law_draw T N) hg (hr.mono (by decide)) (by rfl) (T.fn 50 "_law_draw" rfl).2 (T.fn 50 "_law_draw" rfl).1.kp (b__law_draw (T.fn 50 "_law_draw" rfl).1) (P.acons (P.v 0) (P.acons P.int P.anil))) P.int) P.anil)))))
theorem sc__law_parts : FnScope ["_law_boat_here", "_law_one_here", "_law_two", "_law_x", "_law_y", "_law_den", "_law_rim_here", "_law_best", "_law_k", "_law_j", "_law_a", "_law_b", "_law_c", "_law_d", "_law_base", "_law_sign", "_law_p", "_law_q", "_law_found", "_law_dot_here", "_law_many"] ["_law_boat_here", "_law_one_here", "_law_two"] (defScope (top 62)) := ⟨rfl, rfl, rfl, by decide +kernel, rfl, by decide +kernel, by decide +kernel⟩
theorem b__law_parts {K : PySem.W.Frag} {f : Addr} {fd : FuncData} (F : FnP K "_law_parts" (top 62) f fd) : Binds K fd ["_law_boat_here", "_law_one_here", "_law_two"] [] := F.bindsN fun _ _ _ _ _ _ us hl => match us, hl with | [_, _, _], _ => rfl
theorem ok__law_parts (T : Pg K mg Ad Dd) (N : Nm K mg) : FnG Pr w K mg base CX0 3 (Ad 62) (Dd 62) ["_law_boat_here", "_law_one_here", "_law_two"] (spF K WF.f__law_parts) :=
  P.fn (T.fn 62 "_law_parts" rfl).1 sc__law_parts rfl rfl fun cdv A outer s H E hg hr => by
    have hu := hr.units
    exact (P.seq (P.asg (P.tup (P.acons (P.op op_sub w_sub (P.op op_mulW w_mul (P.ix ix_seq w_ix (P.v 2) P.int (fun _ _ => rfl)) (P.ix ix_seq w_ix (P.v 1) P.int (fun _ _ => rfl))) (P.op op_mulW w_mul (P.ix ix_seq w_ix (P.v 1) P.int (fun _ _ => rfl)) (P.ix ix_seq w_ix (P.v 2) P.int (fun _ _ => rfl)))) (P.acons (P.op op_sub w_sub (P.op op_mulW w_mul (P.ix ix_seq w_ix (P.v 2) P.int (fun _ _ => rfl)) (P.ix ix_seq w_ix (P.v 1) P.int (fun _ _ => rfl))) (P.op op_mulW w_mul (P.ix ix_seq w_ix (P.v 1) P.int (fun _ _ => rfl)) (P.ix ix_seq w_ix (P.v 2) P.int (fun _ _ => rfl)))) (P.acons (P.op op_mulW w_mul (P.ix ix_seq w_ix (P.v 1) P.int (fun _ _ => rfl)) (P.ix ix_seq w_ix (P.v 2) P.int (fun _ _ => rfl))) P.anil)))) (P.gtup (n := 3) rfl (P.gcons (P.gnm sc__law_parts.nd (i := 3) rfl (by first | exact .inl rfl | exact .inr rfl)) (P.gcons (P.gnm sc__law_parts.nd (i := 4) rfl (by first | exact .inl rfl | exact .inr rfl)) (P.gcons (P.gnm sc__law_parts.nd (i := 5) rfl (by first | exact .inl rfl | exact .inr rfl)) P.gnil))))) (P.seq (P.asg (P.tup (P.acons (P.ix ix_seq w_ix (P.v 0) P.int (fun _ _ => rfl)) (P.acons P.non P.anil))) (P.gtup (n := 2) rfl (P.gcons (P.gnm sc__law_parts.nd (i := 6) rfl (by first | exact .inl rfl | exact .inr rfl)) (P.gcons (P.gnm sc__law_parts.nd (i := 7) rfl (by first | exact .inl rfl | exact .inr rfl)) P.gnil)))) (P.seq (P.iff (PW.pt (P.and (P.cmpT (op_eqP hr.units) w_eq (P.v 3) P.int (nomark _)) (P.and1 (P.cmpT (op_eqP hr.units) w_eq (P.v 4) P.int (nomark _))))) (P.last (P.ret (P.ofL (P.list P.anil)))) P.nil) (P.seq (P.for PassesOwn.never rfl (P.rng1 (by rfl) N.n_range (P.acons (P.callB call_lenA w_len (by rfl) N.n_len (by decide +kernel) (P.acons (P.v 6) P.anil)) P.anil)) (P.gnm sc__law_parts.nd (i := 8) rfl (by first | exact .inl rfl | exact .inr rfl)) (P.last (P.for PassesOwn.never rfl (P.rng1 (by rfl) N.n_range (P.acons (P.v 8) P.anil)) (P.gnm sc__law_parts.nd (i := 9) rfl (by first | exact .inl rfl | exact .inr rfl)) (P.seq (P.asg (P.ix ix_seq w_ix (P.v 6) (P.v 9) (fun _ _ => rfl)) (P.gtup (n := 2) rfl (P.gcons (P.gnm sc__law_parts.nd (i := 10) rfl (by first | exact .inl rfl | exact .inr rfl)) (P.gcons (P.gnm sc__law_parts.nd (i := 11) rfl (by first | exact .inl rfl | exact .inr rfl)) P.gnil)))) (P.seq (P.asg (P.ix ix_seq w_ix (P.v 6) (P.v 8) (fun _ _ => rfl)) (P.gtup (n := 2) rfl (P.gcons (P.gnm sc__law_parts.nd (i := 12) rfl (by first | exact .inl rfl | exact .inr rfl)) (P.gcons (P.gnm sc__law_parts.nd (i := 13) rfl (by first | exact .inl rfl | exact .inr rfl)) P.gnil)))) (P.seq (P.set (i := 14) sc__law_parts.nd rfl (by first | exact .inl rfl | exact .inr rfl) (P.op op_sub w_sub (P.op op_mulW w_mul (P.v 10) (P.v 13)) (P.op op_mulW w_mul (P.v 11) (P.v 12)))) (P.seq (P.set (i := 15) sc__law_parts.nd rfl (by first | exact .inl rfl | exact .inr rfl) (P.ifE (P.cmpT op_gt w2_cmp (P.v 14) P.int (nomark _)) P.int (P.un un_neg w_neg P.int))) (P.seq (P.par3 (i := 16) (j := 17) (l := 14) rfl sc__law_parts.nd rfl rfl rfl (by decide) (by decide) (by decide) rfl rfl rfl (P.acons (P.op op_mulW w_mul (P.v 15) (P.op op_sub w_sub (P.op op_mulW w_mul (P.v 3) (P.v 13)) (P.op op_mulW w_mul (P.v 4) (P.v 12)))) (P.acons (P.op op_mulW w_mul (P.v 15) (P.op op_sub w_sub (P.op op_mulW w_mul (P.v 10) (P.v 4)) (P.op op_mulW w_mul (P.v 11) (P.v 3)))) (P.acons (P.op op_mulW w_mul (P.v 15) (P.v 14)) P.anil))) (by rfl)) (P.last (P.iff (PW.pt (P.and (P.cmpT op_gt w2_cmp (P.v 14) P.int (nomark _)) (P.and (P.cmpT op_ge w2_cmp (P.v 16) P.int (nomark _)) (P.and (P.cmpT op_ge w2_cmp (P.v 17) P.int (nomark _)) (P.and1 (PW.pt (P.or (P.cmpT op_isN w_isN (P.v 7) P.non (nomark _)) (P.or1 (P.cmpT op_lt w2_cmp (P.op op_mulW w_mul (P.op op_addA w_add (P.v 16) (P.v 17)) (P.ix ix_seq w_ix (P.v 7) P.int (fun _ _ => rfl))) (P.op op_mulW w_mul (P.op op_addA w_add (P.ix ix_seq w_ix (P.v 7) P.int (fun _ _ => rfl)) (P.ix ix_seq w_ix (P.v 7) P.int (fun _ _ => rfl))) (P.v 14)) (nomark _)))))))))) (P.last (P.set (i := 7) sc__law_parts.nd rfl (by first | exact .inl rfl | exact .inr rfl) (P.ofL (P.list (P.acons (P.v 16) (P.acons (P.v 17) (P.acons (P.v 14) (P.acons (P.ix ix_seq w_ix (P.v 6) (P.v 9) (fun _ _ => rfl)) (P.acons (P.ix ix_seq w_ix (P.v 6) (P.v 8) (fun _ _ => rfl)) P.anil))))))))) P.nil)))))))))) (P.seq (P.iff (P.cmpT op_isN w_isN (P.v 7) P.non (nomark _)) (P.last (P.ret P.non)) P.nil) (P.seq (P.set (i := 18) sc__law_parts.nd rfl (by first | exact .inl rfl | exact .inr rfl) (P.ofL (P.list (P.acons (P.tup (P.acons (P.ix ix_seq w_ix (P.v 7) P.int (fun _ _ => rfl)) (P.acons (P.ix ix_seq w_ix (P.v 7) P.int (fun _ _ => rfl)) P.anil))) (P.acons (P.tup (P.acons (P.ix ix_seq w_ix (P.v 7) P.int (fun _ _ => rfl)) (P.acons (P.ix ix_seq w_ix (P.v 7) P.int (fun _ _ => rfl)) P.anil))) P.anil))))) (P.last (P.ret (P.ofL (P.lc rfl sc__law_parts.nd (own := [("_law_dot_here", 19), ("_law_many", 20)]) (P.iterE (P.iter (P.v 18))) (blkOk_by (own := [("_law_dot_here", 19), ("_law_many", 20)]) (N := ["_law_boat_here", "_law_one_here", "_law_two", "_law_x", "_law_y", "_law_den", "_law_rim_here", "_law_best", "_law_k", "_law_j", "_law_a", "_law_b", "_law_c", "_law_d", "_law_base", "_law_sign", "_law_p", "_law_q", "_law_found", "_law_dot_here", "_law_many"]) (sc := defScope (top 62)) (by decide +kernel)) (by decide) (fun _ _ _ _ _ => (P.gtup (n := 2) rfl (P.gcons (P.gnm sc__law_parts.nd (i := 19) rfl (by first | exact .inl rfl | exact .inr rfl)) (P.gcons (P.gnm sc__law_parts.nd (i := 20) rfl (by first | exact .inl rfl | exact .inr rfl)) P.gnil)))) (fun _ _ _ _ _ => (P.one_if (P.cmpT op_gt w2_cmp (P.v 20) P.int (nomark _)))) (fun _ _ _ _ _ => (P.tup (P.acons (P.v 19) (P.acons (P.call (ok__law_ratio T N) hg (hr.mono (by decide)) (by rfl) (T.fn 53 "_law_ratio" rfl).2 (T.fn 53 "_law_ratio" rfl).1.kp (b__law_ratio (T.fn 53 "_law_ratio" rfl).1) (P.acons (P.v 20) (P.acons (P.op op_mulW w_mul (P.ix ix_seq w_ix (P.v 7) P.int (fun _ _ => rfl)) (P.v 5)) P.anil))) P.anil))))))))))))))
theorem sc__law_normal : FnScope ["_law_sack_here", "_law_a", "_law_b"] ["_law_sack_here"] (defScope (top 63)) := ⟨rfl, rfl, rfl, by decide +kernel, rfl, by decide +kernel, by decide +kernel⟩
theorem b__law_normal {K : PySem.W.Frag} {f : Addr} {fd : FuncData} (F : FnP K "_law_normal" (top 63) f fd) : Binds K fd ["_law_sack_here"] [] := F.bindsN fun _ _ _ _ _ _ us hl => match us, hl with | [_], _ => rfl
theorem ok__law_normal (T : Pg K mg Ad Dd) (N : Nm K mg) : FnG Pr w K mg base CX0 2 (Ad 63) (Dd 63) ["_law_sack_here"] (spF K WF.f__law_normal) :=
  P.fn (T.fn 63 "_law_normal" rfl).1 sc__law_normal rfl rfl fun cdv A outer s H E hg hr => by
    have hu := hr.units
    exact (P.seq (P.par (i := 1) (j := 2) rfl sc__law_normal.nd rfl rfl (by decide) rfl rfl (P.acons (P.op op_sub w_sub (P.call (ok__law_draw T N) hg (hr.mono (by decide)) (by rfl) (T.fn 50 "_law_draw" rfl).2 (T.fn 50 "_law_draw" rfl).1.kp (b__law_draw (T.fn 50 "_law_draw" rfl).1) (P.acons (P.v 0) (P.acons P.int P.anil))) P.int) (P.acons (P.op op_sub w_sub (P.call (ok__law_draw T N) hg (hr.mono (by decide)) (by rfl) (T.fn 50 "_law_draw" rfl).2 (T.fn 50 "_law_draw" rfl).1.kp (b__law_draw (T.fn 50 "_law_draw" rfl).1) (P.acons (P.v 0) (P.acons P.int P.anil))) P.int) P.anil)) (by rfl)) (P.last (P.ret (P.ifE (PW.pt (P.or (P.cmpT (op_neP hr.units) w_ne (P.v 1) P.int (nomark _)) (P.or1 (P.cmpT (op_neP hr.units) w_ne (P.v 2) P.int (nomark _))))) (P.tup (P.acons (P.v 1) (P.acons (P.v 2) P.anil))) (P.tup (P.acons P.int (P.acons P.int P.anil)))))))
theorem sc__law_channel : FnScope ["_law_normal_here", "_law_low", "_law_high", "_law_a", "_law_b", "_law_fine"] ["_law_normal_here", "_law_low", "_law_high"] (defScope (top 64)) := ⟨rfl, rfl, rfl, by decide +kernel, rfl, by decide +kernel, by decide +kernel⟩
theorem b__law_channel {K : PySem.W.Frag} {f : Addr} {fd : FuncData} (F : FnP K "_law_channel" (top 64) f fd) : Binds K fd ["_law_normal_here", "_law_low", "_law_high"] [] := F.bindsN fun _ _ _ _ _ _ us hl => match us, hl with | [_, _, _], _ => rfl
theorem ok__law_channel (T : Pg K mg Ad Dd) (N : Nm K mg) : FnG Pr w K mg base CX0 2 (Ad 64) (Dd 64) ["_law_normal_here", "_law_low", "_law_high"] (spF K WF.f__law_channel) :=
  P.fn (T.fn 64 "_law_channel" rfl).1 sc__law_channel rfl rfl fun cdv A outer s H E hg hr => by
    have hu := hr.units
    exact (P.seq (P.asg (P.v 0) (P.gtup (n := 2) rfl (P.gcons (P.gnm sc__law_channel.nd (i := 3) rfl (by first | exact .inl rfl | exact .inr rfl)) (P.gcons (P.gnm sc__law_channel.nd (i := 4) rfl (by first | exact .inl rfl | exact .inr rfl)) P.gnil)))) (P.seq (P.set (i := 5) sc__law_channel.nd rfl (by first | exact .inl rfl | exact .inr rfl) (P.call (ok__law_gcd T N) hg (hr.mono (by decide)) (by rfl) (T.fn 52 "_law_gcd" rfl).2 (T.fn 52 "_law_gcd" rfl).1.kp (b__law_gcd (T.fn 52 "_law_gcd" rfl).1) (P.acons (P.call (ok__law_gcd T N) hg (hr.mono (by decide)) (by rfl) (T.fn 52 "_law_gcd" rfl).2 (T.fn 52 "_law_gcd" rfl).1.kp (b__law_gcd (T.fn 52 "_law_gcd" rfl).1) (P.acons (P.v 3) (P.acons (P.v 4) P.anil))) (P.acons (P.call (ok__law_gcd T N) hg (hr.mono (by decide)) (by rfl) (T.fn 52 "_law_gcd" rfl).2 (T.fn 52 "_law_gcd" rfl).1.kp (b__law_gcd (T.fn 52 "_law_gcd" rfl).1) (P.acons (P.v 1) (P.acons (P.v 2) P.anil))) P.anil)))) (P.last (P.ret (P.tup (P.acons (P.op op_fdivW w_div (P.v 3) (P.v 5)) (P.acons (P.op op_fdivW w_div (P.v 4) (P.v 5)) (P.acons (P.op op_fdivW w_div (P.v 1) (P.v 5)) (P.acons (P.op op_fdivW w_div (P.v 2) (P.v 5)) P.anil)))))))))
theorem sc__law_growth : FnScope ["_law_water", "_law_parts_here", "_law_up", "_law_down", "_law_dot_here", "_law_many", "_law_some"] ["_law_water", "_law_parts_here"] (defScope (top 65)) := ⟨rfl, rfl, rfl, by decide +kernel, rfl, by decide +kernel, by decide +kernel⟩
theorem b__law_growth {K : PySem.W.Frag} {f : Addr} {fd : FuncData} (F : FnP K "_law_growth" (top 65) f fd) : Binds K fd ["_law_water", "_law_parts_here"] [] := F.bindsN fun _ _ _ _ _ _ us hl => match us, hl with | [_, _], _ => rfl
theorem ok__law_growth (T : Pg K mg Ad Dd) (N : Nm K mg) : FnG Pr w K mg base CX0 4 (Ad 65) (Dd 65) ["_law_water", "_law_parts_here"] (spF K WF.f__law_growth) :=
  P.fn (T.fn 65 "_law_growth" rfl).1 sc__law_growth rfl rfl fun cdv A outer s H E hg hr => by
    have hu := hr.units
    exact (P.seq (P.asg (P.tup (P.acons (P.tup (P.acons P.int (P.acons P.int P.anil))) (P.acons (P.tup (P.acons P.int (P.acons P.int P.anil))) P.anil))) (P.gtup (n := 2) rfl (P.gcons (P.gnm sc__law_growth.nd (i := 2) rfl (by first | exact .inl rfl | exact .inr rfl)) (P.gcons (P.gnm sc__law_growth.nd (i := 3) rfl (by first | exact .inl rfl | exact .inr rfl)) P.gnil)))) (P.seq (P.for PassesOwn.never rfl (P.iter (P.v 1)) (P.gtup (n := 2) rfl (P.gcons (P.gnm sc__law_growth.nd (i := 4) rfl (by first | exact .inl rfl | exact .inr rfl)) (P.gcons (P.gnm sc__law_growth.nd (i := 5) rfl (by first | exact .inl rfl | exact .inr rfl)) P.gnil))) (P.seq (P.set (i := 6) sc__law_growth.nd rfl (by first | exact .inl rfl | exact .inr rfl) (P.op op_addA w_add (P.op op_mulW w_mul (P.ix ix_seq w_ix (P.v 0) P.int (fun _ _ => rfl)) (P.ix ix_seq w_ix (P.v 4) P.int (fun _ _ => rfl))) (P.op op_mulW w_mul (P.ix ix_seq w_ix (P.v 0) P.int (fun _ _ => rfl)) (P.ix ix_seq w_ix (P.v 4) P.int (fun _ _ => rfl))))) (P.last (P.iff (P.cmpT op_gt w2_cmp (P.v 6) P.int (nomark _)) (P.last (P.set (i := 2) sc__law_growth.nd rfl (by first | exact .inl rfl | exact .inr rfl) (P.call (ok__law_add T N) hg (hr.mono (by decide)) (by rfl) (T.fn 54 "_law_add" rfl).2 (T.fn 54 "_law_add" rfl).1.kp (b__law_add (T.fn 54 "_law_add" rfl).1) (P.acons (P.v 2) (P.acons (P.call (ok__law_ratio T N) hg (hr.mono (by decide)) (by rfl) (T.fn 53 "_law_ratio" rfl).2 (T.fn 53 "_law_ratio" rfl).1.kp (b__law_ratio (T.fn 53 "_law_ratio" rfl).1) (P.acons (P.op op_mulW w_mul (P.v 6) (P.ix ix_seq w_ix (P.v 5) P.int (fun _ _ => rfl))) (P.acons (P.ix ix_seq w_ix (P.v 5) P.int (fun _ _ => rfl)) P.anil))) P.anil))))) (P.last (P.set (i := 3) sc__law_growth.nd rfl (by first | exact .inl rfl | exact .inr rfl) (P.call (ok__law_add T N) hg (hr.mono (by decide)) (by rfl) (T.fn 54 "_law_add" rfl).2 (T.fn 54 "_law_add" rfl).1.kp (b__law_add (T.fn 54 "_law_add" rfl).1) (P.acons (P.v 3) (P.acons (P.call (ok__law_ratio T N) hg (hr.mono (by decide)) (by rfl) (T.fn 53 "_law_ratio" rfl).2 (T.fn 53 "_law_ratio" rfl).1.kp (b__law_ratio (T.fn 53 "_law_ratio" rfl).1) (P.acons (P.op op_sub w_sub P.int (P.op op_mulW w_mul (P.v 6) (P.ix ix_seq w_ix (P.v 5) P.int (fun _ _ => rfl)))) (P.acons (P.ix ix_seq w_ix (P.v 5) P.int (fun _ _ => rfl)) P.anil))) P.anil))))))))) (P.last (P.ret (P.tup (P.acons (P.v 2) (P.acons (P.v 3) P.anil)))))))
theorem sc__law_way : FnScope ["_law_sack_here", "_law_boat_here", "_law_normal_here", "_law_branch", "_law_far", "_law_x", "_law_y"] ["_law_sack_here", "_law_boat_here", "_law_normal_here"] (defScope (top 66)) := ⟨rfl, rfl, rfl, by decide +kernel, rfl, by decide +kernel, by decide +kernel⟩
theorem b__law_way {K : PySem.W.Frag} {f : Addr} {fd : FuncData} (F : FnP K "_law_way" (top 66) f fd) : Binds K fd ["_law_sack_here", "_law_boat_here", "_law_normal_here"] [] := F.bindsN fun _ _ _ _ _ _ us hl => match us, hl with | [_, _, _], _ => rfl
theorem ok__law_way (T : Pg K mg Ad Dd) (N : Nm K mg) : FnG Pr w K mg base CX0 3 (Ad 66) (Dd 66) ["_law_sack_here", "_law_boat_here", "_law_normal_here"] (spF K WF.f__law_way) :=
  P.fn (T.fn 66 "_law_way" rfl).1 sc__law_way rfl rfl fun cdv A outer s H E hg hr => by
    have hu := hr.units
    exact (P.seq (P.par (i := 3) (j := 4) rfl sc__law_way.nd rfl rfl (by decide) rfl rfl (P.acons (P.call (ok__law_draw T N) hg (hr.mono (by decide)) (by rfl) (T.fn 50 "_law_draw" rfl).2 (T.fn 50 "_law_draw" rfl).1.kp (b__law_draw (T.fn 50 "_law_draw" rfl).1) (P.acons (P.v 0) (P.acons P.int P.anil))) (P.acons (P.op op_sub w_sub (P.call (ok__law_draw T N) hg (hr.mono (by decide)) (by rfl) (T.fn 50 "_law_draw" rfl).2 (T.fn 50 "_law_draw" rfl).1.kp (b__law_draw (T.fn 50 "_law_draw" rfl).1) (P.acons (P.v 0) (P.acons P.int P.anil))) P.int) P.anil)) (by rfl)) (P.seq (P.iff (P.cmpT (op_eqP hr.units) w_eq (P.v 3) P.int (nomark _)) (P.last (P.ret (P.tup (P.acons P.int (P.acons P.int P.anil))))) P.nil) (P.seq (P.iff (P.cmpT (op_eqP hr.units) w_eq (P.v 3) P.int (nomark _)) (P.seq (P.asg (P.call (ok__law_one T N) hg (hr.mono (by decide)) (by rfl) (T.fn 51 "_law_one" rfl).2 (T.fn 51 "_law_one" rfl).1.kp (b__law_one (T.fn 51 "_law_one" rfl).1) (P.acons (P.v 0) (P.acons (P.ix ix_seq w_ix (P.v 1) P.int (fun _ _ => rfl)) P.anil))) (P.gtup (n := 2) rfl (P.gcons (P.gnm sc__law_way.nd (i := 5) rfl (by first | exact .inl rfl | exact .inr rfl)) (P.gcons (P.gnm sc__law_way.nd (i := 6) rfl (by first | exact .inl rfl | exact .inr rfl)) P.gnil)))) (P.last (P.ret (P.tup (P.acons (P.op op_mulW w_mul (P.callB call_abs w_abs (by rfl) N.n_abs (by decide +kernel) (P.acons (P.v 4) P.anil)) (P.v 5)) (P.acons (P.op op_mulW w_mul (P.callB call_abs w_abs (by rfl) N.n_abs (by decide +kernel) (P.acons (P.v 4) P.anil)) (P.v 6)) P.anil)))))) P.nil) (P.seq (P.iff (P.cmpT (op_eqP hr.units) w_eq (P.v 3) P.int (nomark _)) (P.last (P.ret (P.tup (P.acons (P.op op_sub w_sub P.int (P.op op_mulW w_mul (P.v 4) (P.ix ix_seq w_ix (P.v 2) P.int (fun _ _ => rfl)))) (P.acons (P.op op_mulW w_mul (P.v 4) (P.ix ix_seq w_ix (P.v 2) P.int (fun _ _ => rfl))) P.anil))))) P.nil) (P.last (P.ret (P.call (ok__law_dot T N) hg (hr.mono (by decide)) (by rfl) (T.fn 61 "_law_dot" rfl).2 (T.fn 61 "_law_dot" rfl).1.kp (b__law_dot (T.fn 61 "_law_dot" rfl).1) (P.acons (P.v 0) P.anil))))))))
theorem sc__law_right : FnScope ["_law_sack_here", "_law_boat_here", "_law_normal_here", "_law_scale", "_law_shape", "_law_nought", "_law_low", "_law_water", "_law_turn", "_law_spot_here", "_law_parts_here", "_law_due", "_law_high"] ["_law_sack_here"] (defScope (top 67)) := ⟨rfl, rfl, rfl, by decide +kernel, rfl, by decide +kernel, by decide +kernel⟩
theorem b__law_right {K : PySem.W.Frag} {f : Addr} {fd : FuncData} (F : FnP K "_law_right" (top 67) f fd) : Binds K fd ["_law_sack_here"] [] := F.bindsN fun _ _ _ _ _ _ us hl => match us, hl with | [_], _ => rfl
def lb__law_right_0 : M Out := sSeq (sAsg (.nm 9) (m2 dIx (mF WF.f__law_said (aCons (mL (mLst (aCons (mF WF.f__law_way (aCons (mVar 0) (aCons (mVar 1) (aCons (mVar 2) aNil)))) aNil))) (aCons (mVar 3) aNil))) (mC (.int 0)))) (sSeq (sAsg (.nm 10) (mF WF.f__law_parts (aCons (mVar 1) (aCons (mVar 5) (aCons (mVar 9) aNil))))) (sSeq (sAsg (.nm 11) (mIf (mB (m2 (dIsN) (mVar 10) (mC .none))) (mC .none) (mF WF.f__law_growth (aCons (mVar 7) (aCons (mVar 10) aNil))))) (sSeq (mIf (mB (m2 (dNe) (mCall bRepr (aCons (mF WF.f_rise_and_fall (aCons (mVar 4) (aCons (mVar 7) (aCons (mVar 9) aNil)))) aNil)) (mCall bRepr (aCons (mVar 11) aNil)))) (sRet (mC (.bool false))) (sNx)) (sSeq (sAsg (.nm 12) (mF WF.f__law_ratio (aCons (m2 dAdd (m2 dMul (m2 dIx (mVar 7) (mC (.int 0))) (m2 dIx (mVar 9) (mC (.int 0)))) (m2 dMul (m2 dIx (mVar 7) (mC (.int 1))) (m2 dIx (mVar 9) (mC (.int 1))))) (aCons (m2 dIx (mVar 9) (mC (.int 2))) aNil)))) (mIf (mOr (mB (m2 (dNe) (mCall bRepr (aCons (mF WF.f_cross_of (aCons (mVar 7) (aCons (mVar 9) aNil))) aNil)) (mCall bRepr (aCons (mVar 12) aNil)))) (mB (m2 (dNe) (mCall bRepr (aCons (mFK WF.f_cross_of [1, 0] (aCons (mVar 9) (aCons (mVar 7) aNil))) aNil)) (mCall bRepr (aCons (mVar 12) aNil))))) (sRet (mC (.bool false))) (sNx))))))
def g__law_right : M Out := sSeq (sPar3 1 2 3 (aCons (mF WF.f__law_boat (aCons (mVar 0) aNil)) (aCons (mF WF.f__law_normal (aCons (mVar 0) aNil)) (aCons (m2 dAdd (mC (.int 1)) (mF WF.f__law_draw (aCons (mVar 0) (aCons (mC (.int 3)) aNil)))) aNil)))) (sSeq (sPar 4 5 (aCons (mF WF.f__law_said (aCons (m2 dIx (mVar 1) (mC (.int 0))) (aCons (m2 dIx (mVar 1) (mC (.int 1))) aNil))) (aCons (mTup (aCons (mC (.int 0)) (aCons (mC (.int 0)) (aCons (mC (.int 1)) aNil)))) aNil))) (sSeq (sAsg (.nm 6) (m2 dSub (mF WF.f__law_draw (aCons (mVar 0) (aCons (mC (.int 9)) aNil))) (mC (.int 5)))) (sSeq (sAsg (.nm 7) (mF WF.f__law_channel (aCons (mVar 2) (aCons (mVar 6) (aCons (m2 dAdd (m2 dAdd (mVar 6) (mC (.int 1))) (mF WF.f__law_draw (aCons (mVar 0) (aCons (mC (.int 6)) aNil)))) aNil))))) (sSeq (sFor (mA rg1 (aCons (mC (.int 6)) aNil)) (.nm 8) lb__law_right_0) (sRet (m2 (dEq) (mCall bRepr (aCons (mFK WF.f_rise_and_fall [1, 2, 0] (aCons (mVar 9) (aCons (mVar 4) (aCons (mVar 7) aNil)))) aNil)) (mCall bRepr (aCons (mVar 11) aNil))))))))
def f__law_right : Fn := fnM 1 13 g__law_right
theorem ok__law_right (T : Pg K mg Ad Dd) (N : Nm K mg) : FnG Pr w K mg base CX0 9 (Ad 67) (Dd 67) ["_law_sack_here"] (spF K f__law_right) :=
  P.fn (T.fn 67 "_law_right" rfl).1 sc__law_right rfl rfl fun cdv A outer s H E hg hr => by
    have hu := hr.units
    exact (P.seq (P.par3 (i := 1) (j := 2) (l := 3) rfl sc__law_right.nd rfl rfl rfl (by decide) (by decide) (by decide) rfl rfl rfl (P.acons (P.call (ok__law_boat T N) hg (hr.mono (by decide)) (by rfl) (T.fn 60 "_law_boat" rfl).2 (T.fn 60 "_law_boat" rfl).1.kp (b__law_boat (T.fn 60 "_law_boat" rfl).1) (P.acons (P.v 0) P.anil)) (P.acons (P.call (ok__law_normal T N) hg (hr.mono (by decide)) (by rfl) (T.fn 63 "_law_normal" rfl).2 (T.fn 63 "_law_normal" rfl).1.kp (b__law_normal (T.fn 63 "_law_normal" rfl).1) (P.acons (P.v 0) P.anil)) (P.acons (P.op op_addA w_add P.int (P.call (ok__law_draw T N) hg (hr.mono (by decide)) (by rfl) (T.fn 50 "_law_draw" rfl).2 (T.fn 50 "_law_draw" rfl).1.kp (b__law_draw (T.fn 50 "_law_draw" rfl).1) (P.acons (P.v 0) (P.acons P.int P.anil)))) P.anil))) (by rfl)) (P.seq (P.par (i := 4) (j := 5) rfl sc__law_right.nd rfl rfl (by decide) rfl rfl (P.acons (P.call (ok__law_said T N) hg (hr.mono (by decide)) (by rfl) (T.fn 56 "_law_said" rfl).2 (T.fn 56 "_law_said" rfl).1.kp (b__law_said (T.fn 56 "_law_said" rfl).1) (P.acons (P.ix ix_seq w_ix (P.v 1) P.int (fun _ _ => rfl)) (P.acons (P.ix ix_seq w_ix (P.v 1) P.int (fun _ _ => rfl)) P.anil))) (P.acons (P.tup (P.acons P.int (P.acons P.int (P.acons P.int P.anil)))) P.anil)) (by rfl)) (P.seq (P.set (i := 6) sc__law_right.nd rfl (by first | exact .inl rfl | exact .inr rfl) (P.op op_sub w_sub (P.call (ok__law_draw T N) hg (hr.mono (by decide)) (by rfl) (T.fn 50 "_law_draw" rfl).2 (T.fn 50 "_law_draw" rfl).1.kp (b__law_draw (T.fn 50 "_law_draw" rfl).1) (P.acons (P.v 0) (P.acons P.int P.anil))) P.int)) (P.seq (P.set (i := 7) sc__law_right.nd rfl (by first | exact .inl rfl | exact .inr rfl) (P.call (ok__law_channel T N) hg (hr.mono (by decide)) (by rfl) (T.fn 64 "_law_channel" rfl).2 (T.fn 64 "_law_channel" rfl).1.kp (b__law_channel (T.fn 64 "_law_channel" rfl).1) (P.acons (P.v 2) (P.acons (P.v 6) (P.acons (P.op op_addA w_add (P.op op_addA w_add (P.v 6) P.int) (P.call (ok__law_draw T N) hg (hr.mono (by decide)) (by rfl) (T.fn 50 "_law_draw" rfl).2 (T.fn 50 "_law_draw" rfl).1.kp (b__law_draw (T.fn 50 "_law_draw" rfl).1) (P.acons (P.v 0) (P.acons P.int P.anil)))) P.anil))))) (P.seq (P.for PassesOwn.never rfl (P.rng1 (by rfl) N.n_range (P.acons P.int P.anil)) (P.gnm sc__law_right.nd (i := 8) rfl (by first | exact .inl rfl | exact .inr rfl)) (P.seq (P.set (i := 9) sc__law_right.nd rfl (by first | exact .inl rfl | exact .inr rfl) (P.ix ix_seq w_ix (P.call (ok__law_said T N) hg (hr.mono (by decide)) (by rfl) (T.fn 56 "_law_said" rfl).2 (T.fn 56 "_law_said" rfl).1.kp (b__law_said (T.fn 56 "_law_said" rfl).1) (P.acons (P.ofL (P.list (P.acons (P.call (ok__law_way T N) hg (hr.mono (by decide)) (by rfl) (T.fn 66 "_law_way" rfl).2 (T.fn 66 "_law_way" rfl).1.kp (b__law_way (T.fn 66 "_law_way" rfl).1) (P.acons (P.v 0) (P.acons (P.v 1) (P.acons (P.v 2) P.anil)))) P.anil))) (P.acons (P.v 3) P.anil))) P.int (fun _ _ => rfl))) (P.seq (P.set (i := 10) sc__law_right.nd rfl (by first | exact .inl rfl | exact .inr rfl) (P.call (ok__law_parts T N) hg (hr.mono (by decide)) (by rfl) (T.fn 62 "_law_parts" rfl).2 (T.fn 62 "_law_parts" rfl).1.kp (b__law_parts (T.fn 62 "_law_parts" rfl).1) (P.acons (P.v 1) (P.acons (P.v 5) (P.acons (P.v 9) P.anil))))) (P.seq (P.set (i := 11) sc__law_right.nd rfl (by first | exact .inl rfl | exact .inr rfl) (P.ifE (P.cmpT op_isN w_isN (P.v 10) P.non (nomark _)) P.non (P.call (ok__law_growth T N) hg (hr.mono (by decide)) (by rfl) (T.fn 65 "_law_growth" rfl).2 (T.fn 65 "_law_growth" rfl).1.kp (b__law_growth (T.fn 65 "_law_growth" rfl).1) (P.acons (P.v 7) (P.acons (P.v 10) P.anil))))) (P.seq (P.iff (P.cmpT (op_neP hr.units) w_ne (P.callB (call_reprD hg hr.units) w_repr (by rfl) N.n_repr (by decide +kernel) (P.acons (P.call (ok_rise_and_fall T N) hg (hr.mono (by decide)) (by rfl) (T.fn 46 "rise_and_fall" rfl).2 (T.fn 46 "rise_and_fall" rfl).1.kp (b_rise_and_fall (T.fn 46 "rise_and_fall" rfl).1) (P.acons (P.v 4) (P.acons (P.v 7) (P.acons (P.v 9) P.anil)))) P.anil)) (P.callB (call_reprD hg hr.units) w_repr (by rfl) N.n_repr (by decide +kernel) (P.acons (P.v 11) P.anil)) (nomark _)) (P.last (P.ret P.bl)) P.nil) (P.seq (P.set (i := 12) sc__law_right.nd rfl (by first | exact .inl rfl | exact .inr rfl) (P.call (ok__law_ratio T N) hg (hr.mono (by decide)) (by rfl) (T.fn 53 "_law_ratio" rfl).2 (T.fn 53 "_law_ratio" rfl).1.kp (b__law_ratio (T.fn 53 "_law_ratio" rfl).1) (P.acons (P.op op_addA w_add (P.op op_mulW w_mul (P.ix ix_seq w_ix (P.v 7) P.int (fun _ _ => rfl)) (P.ix ix_seq w_ix (P.v 9) P.int (fun _ _ => rfl))) (P.op op_mulW w_mul (P.ix ix_seq w_ix (P.v 7) P.int (fun _ _ => rfl)) (P.ix ix_seq w_ix (P.v 9) P.int (fun _ _ => rfl)))) (P.acons (P.ix ix_seq w_ix (P.v 9) P.int (fun _ _ => rfl)) P.anil)))) (P.last (P.iff (PW.pt (P.or (P.cmpT (op_neP hr.units) w_ne (P.callB (call_reprD hg hr.units) w_repr (by rfl) N.n_repr (by decide +kernel) (P.acons (P.call (ok_cross_of T N) hg (hr.mono (by decide)) (by rfl) (T.fn 44 "cross_of" rfl).2 (T.fn 44 "cross_of" rfl).1.kp (b_cross_of (T.fn 44 "cross_of" rfl).1) (P.acons (P.v 7) (P.acons (P.v 9) P.anil))) P.anil)) (P.callB (call_reprD hg hr.units) w_repr (by rfl) N.n_repr (by decide +kernel) (P.acons (P.v 12) P.anil)) (nomark _)) (P.or1 (P.cmpT (op_neP hr.units) w_ne (P.callB (call_reprD hg hr.units) w_repr (by rfl) N.n_repr (by decide +kernel) (P.acons (P.callK (ks := ["point", "channel"]) [1, 0] (ok_cross_of T N) hg (hr.mono (by decide)) (by rfl) (T.fn 44 "cross_of" rfl).2 (T.fn 44 "cross_of" rfl).1.kp (kw_cross_of_1_0 (T.fn 44 "cross_of" rfl).1) (P.kcons (P.v 9) (P.kcons (P.v 7) P.knil)) (fun _ _ _ _ h => acs2 h)) P.anil)) (P.callB (call_reprD hg hr.units) w_repr (by rfl) N.n_repr (by decide +kernel) (P.acons (P.v 12) P.anil)) (nomark _))))) (P.last (P.ret P.bl)) P.nil)))))))) (P.last (P.ret (P.cmp (op_eqP hr.units) w_eq (P.callB (call_reprD hg hr.units) w_repr (by rfl) N.n_repr (by decide +kernel) (P.acons (P.callK (ks := ["way", "figure", "channel"]) [1, 2, 0] (ok_rise_and_fall T N) hg (hr.mono (by decide)) (by rfl) (T.fn 46 "rise_and_fall" rfl).2 (T.fn 46 "rise_and_fall" rfl).1.kp (kw_rise_and_fall_1_2_0 (T.fn 46 "rise_and_fall" rfl).1) (P.kcons (P.v 9) (P.kcons (P.v 4) (P.kcons (P.v 7) P.knil))) (fun _ _ _ _ h => acs3 h)) P.anil)) (P.callB (call_reprD hg hr.units) w_repr (by rfl) N.n_repr (by decide +kernel) (P.acons (P.v 11) P.anil)) (nomark _)))))))))
theorem sc_law : FnScope ["_law_script", "_law_turn"] ["_law_script"] (defScope (top 68)) := ⟨rfl, rfl, rfl, by decide +kernel, rfl, by decide +kernel, by decide +kernel⟩
theorem b_law {K : PySem.W.Frag} {f : Addr} {fd : FuncData} (F : FnP K "law" (top 68) f fd) : Binds K fd ["_law_script"] [] := F.bindsN fun _ _ _ _ _ _ us hl => match us, hl with | [_], _ => rfl
def le_law_0 : M D := mSack f__law_right (mFL WF.f__law_sack (aCons (mVar 0) (aCons (mVar 1) aNil)))
def g_law : M Out := sRet (mCall bAll (aCons (mL (mLc (mA rg1 (aCons (mCall bMax (aCons (mC (.int 2)) (aCons (mCall bMin (aCons (mCall bLen (aCons (mVar 0) aNil)) (aCons (mC (.int 3)) aNil))) aNil))) aNil)) [1] (.nm 1) (qC true) le_law_0)) aNil))
def f_law : Fn := fnM 1 2 g_law
theorem ok_law (T : Pg K mg Ad Dd) (N : Nm K mg) : FnG Pr w K mg base CX0 10 (Ad 68) (Dd 68) ["_law_script"] (spF K f_law) :=
  P.fn (T.fn 68 "law" rfl).1 sc_law rfl rfl fun cdv A outer s H E hg hr => by
    have hu := hr.units
    exact (P.last (P.ret (P.callB (cr_all rfl) w_all (by rfl) N.n_all (by decide +kernel) (P.acons (P.ofL (P.lc rfl sc_law.nd (own := [("_law_turn", 1)]) (P.iterE (P.rng1 (by rfl) N.n_range (P.acons (P.callB (call_max2 rfl) w_max (by rfl) N.n_max (by decide +kernel) (P.acons P.int (P.acons (P.callB (call_min2 rfl) w_min (by rfl) N.n_min (by decide +kernel) (P.acons (P.callB call_lenA w_len (by rfl) N.n_len (by decide +kernel) (P.acons (P.v 0) P.anil)) (P.acons P.int P.anil))) P.anil))) P.anil))) (blkOk_by (own := [("_law_turn", 1)]) (N := ["_law_script", "_law_turn"]) (sc := defScope (top 68)) (by decide +kernel)) (by decide) (fun _ _ _ _ _ => (P.gnm sc_law.nd (i := 1) rfl (by first | exact .inl rfl | exact .inr rfl))) (fun _ _ _ _ _ => P.nif) (fun _ _ _ _ _ => (P.callS (ok__law_right T N) hg (hr.mono (by decide)) (by rfl) (T.fn 67 "_law_right" rfl).2 (T.fn 67 "_law_right" rfl).1.kp (b__law_right (T.fn 67 "_law_right" rfl).1) (P.callL (ok__law_sack T N) hg (hr.mono (by decide)) (by rfl) (T.fn 49 "_law_sack" rfl).2 (T.fn 49 "_law_sack" rfl).1.kp (b__law_sack (T.fn 49 "_law_sack" rfl).1) (P.acons (P.v 0) (P.acons (P.v 1) P.anil))))))) P.anil))))
end
end K50
/-! rise and fall: the program's and the law's -/
namespace K50
open PySem PySem.Spec PyProof.Rows L2 PL PLS WF
theorem repr_at {d : D} (h1 : isD d = true) (h2 : d.showable = true) (h3 : d.depth ≤ 60) (h4 : d.shown.length ≤ 20000) : bRepr [d] = some (.str d.shown) := by
  show (if _ then _ else _) = _
  rw [if_pos ⟨h1, h2, h3, by rw [sizeLine_eq]; omega⟩]
/-- can be shown, in few signs -/
structure Shw (d : D) (n k : Nat) : Prop where
  is : isD d = true
  sh : d.showable = true
  dp : d.depth ≤ k
  ln : d.shown.length ≤ n
theorem shw_int {x : Int} {n : Nat} [p : Bi x n] (h : n < 1900) : Shw (.int x) 1921 5 := by
  have z : x.natAbs.log2 < 1920 := by have := p.log (show n < 1901 by omega); omega
  refine ⟨rfl, by simp [PyData.showable, z], by simp [PyData.depth], ?_⟩
  show (Str.ofString (toString x)).length ≤ 1921
  exact int_text_len_1921 z
theorem shw_two {a b : D} {n k : Nat} (ha : Shw a n k) (hb : Shw b n k) : Shw (.tuple [a, b]) (2 * n + 20) (k + 5) := by
  have e : (PyData.tuple [a, b]).shown = tupleText [a.shown, b.shown] := by simp only [PyData.shown, PyData.shownAll]
  refine ⟨rfl, ?_, ?_, ?_⟩
  · show PyData.showableAll [a, b] = true
    simp only [PyData.showableAll, ha.sh, hb.sh, Bool.and_self]
  · have := ha.dp
    have := hb.dp
    simp [PyData.depth, PyData.depthAll]
    omega
  · rw [e]
    refine Nat.le_trans (tupleText_len_le _) ?_
    have := ha.ln
    have := hb.ln
    simp only [List.map_cons, List.map_nil, List.sum_cons, List.sum_nil, List.length_cons, List.length_nil]
    omega
theorem shw_fr {U K : Int} {n k : Nat} [Bi U n] [Bi K k] (h : n < 1900) (h2 : k < 1900) : Shw (fr U K) (2 * 1921 + 20) 10 := shw_two (shw_int (x := nmN U K) h) (shw_int (x := nmD U K) h2)
theorem Shw.repr {d : D} {n k : Nat} (h : Shw d n k) (hn : n ≤ 20000) (hk : k ≤ 60) : bRepr [d] = some (.str d.shown) := repr_at h.is h.sh (Nat.le_trans h.dp hk) (Nat.le_trans h.ln hn)
/-! channels -/
structure Chan (a b c d : Int) : Prop where
  ne : a ≠ 0 ∨ b ≠ 0
  lt : c < d
  g : gcdI4 a b c d = 1
  ba : Bi a 2
  bb : Bi b 2
theorem le_is_whole' {ρ : PL.Env} {a : Int} {s : S} (h : ρ[2]? = some (some (.fz (.int a)))) : le_are_whole_0 ρ s = some (.bool true, s) := le_is_whole h
theorem e_are_whole4 {a b c d : Int} {s : S} : f_are_whole [.tuple [.int a, .int b, .int c, .int d], .int 4] s = some (.bool true, s) := by
  simp [f_are_whole, fnM, g_are_whole, startE, mThen, mLift, mVar, m1, m2, mC, mAndV, mIf, mB, bOf, sRet, dIs, isD, isT, dNot, mCall, bLen, aCons, aNil, eqI, mL, mLc, mIt, itOf, sizeLine_eq, lcGo, bnd, wipeE, qC, le_is_whole, bAll, boolsOf]
abbrev cD4 (a b c d : Int) : D := .tuple [.int a, .int b, .int c, .int d]
theorem eq00 {a b : Int} (h : a ≠ 0 ∨ b ≠ 0) : dEq (.tuple [.int a, .int b]) (.tuple [.int 0, .int 0]) = some (.bool false) := by
  unfold dEq
  rw [if_pos ⟨rfl, rfl⟩]
  simp [PyData.eqv, PyData.eqvAll]
  omega
theorem e_need_channel {a b c d : Int} {s : S} (h : Chan a b c d) : f_need_channel [cD4 a b c d] s = some (.none, s) := by
  have e : PL.cutD [PyData.int a, PyData.int b, PyData.int c, PyData.int d] none (some 2) = [PyData.int a, PyData.int b] := rfl
  have lt : ¬ d ≤ c := by have := h.lt; omega
  have g := h.g
  have e1 : f_is_channel [cD4 a b c d] s = some (.bool true, s) := by
    simp [f_is_channel, g_is_channel, fnM, startE, sSeq, mIf, mOr, mNot, mB, mF, aCons, aNil, mThen, mLift, mVar, mC, e_are_whole4, bOf, m2, mSl, oNo, oSome, dSl, e, mTup, isDs, isD, le_size, eq00 h.ne, dIx, atI, ixN, dCmp, lt, qC, sNx, sRet, mCall, bGcd4, g, eqI]
  simp [f_need_channel, g_need_channel, fnM, startE, mIf, mNot, mB, mF, aCons, aNil, mThen, mLift, mVar, e1, bOf, sNx]
theorem e_cross_of {a b c d p q w : Int} {s : S} (h : Chan a b c d) (hw : 0 < w) (hr : gcdI3 p q w = 1) [Bi p 6] [Bi q 6] [Bi w 3] : f_cross_of [cD4 a b c d, pD p q w] s = some (fr (a * p + b * q) w, s) := by
  have := h.ba
  have := h.bb
  have e1 := e_need_channel (s := s) h
  have e2 := e_need_point (s := s) hw hr
  have e3 : f_along [.int a, .int b, pD p q w] s = some (fr (a * p + b * q) w, s) := e_along (a := a) (b := b) (x := p) (y := q) (w := w) (s := s) (by decide) (by decide) hw (by decide)
  have e4 : f_cross_by [cD4 a b c d, pD p q w] s = some (fr (a * p + b * q) w, s) := by
    generalize pD p q w = X at *
    generalize fr (a * p + b * q) w = Y at *
    simp [f_cross_by, g_cross_by, fnM, startE, sRet, mF, aCons, aNil, m2, mThen, mLift, mVar, mC, dIx, atI, ixN, e3]
  generalize pD p q w = X at *
  generalize cD4 a b c d = C at *
  generalize fr (a * p + b * q) w = Y at *
  simp [f_cross_of, g_cross_of, fnM, startE, sSeq, sEx, mF, aCons, aNil, mThen, mLift, mVar, e1, e2, e4, sRet]
theorem ends_bits {R : List P} {e : P × P} {v : P} (hR : ∀ r ∈ R, Sm 3 r) (he : e ∈ edges R) (b1 : Bi v.1 6) (b2 : Bi v.2 6) {f : P × Int → Bool} : ∀ z ∈ (ends e v).filter f, Sm 3 z.1 ∧ Bi z.2 19 := by
  intro z hz
  have hz := (List.mem_filter.mp hz).1
  have mem := edge_mem he
  have s1 := hR _ mem.1
  have s2 := hR _ mem.2
  have := s1.1
  have := s1.2
  have := s2.1
  have := s2.2
  simp [ends] at hz
  rcases hz with h | h <;> subst h
  · exact ⟨s1, (inferInstance : Bi (v.1 * e.2.2 - v.2 * e.2.1) 19)⟩
  · exact ⟨s2, (inferInstance : Bi (e.1.1 * v.2 - e.1.2 * v.1) 19)⟩
theorem two_bits {R : List P} {a b v : P} (hR : ∀ r ∈ R, Sm 3 r) (ha : a ∈ R) (hb : b ∈ R) (b1 : Bi v.1 6) (b2 : Bi v.2 6) : (∀ z ∈ (two v a b).filter pz, Sm 3 z.1 ∧ Bi z.2 20 ∧ 0 < z.2) ∧ Bi (pB a b) 14 := by
  have s1 := hR _ ha
  have s2 := hR _ hb
  have := s1.1
  have := s1.2
  have := s2.1
  have := s2.2
  have bS0 : Bi (pS a b) 1 := ⟨by unfold pS; split <;> decide⟩
  have c1 : Bi (HU.cr v b) 19 := (inferInstance : Bi (v.1 * b.2 - v.2 * b.1) 19)
  have c2 : Bi (HU.cr a v) 19 := (inferInstance : Bi (a.1 * v.2 - a.2 * v.1) 19)
  have c3 : Bi (HU.cr a b) 13 := (inferInstance : Bi (a.1 * b.2 - a.2 * b.1) 13)
  have d1 : Bi (pP v a b) 20 := (inferInstance : Bi (pS a b * HU.cr v b) 20)
  have d2 : Bi (pQ v a b) 20 := (inferInstance : Bi (pS a b * HU.cr a v) 20)
  have d3 : Bi (pB a b) 14 := (inferInstance : Bi (pS a b * HU.cr a b) 14)
  refine ⟨fun z hz => ?_, d3⟩
  obtain ⟨h1, h2⟩ := List.mem_filter.mp hz
  have h3 : 0 < z.2 := of_decide_eq_true h2
  simp [two] at h1
  rcases h1 with h | h <;> subst h
  · exact ⟨s1, d1, h3⟩
  · exact ⟨s2, d2, h3⟩
theorem up_bits {c0 c1 : Int} [Bi c0 2] [Bi c1 2] {T : List (P × Int)} (hl : T.length ≤ 2) (hT : ∀ z ∈ T, Sm 3 z.1 ∧ Bi z.2 20) : Bi (upS c0 c1 T) 70 ∧ Bi (dnS c0 c1 T) 70 := by
  have one : ∀ z ∈ T, Bi (ln c0 c1 z.1 * z.2) 31 := fun z hz => by
    obtain ⟨h1, h2⟩ := hT z hz
    have b := bi_ln (a := c0) (b := c1) h1
    exact (inferInstance : Bi (ln c0 c1 z.1 * z.2) 31)
  match T, hl, one with
  | [], _, _ => exact ⟨⟨by show (0 : Int).natAbs < 2 ^ 70; decide⟩, ⟨by show (0 : Int).natAbs < 2 ^ 70; decide⟩⟩
  | [z], _, one =>
    have := one z (by simp)
    exact ⟨Bi.mono (inferInstance : Bi (ps (ln c0 c1 z.1 * z.2) + 0) _) (by decide), Bi.mono (inferInstance : Bi (ng (ln c0 c1 z.1 * z.2) + 0) _) (by decide)⟩
  | [z, y], _, one =>
    have := one z (by simp)
    have := one y (by simp)
    exact ⟨Bi.mono (inferInstance : Bi (ps (ln c0 c1 z.1 * z.2) + (ps (ln c0 c1 y.1 * y.2) + 0)) _) (by decide), Bi.mono (inferInstance : Bi (ng (ln c0 c1 z.1 * z.2) + (ng (ln c0 c1 y.1 * y.2) + 0)) _) (by decide)⟩
theorem two_len {v a b : P} {f : P × Int → Bool} : ((two v a b).filter f).length ≤ 2 := List.length_filter_le _ _
theorem ends_len {e : P × P} {v : P} {f : P × Int → Bool} : ((ends e v).filter f).length ≤ 2 := List.length_filter_le _ _
/-- what is due, told by both -/
theorem e_both {R : List P} (F : Fig R) (hR : ∀ r ∈ R, Sm 3 r) {m c0 c1 c2 c3 w : Int} {v : P} {mm : D} {s : S} (C : Chan c0 c1 c2 c3) (hm : 0 < m) [bm : Bi m 2] (hw : 0 < w) [bw : Bi w 3] (b1 : Bi v.1 6) (b2 : Bi v.2 6) (hr : gcdI3 v.1 v.2 w = 1) (hfig : f_need_figure [said R m] s = some (.none, s)) :
    ∃ parts due n k, Shw due n k ∧ n ≤ 20000 ∧ k ≤ 60 ∧ f__law_parts [.list [.list (R.map dt), mm], pD 0 0 1, pD v.1 v.2 w] s = some (parts, s) ∧ ((parts = .none ∧ due = .none) ∨ (isNone parts = false ∧ isD parts = true ∧ f__law_growth [cD4 c0 c1 c2 c3, parts] s = some (due, s))) ∧ f_rise_and_fall [said R m, cD4 c0 c1 c2 c3, pD v.1 v.2 w] s = some (due, s) := by
  have := C.ba
  have := C.bb
  have raf : ∀ (tacks due : D), f_soonest_tacks [said R m, pD v.1 v.2 w] s = some (tacks, s) → ((tacks = .none ∧ due = .none) ∨ (isNone tacks = false ∧ isD tacks = true ∧ f_rise_and_fall_by [cD4 c0 c1 c2 c3, tacks] s = some (due, s))) → f_rise_and_fall [said R m, cD4 c0 c1 c2 c3, pD v.1 v.2 w] s = some (due, s) := by
    intro tacks due f4 hd
    have f2 := e_need_channel (s := s) C
    have f3 := e_need_point (s := s) hw hr
    generalize said R m = X at *
    generalize cD4 c0 c1 c2 c3 = Y at *
    generalize pD v.1 v.2 w = Z at *
    rcases hd with ⟨rfl, rfl⟩ | ⟨h1, h2, f5⟩
    · simp [f_rise_and_fall, g_rise_and_fall, fnM, startE, sSeq, sEx, sAsg, mF, aCons, aNil, mThen, mLift, mVar, hfig, f2, f3, f4, bnd, mIf, mB, m2, mC, dIsN, isNone, isD, bOf, sRet]
    · simp [f_rise_and_fall, g_rise_and_fall, fnM, startE, sSeq, sEx, sAsg, mF, aCons, aNil, mThen, mLift, mVar, hfig, f2, f3, f4, bnd, mIf, mB, m2, mC, dIsN, h1, h2, bOf, sRet, sNx, f5]
  have key := e_soonest_tacks F hR hm hw b1 b2 (by decide) (by decide) (by decide) (s := s) (m := m) (w := w) (v := v)
  have key2 := e_law_parts (R := R) (v := v) (w := w) (s := s) (m := mm) hR b1 b2 (by decide) (by have := F.len; omega) hw (by decide)
  rcases key with ⟨⟨e, he, h0, hg⟩, et⟩ | ⟨v1, v2, et⟩ | ⟨e, M, et⟩
  · have v0 : v.1 ≠ 0 ∨ v.2 ≠ 0 := by
      by_cases c : v.1 = 0
      · refine .inr fun c2 => ?_
        unfold go ln at hg
        rw [c, c2] at hg
        simp at hg
      · exact .inl c
    refine ⟨.none, .none, 20, 5, ⟨rfl, rfl, by decide, by decide⟩, by decide, by decide, ?_, .inl ⟨rfl, rfl⟩, raf .none .none et (.inl ⟨rfl, rfl⟩)⟩
    rcases key2 with ⟨h1, h2, _⟩ | ⟨_, _, h⟩ | ⟨a, b, ha, hb, _, hq, _⟩
    · omega
    · exact h
    · exact absurd hq (flat_none F he h0 hg ha hb)
  · have e0 : fr (upS c0 c1 []) 1 = fD 0 1 := fr_zero (by decide)
    have e1 : fr (dnS c0 c1 []) 1 = fD 0 1 := fr_zero (by decide)
    have z1 : f_rise_and_fall_by [cD4 c0 c1 c2 c3, .tuple []] s = some (.tuple [fD 0 1, fD 0 1], s) := by
      have h := e_raf_by (c0 := c0) (c1 := c1) (c2 := c2) (c3 := c3) (m := 1) (K := 1) (T := []) (s := s) (l := 1) (k := 1) (by decide) (by decide) (by decide) (by decide) (by simp)
      rw [e0, e1] at h
      exact h
    have z2 : f__law_growth [cD4 c0 c1 c2 c3, .list []] s = some (.tuple [fD 0 1, fD 0 1], s) := by
      have h := e_growth (c0 := c0) (c1 := c1) (c2 := c2) (c3 := c3) (K := 1) (T := []) (s := s) (l := 1) (k := 1) (by decide) (by decide) (by decide) (by simp)
      rw [e0, e1] at h
      exact h
    refine ⟨.list [], .tuple [fD 0 1, fD 0 1], _, _, shw_two (shw_two (shw_int (x := 0) (by decide)) (shw_int (x := 1) (by decide))) (shw_two (shw_int (x := 0) (by decide)) (shw_int (x := 1) (by decide))), by decide, by decide, ?_, .inr ⟨rfl, rfl, z2⟩, raf (.tuple []) _ et (.inr ⟨rfl, rfl, z1⟩)⟩
    rcases key2 with ⟨_, _, h⟩ | ⟨h, _⟩ | ⟨a, b, ha, hb, h, _⟩
    · exact h
    · omega
    · omega
  · rcases key2 with ⟨h1, h2, _⟩ | ⟨_, hn, _⟩ | ⟨a, b, ha, hb, _, hq, hm2, ep⟩
    · have := M.way
      omega
    · exact (M.some F hn).elim
    · have hle := M.least F hm2
      obtain ⟨s1, s2⟩ := raf_same F M (c0 := c0) (c1 := c1) hm hw ha hb hq hle
      obtain ⟨t1, t2⟩ := two_bits hR ha hb b1 b2
      have t3 := ends_bits hR M.mem b1 b2 (f := nzz m)
      have hq1 := hq.1
      have K0 := Int.mul_pos hq1 hw
      have K1 := Int.mul_pos M.h hw
      have mem := edge_mem M.mem
      have x1 := hR _ mem.1
      have x2 := hR _ mem.2
      have := x1.1
      have := x1.2
      have := x2.1
      have := x2.2
      have bH : Bi (eH e) 15 := by
        rw [eH_cr]
        exact Bi.mono (inferInstance : Bi (e.1.1 * e.2.2 - e.1.2 * e.2.1) _) (by decide)
      have g1 := e_raf_by (c0 := c0) (c1 := c1) (c2 := c2) (c3 := c3) (m := m) (K := eH e * w) (T := (ends e v).filter (nzz m)) (s := s) hm K1 (by decide) ends_len t3
      have g2 := e_growth (c0 := c0) (c1 := c1) (c2 := c2) (c3 := c3) (K := pB a b * w) (T := (two v a b).filter pz) (s := s) K0 (by decide) two_len t1
      rw [s1, s2] at g1
      obtain ⟨u1, u2⟩ := up_bits (c0 := c0) (c1 := c1) (T := (two v a b).filter pz) two_len (fun z hz => ⟨(t1 z hz).1, (t1 z hz).2.1⟩)
      exact ⟨_, _, _, _, shw_two (shw_fr (U := upS c0 c1 ((two v a b).filter pz)) (K := pB a b * w) (by decide) (by decide)) (shw_fr (U := dnS c0 c1 ((two v a b).filter pz)) (K := pB a b * w) (by decide) (by decide)), by decide, by decide, ep, .inr ⟨rfl, rfl, g2⟩, raf _ _ et (.inr ⟨rfl, rfl, g1⟩)⟩
end K50
/-! the law's draws: normal, channel, way -/
namespace K50
open PySem PySem.Spec PyProof.Rows L2 PL PLS WF
theorem e_normal {n : Nat} {s : S} (h : Sk n s) (hn : n + 2 ≤ 1000000) : ∃ a b s', f__law_normal [SACK] s = some (fD a b, s') ∧ (a ≠ 0 ∨ b ≠ 0) ∧ a.natAbs ≤ 3 ∧ b.natAbs ≤ 3 ∧ Sk (n + 2) s' := by
  obtain ⟨i, s1, e1, i0, i1, k1⟩ := e_draw (z := 7) h (by omega) (by decide) (by decide)
  obtain ⟨j, s2, e2, j0, j1, k2⟩ := e_draw (z := 7) k1 (by omega) (by decide) (by decide)
  have q1 : sPar 1 2 (aCons (m2 dSub (mF f__law_draw (aCons (mVar 0) (aCons (mC (.int 7)) aNil))) (mC (.int 3))) (aCons (m2 dSub (mF f__law_draw (aCons (mVar 0) (aCons (mC (.int 7)) aNil))) (mC (.int 3))) aNil)) (startE 3 [SACK]) s = some (.nx [cD SACK, cI (i - 3), cI (j - 3)], s2) := by
    simp [sPar, startE, aCons, aNil, m2, mF, mThen, mLift, mVar, mC, e1, e2, dSub, isD]
  by_cases c : i - 3 ≠ 0 ∨ j - 3 ≠ 0
  · refine ⟨i - 3, j - 3, s2, fnM_rt rfl ?_, c, by omega, by omega, k2⟩
    unfold g__law_normal
    rw [sSeq_nx q1]
    by_cases c1 : i - 3 = 0
    · have c2 : j - 3 ≠ 0 := c.resolve_left (fun z => z c1)
      simp [sRet, mIf, mOr, mB, m2, mThen, mLift, mVar, mC, neI, bOf, c1, c2, qC, mTup, aCons, aNil, isDs, isD, le_size]
    · simp [sRet, mIf, mOr, mB, m2, mThen, mLift, mVar, mC, neI, bOf, c1, qC, mTup, aCons, aNil, isDs, isD, le_size]
  · have c1 : i - 3 = 0 := by omega
    have c2 : j - 3 = 0 := by omega
    refine ⟨0, 1, s2, fnM_rt rfl ?_, by decide, by decide, by decide, k2⟩
    unfold g__law_normal
    rw [sSeq_nx q1]
    simp [sRet, mIf, mOr, mB, m2, mThen, mLift, mVar, mC, neI, bOf, c1, c2, qC, mTup, aCons, aNil, isDs, isD, le_size]
theorem gcd4_eq {a b c d : Int} : gcdI (gcdI a b) (gcdI c d) = gcdI4 a b c d := by
  unfold gcdI gcdI4
  simp [Nat.gcd_assoc]
theorem gcd4_mul {g a b c d : Int} (hg : 0 < g) : gcdI4 (g * a) (g * b) (g * c) (g * d) = g * gcdI4 a b c d := by
  unfold gcdI4
  rw [Int.natAbs_mul, Int.natAbs_mul, Int.natAbs_mul, Int.natAbs_mul, Nat.gcd_mul_left, Nat.gcd_mul_left, Nat.gcd_mul_left]
  push_cast
  rw [Int.natAbs_of_nonneg (Int.le_of_lt hg)]
theorem gcd4_d {a b c d : Int} : gcdI4 a b c d ∣ a ∧ gcdI4 a b c d ∣ b ∧ gcdI4 a b c d ∣ c ∧ gcdI4 a b c d ∣ d := by
  unfold gcdI4
  have h1 := Nat.gcd_dvd_left ((a.natAbs.gcd b.natAbs).gcd c.natAbs) d.natAbs
  have h2 := Nat.gcd_dvd_left (a.natAbs.gcd b.natAbs) c.natAbs
  refine ⟨Int.ofNat_dvd_left.mpr (Nat.dvd_trans (Nat.dvd_trans h1 h2) (Nat.gcd_dvd_left _ _)), Int.ofNat_dvd_left.mpr (Nat.dvd_trans (Nat.dvd_trans h1 h2) (Nat.gcd_dvd_right _ _)), Int.ofNat_dvd_left.mpr (Nat.dvd_trans h1 (Nat.gcd_dvd_right _ _)), Int.ofNat_dvd_left.mpr (Nat.gcd_dvd_right _ _)⟩
theorem e_channel {a b c d : Int} {s : S} (hab : a ≠ 0 ∨ b ≠ 0) (ha : a.natAbs ≤ 3) (hb : b.natAbs ≤ 3) (hcd : c < d) : ∃ a' b' c' d', f__law_channel [fD a b, .int c, .int d] s = some (cD4 a' b' c' d', s) ∧ Chan a' b' c' d' := by
  have hne : ((a.natAbs.gcd b.natAbs).gcd c.natAbs).gcd d.natAbs ≠ 0 := fun z => by
    have h1 := Nat.eq_zero_of_gcd_eq_zero_left z
    have h2 := Nat.eq_zero_of_gcd_eq_zero_left h1
    have h3 := Nat.eq_zero_of_gcd_eq_zero_left h2
    have h4 := Nat.eq_zero_of_gcd_eq_zero_right h2
    omega
  have g0 : 0 < gcdI4 a b c d := by unfold gcdI4; omega
  obtain ⟨d1, d2, d3, d4⟩ := gcd4_d (a := a) (b := b) (c := c) (d := d)
  have g3 : (gcdI4 a b c d).natAbs ≤ 3 := by
    rcases hab with h | h
    · have := Nat.le_of_dvd (by omega) (Int.natAbs_dvd_natAbs.mpr d1); omega
    · have := Nat.le_of_dvd (by omega) (Int.natAbs_dvd_natAbs.mpr d2); omega
  have bg : Bi (gcdI4 a b c d) 2 := ⟨by omega⟩
  have h3 : ∀ z, dDiv (.int z) (.int (gcdI4 a b c d)) = some (.int (z / gcdI4 a b c d)) := fun z => divB g0 (by decide)
  have x1 := Int.mul_ediv_cancel' d1
  have x2 := Int.mul_ediv_cancel' d2
  have x3 := Int.mul_ediv_cancel' d3
  have x4 := Int.mul_ediv_cancel' d4
  refine ⟨a / gcdI4 a b c d, b / gcdI4 a b c d, c / gcdI4 a b c d, d / gcdI4 a b c d, ?_, ⟨?_, ?_, ?_, ⟨Bi.div_le (show a.natAbs < 2 ^ 2 by omega)⟩, ⟨Bi.div_le (show b.natAbs < 2 ^ 2 by omega)⟩⟩⟩
  · have t1 : sAsg (.tp [.nm 3, .nm 4]) (mVar 0) (startE 6 [fD a b, .int c, .int d]) s = some (.nx [cD (fD a b), cI c, cI d, cI a, cI b, none], s) := by
      simp [sAsg, mVar, startE, bnd, bnds]
    refine fnM_rt rfl ?_
    unfold g__law_channel
    rw [sSeq_nx t1]
    simp [sSeq, sAsg, mF, aCons, aNil, mThen, mLift, mVar, e_gcd, gcd4_eq, bnd, sRet, mTup, m2, h3, isDs, isD, le_size]
  · rcases hab with h | h
    · refine .inl fun z => h ?_
      rw [z, Int.mul_zero] at x1; exact x1.symm
    · refine .inr fun z => h ?_
      rw [z, Int.mul_zero] at x2; exact x2.symm
  · have : gcdI4 a b c d * (c / gcdI4 a b c d) < gcdI4 a b c d * (d / gcdI4 a b c d) := by rw [x3, x4]; exact hcd
    exact Int.lt_of_mul_lt_mul_left this (Int.le_of_lt g0)
  · have h : gcdI4 (gcdI4 a b c d * (a / gcdI4 a b c d)) (gcdI4 a b c d * (b / gcdI4 a b c d)) (gcdI4 a b c d * (c / gcdI4 a b c d)) (gcdI4 a b c d * (d / gcdI4 a b c d)) = gcdI4 a b c d := by rw [x1, x2, x3, x4]
    rw [gcd4_mul g0] at h
    have : gcdI4 a b c d * gcdI4 (a / gcdI4 a b c d) (b / gcdI4 a b c d) (c / gcdI4 a b c d) (d / gcdI4 a b c d) = gcdI4 a b c d * 1 := by rw [h, Int.mul_one]
    exact Int.eq_of_mul_eq_mul_left (by omega) this
theorem e_dot {n : Nat} {s : S} (h : Sk n s) (hn : n + 2 ≤ 1000000) : ∃ v s', f__law_dot [SACK] s = some (dt v, s') ∧ Bx 7 v ∧ Sk (n + 2) s' := by
  obtain ⟨i, s1, e1, i0, i1, k1⟩ := e_draw (z := 15) h (by omega) (by decide) (by decide)
  obtain ⟨j, s2, e2, j0, j1, k2⟩ := e_draw (z := 15) k1 (by omega) (by decide) (by decide)
  refine ⟨(i - 7, j - 7), s2, ?_, ⟨by show (i - 7).natAbs ≤ 7; omega, by show (j - 7).natAbs ≤ 7; omega⟩, k2⟩
  simp [f__law_dot, g__law_dot, fnM, startE, sRet, mTup, aCons, aNil, m2, mF, mThen, mLift, mVar, mC, e1, e2, dSub, isDs, isD, le_size]
theorem e_way {R : List P} (F : Fig R) {n : Nat} {s : S} {m : D} {a b : Int} (h : Sk n s) (hn : n + 4 ≤ 1000000) (ha : a.natAbs ≤ 3) (hb : b.natAbs ≤ 3) : ∃ v s', f__law_way [SACK, .list [.list (R.map dt), m], fD a b] s = some (dt v, s') ∧ Bx 24 v ∧ Sk (n + 4) s' := by
  obtain ⟨i, s1, e1, i0, i1, k1⟩ := e_draw (z := 6) h (by omega) (by decide) (by decide)
  obtain ⟨j, s2, e2, j0, j1, k2⟩ := e_draw (z := 13) k1 (by omega) (by decide) (by decide)
  have q1 : sPar 3 4 (aCons (mF f__law_draw (aCons (mVar 0) (aCons (mC (.int 6)) aNil))) (aCons (m2 dSub (mF f__law_draw (aCons (mVar 0) (aCons (mC (.int 13)) aNil))) (mC (.int 6))) aNil)) (startE 7 [SACK, .list [.list (R.map dt), m], fD a b]) s = some (.nx [cD SACK, cD (.list [.list (R.map dt), m]), cD (fD a b), cI i, cI (j - 6), none, none], s2) := by
    simp [sPar, startE, aCons, aNil, m2, mF, mThen, mLift, mVar, mC, e1, e2, dSub, isD]
  have z2 : (2 : Nat) ≤ sizeLine := le_size (by decide)
  by_cases c0 : i = 0
  · subst c0
    refine ⟨(0, 0), s2, fnM_rt rfl ?_, ⟨by decide, by decide⟩, k2.mono (by omega)⟩
    unfold g__law_way
    rw [sSeq_nx q1]
    simp [sSeq, mIf, mB, m2, mThen, mLift, mVar, mC, eqI, bOf, sRet, mTup, aCons, aNil, isDs, isD, z2]
  · by_cases c1 : i = 1
    · subst c1
      have ne : R.map dt ≠ [] := by have := F.some; simpa using this
      obtain ⟨d, hd, s3, e3, k3⟩ := e_one k2 (by omega) (itL (R.map dt)) ne (by have := F.len; simp; omega)
      obtain ⟨r, hr, rfl⟩ := List.mem_map.mp hd
      have br := F.bx r hr
      have b1 : Bi r.1 3 := ⟨by have := br.1; omega⟩
      have b2 : Bi r.2 3 := ⟨by have := br.2; omega⟩
      have b3 : Bi ((j - 6).natAbs : Int) 3 := ⟨by omega⟩
      have x1 : dMul (.int ((j - 6).natAbs : Int)) (.int r.1) = _ := mulB (by decide)
      have x2 : dMul (.int ((j - 6).natAbs : Int)) (.int r.2) = _ := mulB (by decide)
      have j6 : (j - 6).natAbs ≤ 6 := by omega
      refine ⟨(((j - 6).natAbs : Int) * r.1, ((j - 6).natAbs : Int) * r.2), s3, fnM_rt rfl ?_, ⟨?_, ?_⟩, k3.mono (by omega)⟩
      · unfold g__law_way
        rw [sSeq_nx q1]
        have i0' : dIx (.list [.list (R.map dt), m]) (.int 0) = some (.list (R.map dt)) := rfl
        generalize PyData.list [.list (R.map dt), m] = X at *
        generalize PyData.list (R.map dt) = Y at *
        simp [sSeq, mIf, mB, m2, mThen, mLift, mVar, mC, eqI, bOf, sNx, sAsg, mF, aCons, aNil, i0', e3, bnd, bnds, sRet, mTup, mCall, bAbs, abs_is, x1, x2, isDs, isD, z2]
      · show (((j - 6).natAbs : Int) * r.1).natAbs ≤ 24
        rw [Int.natAbs_mul, Int.natAbs_natCast]
        exact Nat.le_trans (Nat.mul_le_mul j6 br.1) (by decide)
      · show (((j - 6).natAbs : Int) * r.2).natAbs ≤ 24
        rw [Int.natAbs_mul, Int.natAbs_natCast]
        exact Nat.le_trans (Nat.mul_le_mul j6 br.2) (by decide)
    · by_cases c2 : i = 2
      · subst c2
        have b1 : Bi a 2 := ⟨by omega⟩
        have b2 : Bi b 2 := ⟨by omega⟩
        have b3 : Bi (j - 6) 3 := ⟨by omega⟩
        have x1 : dMul (.int (j - 6)) (.int b) = _ := mulB (by decide)
        have x2 : dMul (.int (j - 6)) (.int a) = _ := mulB (by decide)
        have j6 : (j - 6).natAbs ≤ 6 := by omega
        refine ⟨(0 - (j - 6) * b, (j - 6) * a), s2, fnM_rt rfl ?_, ⟨?_, ?_⟩, k2.mono (by omega)⟩
        · unfold g__law_way
          rw [sSeq_nx q1]
          have i0' : dIx (fD a b) (.int 0) = some (.int a) := rfl
          have i1' : dIx (fD a b) (.int 1) = some (.int b) := rfl
          generalize fD a b = Y at *
          simp [sSeq, mIf, mB, m2, mThen, mLift, mVar, mC, eqI, bOf, sNx, i0', i1', x1, x2, dSub, sRet, mTup, aCons, aNil, isDs, isD, z2]
        · show (0 - (j - 6) * b).natAbs ≤ 24
          rw [Int.zero_sub, Int.natAbs_neg, Int.natAbs_mul]
          exact Nat.le_trans (Nat.mul_le_mul j6 hb) (by decide)
        · show ((j - 6) * a).natAbs ≤ 24
          rw [Int.natAbs_mul]
          exact Nat.le_trans (Nat.mul_le_mul j6 ha) (by decide)
      · obtain ⟨v, s3, e3, bv, k3⟩ := e_dot k2 (by omega)
        refine ⟨v, s3, fnM_rt rfl ?_, bv.mono (by decide), k3.mono (by omega)⟩
        unfold g__law_way
        rw [sSeq_nx q1]
        simp [sSeq, mIf, mB, m2, mThen, mLift, mVar, mC, eqI, bOf, sNx, c0, c1, c2, sRet, mF, aCons, aNil, e3]
end K50
/-! the law's round and the law -/
namespace K50
open PySem PySem.Spec PyProof.Rows L2 PL PLS WF
def RE (bo no sc sh nt lo wa tu sp pa du hi : Option Cell) : PL.Env := [cD SACK, bo, no, sc, sh, nt, lo, wa, tu, sp, pa, du, hi]
theorem ne_same (x : Str) : dNe (.str x) (.str x) = some (.bool false) := by
  unfold dNe
  rw [if_pos ⟨rfl, rfl⟩]
  simp [PyData.eqv]
theorem eq_same (x : Str) : dEq (.str x) (.str x) = some (.bool true) := by
  unfold dEq
  rw [if_pos ⟨rfl, rfl⟩]
  simp [PyData.eqv]
/-- what a turn leaves: a way in least terms, what is due of it -/
def After (R : List P) (m c0 c1 c2 c3 : Int) (ρ : PL.Env) (st : PL.S) (bo no sc lo : Option Cell) : Prop :=
  ∃ (tu pa hi : Option Cell) (Y due : D) (n k : Nat), ρ = RE bo no sc (cD (said R m)) (cD (pD 0 0 1)) lo (cD (cD4 c0 c1 c2 c3)) tu (cD Y) pa (cD due) hi ∧ Shw due n k ∧ n ≤ 20000 ∧ k ≤ 60 ∧ f_rise_and_fall [said R m, cD4 c0 c1 c2 c3, Y] st = some (due, st)
theorem e_turn {R : List P} (F : Fig R) (hR : ∀ r ∈ R, Sm 3 r) {m a b z c0 c1 c2 c3 : Int} {n : Nat} {st : PL.S} {lo tu sp pa du hi : Option Cell} (hm1 : 1 ≤ m) (hm3 : m ≤ 3) (hz1 : 1 ≤ z) (hz3 : z ≤ 3) (ha : a.natAbs ≤ 3) (hb : b.natAbs ≤ 3) (C : Chan c0 c1 c2 c3) (hfig : ∀ s, f_need_figure [said R m] s = some (.none, s)) (hk : Sk n st) (hn : n + 4 ≤ 1000000) :
    ∃ ρ' st', After R m c0 c1 c2 c3 ρ' st' (cD (.list [.list (R.map dt), .int m])) (cD (fD a b)) (cI z) lo ∧ Sk (n + 4) st' ∧ lb__law_right_0 (RE (cD (.list [.list (R.map dt), .int m])) (cD (fD a b)) (cI z) (cD (said R m)) (cD (pD 0 0 1)) lo (cD (cD4 c0 c1 c2 c3)) tu sp pa du hi) st = some (.nx ρ', st') := by
  have bm := bi_m hm1 hm3
  have bz := bi_m hz1 hz3
  have hm : 0 < m := by omega
  have hz : 0 < z := by omega
  obtain ⟨v0, st1, e1, bv, k1⟩ := e_way F (m := .int m) (a := a) (b := b) hk (by omega) ha hb
  have e2 := e_said (R := [v0]) (m := z) (X := .list [dt v0]) (s := st1) (itL _) hz (by decide) (by simp)
  have b01 : Bi v0.1 6 := ⟨by have := bv.1; omega⟩
  have b02 : Bi v0.2 6 := ⟨by have := bv.2; omega⟩
  have g0 := gcd3_pos (a := v0.1) (b := v0.2) hz
  have hw : 0 < z / gcdI3 v0.1 v0.2 z := Int.ediv_pos_of_pos_of_dvd hz (by omega) gcd3_d3
  have bw : Bi (z / gcdI3 v0.1 v0.2 z) 3 := ⟨Nat.lt_of_lt_of_le (Bi.div_le bz.h) (two_le (by decide))⟩
  have b1 : Bi (v0.1 / gcdI3 v0.1 v0.2 z) 6 := ⟨Bi.div_le b01.h⟩
  have b2 : Bi (v0.2 / gcdI3 v0.1 v0.2 z) 6 := ⟨Bi.div_le b02.h⟩
  have rd := red3 g0
  have hy : nm3 v0.1 v0.2 z = pD (v0.1 / gcdI3 v0.1 v0.2 z) (v0.2 / gcdI3 v0.1 v0.2 z) (z / gcdI3 v0.1 v0.2 z) := rfl
  obtain ⟨parts, due, N, K, hs, hN, hK, ep, hp, er⟩ := e_both F hR (m := m) (v := (v0.1 / gcdI3 v0.1 v0.2 z, v0.2 / gcdI3 v0.1 v0.2 z)) (w := z / gcdI3 v0.1 v0.2 z) (mm := .int m) (s := st1) C hm hw b1 b2 rd (hfig st1)
  have ec := e_cross_of (p := v0.1 / gcdI3 v0.1 v0.2 z) (q := v0.2 / gcdI3 v0.1 v0.2 z) (w := z / gcdI3 v0.1 v0.2 z) (s := st1) C hw rd
  have := C.ba
  have := C.bb
  have n1 : dMul (.int c0) (.int (v0.1 / gcdI3 v0.1 v0.2 z)) = _ := mulB (by decide)
  have n2 : dMul (.int c1) (.int (v0.2 / gcdI3 v0.1 v0.2 z)) = _ := mulB (by decide)
  have el := e_lratio (a := c0 * (v0.1 / gcdI3 v0.1 v0.2 z) + c1 * (v0.2 / gcdI3 v0.1 v0.2 z)) (b := z / gcdI3 v0.1 v0.2 z) (s := st1) hw (by decide)
  have hsc := shw_fr (U := c0 * (v0.1 / gcdI3 v0.1 v0.2 z) + c1 * (v0.2 / gcdI3 v0.1 v0.2 z)) (K := z / gcdI3 v0.1 v0.2 z) (by decide) (by decide)
  have y0 : dIx (nm3 v0.1 v0.2 z) (.int 0) = some (.int (v0.1 / gcdI3 v0.1 v0.2 z)) := rfl
  have y1 : dIx (nm3 v0.1 v0.2 z) (.int 1) = some (.int (v0.2 / gcdI3 v0.1 v0.2 z)) := rfl
  have y2 : dIx (nm3 v0.1 v0.2 z) (.int 2) = some (.int (z / gcdI3 v0.1 v0.2 z)) := rfl
  dsimp only at ep er
  rw [← hy] at ep er ec
  have w0 : dIx (cD4 c0 c1 c2 c3) (.int 0) = some (.int c0) := rfl
  have w1 : dIx (cD4 c0 c1 c2 c3) (.int 1) = some (.int c1) := rfl
  have rp1 := hs.repr hN hK
  have rp2 := hsc.repr (by decide) (by decide)
  have sl : dIx (said [v0] z) (.int 0) = some (nm3 v0.1 v0.2 z) := rfl
  have iv : isD (dt v0) = true := rfl
  have ih : isD due = true := hs.is
  have s1 : (1 : Nat) ≤ sizeLine := le_size (by decide)
  generalize hB : PyData.list [.list (R.map dt), .int m] = B at *
  generalize hY : nm3 v0.1 v0.2 z = Y at *
  generalize fr (c0 * (v0.1 / gcdI3 v0.1 v0.2 z) + c1 * (v0.2 / gcdI3 v0.1 v0.2 z)) (z / gcdI3 v0.1 v0.2 z) = G at *
  generalize said [v0] z = SV at *
  generalize hW : cD4 c0 c1 c2 c3 = W at *
  generalize hX : said R m = X at *
  generalize dt v0 = V at *
  generalize fD a b = NO at *
  generalize hO : pD 0 0 1 = O at *
  have t1 : sAsg (.nm 9) (m2 dIx (mF WF.f__law_said (aCons (mL (mLst (aCons (mF WF.f__law_way (aCons (mVar 0) (aCons (mVar 1) (aCons (mVar 2) aNil)))) aNil))) (aCons (mVar 3) aNil))) (mC (.int 0))) (RE (cD B) (cD NO) (cI z) (cD X) (cD O) lo (cD W) tu sp pa du hi) st = some (.nx (RE (cD B) (cD NO) (cI z) (cD X) (cD O) lo (cD W) tu (cD Y) pa du hi), st1) := by
    simp [sAsg, m2, mF, aCons, aNil, mL, mLst, mThen, mLift, mVar, mC, RE, e1, isDs, iv, s1, e2, sl, bnd]
  have t2 : sAsg (.nm 10) (mF WF.f__law_parts (aCons (mVar 1) (aCons (mVar 5) (aCons (mVar 9) aNil)))) (RE (cD B) (cD NO) (cI z) (cD X) (cD O) lo (cD W) tu (cD Y) pa du hi) st1 = some (.nx (RE (cD B) (cD NO) (cI z) (cD X) (cD O) lo (cD W) tu (cD Y) (cD parts) du hi), st1) := by
    simp [sAsg, mF, aCons, aNil, mThen, mLift, mVar, RE, ep, bnd]
  have t3 : sAsg (.nm 11) (mIf (mB (m2 (dIsN) (mVar 10) (mC .none))) (mC .none) (mF WF.f__law_growth (aCons (mVar 7) (aCons (mVar 10) aNil)))) (RE (cD B) (cD NO) (cI z) (cD X) (cD O) lo (cD W) tu (cD Y) (cD parts) du hi) st1 = some (.nx (RE (cD B) (cD NO) (cI z) (cD X) (cD O) lo (cD W) tu (cD Y) (cD parts) (cD due) hi), st1) := by
    rcases hp with ⟨rfl, rfl⟩ | ⟨h1, h2, h3⟩
    · simp [sAsg, mIf, mB, m2, mThen, mLift, mVar, mC, RE, dIsN, isNone, isD, bOf, bnd]
    · simp [sAsg, mIf, mB, m2, mThen, mLift, mVar, mC, RE, dIsN, h1, h2, bOf, mF, aCons, aNil, h3, bnd]
  have t4 : mIf (mB (m2 (dNe) (mCall bRepr (aCons (mF WF.f_rise_and_fall (aCons (mVar 4) (aCons (mVar 7) (aCons (mVar 9) aNil)))) aNil)) (mCall bRepr (aCons (mVar 11) aNil)))) (sRet (mC (.bool false))) (sNx) (RE (cD B) (cD NO) (cI z) (cD X) (cD O) lo (cD W) tu (cD Y) (cD parts) (cD due) hi) st1 = some (.nx (RE (cD B) (cD NO) (cI z) (cD X) (cD O) lo (cD W) tu (cD Y) (cD parts) (cD due) hi), st1) := by
    have nn := ne_same due.shown
    simp [mIf, mB, m2, mCall, mF, aCons, aNil, mThen, mLift, mVar, RE, er, rp1, nn, bOf, sNx]
  have t5 : sAsg (.nm 12) (mF WF.f__law_ratio (aCons (m2 dAdd (m2 dMul (m2 dIx (mVar 7) (mC (.int 0))) (m2 dIx (mVar 9) (mC (.int 0)))) (m2 dMul (m2 dIx (mVar 7) (mC (.int 1))) (m2 dIx (mVar 9) (mC (.int 1))))) (aCons (m2 dIx (mVar 9) (mC (.int 2))) aNil))) (RE (cD B) (cD NO) (cI z) (cD X) (cD O) lo (cD W) tu (cD Y) (cD parts) (cD due) hi) st1 = some (.nx (RE (cD B) (cD NO) (cI z) (cD X) (cD O) lo (cD W) tu (cD Y) (cD parts) (cD due) (cD G)), st1) := by
    simp [sAsg, mF, aCons, aNil, m2, mThen, mLift, mVar, mC, RE, w0, w1, y0, y1, y2, n1, n2, dAdd, el, bnd]
  have t6 : mIf (mOr (mB (m2 (dNe) (mCall bRepr (aCons (mF WF.f_cross_of (aCons (mVar 7) (aCons (mVar 9) aNil))) aNil)) (mCall bRepr (aCons (mVar 12) aNil)))) (mB (m2 (dNe) (mCall bRepr (aCons (mFK WF.f_cross_of [1, 0] (aCons (mVar 9) (aCons (mVar 7) aNil))) aNil)) (mCall bRepr (aCons (mVar 12) aNil))))) (sRet (mC (.bool false))) (sNx) (RE (cD B) (cD NO) (cI z) (cD X) (cD O) lo (cD W) tu (cD Y) (cD parts) (cD due) (cD G)) st1 = some (.nx (RE (cD B) (cD NO) (cI z) (cD X) (cD O) lo (cD W) tu (cD Y) (cD parts) (cD due) (cD G)), st1) := by
    have nn := ne_same G.shown
    have ro : reord [1, 0] [Y, W] = [W, Y] := rfl
    simp [mIf, mOr, mB, m2, mCall, mF, mFK, aCons, aNil, mThen, mLift, mVar, RE, ec, rp2, nn, ro, bOf, sNx]
  refine ⟨_, st1, ⟨tu, cD parts, cD G, Y, due, N, K, by rw [hX, hW, hO], hs, hN, hK, by rw [hX, hW]; exact er⟩, k1, ?_⟩
  unfold lb__law_right_0
  rw [sSeq_nx t1, sSeq_nx t2, sSeq_nx t3, sSeq_nx t4, sSeq_nx t5]
  exact t6
theorem turns {R : List P} (F : Fig R) (hR : ∀ r ∈ R, Sm 3 r) {m a b z c0 c1 c2 c3 : Int} {lo : Option Cell} (hm1 : 1 ≤ m) (hm3 : m ≤ 3) (hz1 : 1 ≤ z) (hz3 : z ≤ 3) (ha : a.natAbs ≤ 3) (hb : b.natAbs ≤ 3) (C : Chan c0 c1 c2 c3) (hfig : ∀ s, f_need_figure [said R m] s = some (.none, s)) : ∀ (xs : List D) (n : Nat) (st : PL.S) (tu sp pa du hi : Option Cell), xs ≠ [] → Sk n st → n + 4 * xs.length ≤ 1000000 →
    ∃ ρ' st', After R m c0 c1 c2 c3 ρ' st' (cD (.list [.list (R.map dt), .int m])) (cD (fD a b)) (cI z) lo ∧ forL (.nm 8) lb__law_right_0 xs (RE (cD (.list [.list (R.map dt), .int m])) (cD (fD a b)) (cI z) (cD (said R m)) (cD (pD 0 0 1)) lo (cD (cD4 c0 c1 c2 c3)) tu sp pa du hi) st = some (.nx ρ', st')
  | [], _, _, _, _, _, _, _, h, _, _ => absurd rfl h
  | x :: xs, n, st, tu, sp, pa, du, hi, _, hk, hn => by
    rw [List.length_cons] at hn
    obtain ⟨ρ1, st1, A1, k1, e1⟩ := e_turn F hR (lo := lo) (tu := cD x) (sp := sp) (pa := pa) (du := du) (hi := hi) hm1 hm3 hz1 hz3 ha hb C hfig hk (by omega)
    have e0 : bnd (.nm 8) x (RE (cD (.list [.list (R.map dt), .int m])) (cD (fD a b)) (cI z) (cD (said R m)) (cD (pD 0 0 1)) lo (cD (cD4 c0 c1 c2 c3)) tu sp pa du hi) st = some (RE (cD (.list [.list (R.map dt), .int m])) (cD (fD a b)) (cI z) (cD (said R m)) (cD (pD 0 0 1)) lo (cD (cD4 c0 c1 c2 c3)) (cD x) sp pa du hi, st) := by simp [bnd, RE]
    by_cases hx : xs = []
    · subst hx
      exact ⟨ρ1, st1, A1, by rw [forL_nx e0 e1]; rfl⟩
    · obtain ⟨tu1, pa1, hi1, Y1, due1, n1, k1', rfl, _⟩ := A1
      obtain ⟨ρ2, st2, A2, e2⟩ := turns F hR (lo := lo) hm1 hm3 hz1 hz3 ha hb C hfig xs (n + 4) st1 tu1 (cD Y1) pa1 (cD due1) hi1 hx k1 (by omega)
      exact ⟨ρ2, st2, A2, by rw [forL_nx e0 e1]; exact e2⟩
theorem end_ok {ρ : PL.Env} {X W Y due : D} {n k : Nat} {s : S} (h4 : ρ[4]? = some (cD X)) (h7 : ρ[7]? = some (cD W)) (h9 : ρ[9]? = some (cD Y)) (h11 : ρ[11]? = some (cD due)) (hs : Shw due n k) (hn : n ≤ 20000) (hk : k ≤ 60) (e : f_rise_and_fall [X, W, Y] s = some (due, s)) :
    sRet (m2 (dEq) (mCall bRepr (aCons (mFK WF.f_rise_and_fall [1, 2, 0] (aCons (mVar 9) (aCons (mVar 4) (aCons (mVar 7) aNil)))) aNil)) (mCall bRepr (aCons (mVar 11) aNil))) ρ s = some (.rt (.bool true), s) := by
  have r := hs.repr hn hk
  have nn := eq_same due.shown
  have ro : reord [1, 2, 0] [Y, X, W] = [X, W, Y] := rfl
  simp [sRet, m2, mCall, mFK, aCons, aNil, mThen, mLift, mVar, h4, h7, h9, h11, e, r, nn, ro]
theorem e_right : Good f__law_right := by
  intro s hs
  obtain ⟨S, R, m, s1, e1, H, hm1, hm3, k1⟩ := e_boat hs (by omega)
  obtain ⟨a, b, s2, e2, ab, ha, hb, k2⟩ := e_normal k1 (by omega)
  obtain ⟨d, s3, e3, d0, d1, k3⟩ := e_draw (z := 3) k2 (by omega) (by decide) (by decide)
  have bm := bi_m hm1 hm3
  have F := H.fig
  have e4 := fun s : PL.S => e_said (R := R) (m := m) (X := .list (R.map dt)) (s := s) (itL _) (by omega) (by decide) (by have := H.lenR; omega)
  obtain ⟨l, s4, e5, l0, l1, k4⟩ := e_draw (z := 9) k3 (by omega) (by decide) (by decide)
  obtain ⟨h, s5, e6, h0, h1, k5⟩ := e_draw (z := 6) k4 (by omega) (by decide) (by decide)
  obtain ⟨c0, c1, c2, c3, e7, C⟩ := e_channel (a := a) (b := b) (c := l - 5) (d := l - 5 + 1 + h) (s := s5) ab ha hb (by omega)
  obtain ⟨xs, lx, hx⟩ := rg1_c (k := 6) (by decide)
  obtain ⟨ρ, s6, A, e8⟩ := turns F H.sm (m := m) (a := a) (b := b) (z := 1 + d) (lo := cI (l - 5)) hm1 hm3 (by omega) (by omega) ha hb C (fun s => (H.figure hm1 hm3).2) xs _ s5 none none none none none (by intro z; rw [z] at lx; simp at lx) k5 (by omega)
  obtain ⟨tu, pa, hi, Y, due, N, K, rfl, hsw, hN, hK, er⟩ := A
  refine ⟨s6, fnM_rt rfl ?_⟩
  have t1 : sPar3 1 2 3 (aCons (mF WF.f__law_boat (aCons (mVar 0) aNil)) (aCons (mF WF.f__law_normal (aCons (mVar 0) aNil)) (aCons (m2 dAdd (mC (.int 1)) (mF WF.f__law_draw (aCons (mVar 0) (aCons (mC (.int 3)) aNil)))) aNil))) (startE 13 [SACK]) s = some (.nx (RE (cD (.list [.list (R.map dt), .int m])) (cD (fD a b)) (cI (1 + d)) none none none none none none none none none), s3) := by
    simp [sPar3, startE, aCons, aNil, m2, mF, mThen, mLift, mVar, mC, e1, e2, e3, dAdd, isD, RE]
  have t2 : sPar 4 5 (aCons (mF WF.f__law_said (aCons (m2 dIx (mVar 1) (mC (.int 0))) (aCons (m2 dIx (mVar 1) (mC (.int 1))) aNil))) (aCons (mTup (aCons (mC (.int 0)) (aCons (mC (.int 0)) (aCons (mC (.int 1)) aNil)))) aNil)) (RE (cD (.list [.list (R.map dt), .int m])) (cD (fD a b)) (cI (1 + d)) none none none none none none none none none) s3 = some (.nx (RE (cD (.list [.list (R.map dt), .int m])) (cD (fD a b)) (cI (1 + d)) (cD (said R m)) (cD (pD 0 0 1)) none none none none none none none), s3) := by
    have e4' := e4 s3
    have i0 : isD (said R m) = true := rfl
    have j0 : dIx (.list [.list (R.map dt), .int m]) (.int 0) = some (.list (R.map dt)) := rfl
    have j1 : dIx (.list [.list (R.map dt), .int m]) (.int 1) = some (.int m) := rfl
    generalize said R m = X at *
    generalize PyData.list [.list (R.map dt), .int m] = B at *
    generalize PyData.list (R.map dt) = RD at *
    have i1 : isD (pD 0 0 1) = true := rfl
    simp [sPar, aCons, aNil, m2, mF, mThen, mLift, mVar, mC, RE, j0, j1, e4', mTup, isDs, isD, le_size]
  have t3 : sAsg (.nm 6) (m2 dSub (mF WF.f__law_draw (aCons (mVar 0) (aCons (mC (.int 9)) aNil))) (mC (.int 5))) (RE (cD (.list [.list (R.map dt), .int m])) (cD (fD a b)) (cI (1 + d)) (cD (said R m)) (cD (pD 0 0 1)) none none none none none none none) s3 = some (.nx (RE (cD (.list [.list (R.map dt), .int m])) (cD (fD a b)) (cI (1 + d)) (cD (said R m)) (cD (pD 0 0 1)) (cI (l - 5)) none none none none none none), s4) := by
    simp [sAsg, m2, mF, aCons, aNil, mThen, mLift, mVar, mC, RE, e5, dSub, bnd]
  have t4 : sAsg (.nm 7) (mF WF.f__law_channel (aCons (mVar 2) (aCons (mVar 6) (aCons (m2 dAdd (m2 dAdd (mVar 6) (mC (.int 1))) (mF WF.f__law_draw (aCons (mVar 0) (aCons (mC (.int 6)) aNil)))) aNil)))) (RE (cD (.list [.list (R.map dt), .int m])) (cD (fD a b)) (cI (1 + d)) (cD (said R m)) (cD (pD 0 0 1)) (cI (l - 5)) none none none none none none) s4 = some (.nx (RE (cD (.list [.list (R.map dt), .int m])) (cD (fD a b)) (cI (1 + d)) (cD (said R m)) (cD (pD 0 0 1)) (cI (l - 5)) (cD (cD4 c0 c1 c2 c3)) none none none none none), s5) := by
    generalize fD a b = NO at *
    generalize cD4 c0 c1 c2 c3 = W at *
    simp [sAsg, m2, mF, aCons, aNil, mThen, mLift, mVar, mC, RE, e6, dAdd, e7, bnd]
  have t5 := (sFor_at (p := .nm 8) (body := lb__law_right_0) (mA_c hx)).trans e8
  have t6 := end_ok (ρ := RE (cD (.list [.list (R.map dt), .int m])) (cD (fD a b)) (cI (1 + d)) (cD (said R m)) (cD (pD 0 0 1)) (cI (l - 5)) (cD (cD4 c0 c1 c2 c3)) tu (cD Y) pa (cD due) hi) rfl rfl rfl rfl hsw hN hK er
  unfold g__law_right
  refine (sSeq_nx t1).trans ?_
  refine (sSeq_nx t2).trans ?_
  refine (sSeq_nx t3).trans ?_
  refine (sSeq_nx t4).trans ?_
  refine (sSeq_nx t5).trans ?_
  exact t6
theorem law_true : ∀ ns : List Int, ns.length ≤ 63 → (∀ z ∈ ns, Builtin.Int.intBits z ≤ 1048576) → ∃ s', f_law [.list (ns.map PyData.int)] [] = some (.bool true, s') := law_of e_right
end K50
namespace K50
open PySem PySem.Spec PyProof.Rows L2 PL
abbrev R : PySem.W.OpenRow := PySem.W.OpenLaw.row PySem.Challenge.rw_windfigure_k50_whole_rise_and_fall_of_wa
def lo0 : List PySem.Str := ["WindError", "InvalidPoint", "InvalidFigure", "InvalidChannel", "is_whole", "are_whole", "ratio", "ratio_sum", "ratio_gap", "ratio_product", "is_less", "point_of", "course_to", "side_of", "along", "overshoot"]
def lo1 : List PySem.Str := ["parts_along", "is_point", "need_point", "shape_hull", "half_hull", "edge_courses", "shape_sides", "shape_support", "shape_holds", "first_no_point", "is_polygon", "is_figure", "need_figure", "time_and_side", "soonest_tacks", "is_channel"]
def lo2 : List PySem.Str := ["need_channel", "cross_of", "cross_by", "rise_and_fall", "rise_and_fall_by", "_law_sack", "_law_draw", "_law_one", "_law_gcd", "_law_ratio", "_law_add", "_law_spot", "_law_said", "_law_bend", "_law_chain", "_law_rim"]
def lo3 : List PySem.Str := ["_law_boat", "_law_dot", "_law_parts", "_law_normal", "_law_channel", "_law_growth", "_law_way", "_law_right", "AXES", "NOUGHT", "ZERO"]
def loose : List PySem.Str := lo0 ++ (lo1 ++ (lo2 ++ (lo3)))
def dDef (i : Nat) (x : Str) : He.DefD := ⟨(x, none), x, x, defArgs (top i), defBody (top i), defScope (top i), [], []⟩
def fn0 : List He.DefD := [dDef 9 "is_whole", dDef 10 "are_whole", dDef 11 "ratio", dDef 12 "ratio_sum", dDef 13 "ratio_gap", dDef 14 "ratio_product", dDef 15 "is_less", dDef 16 "point_of", dDef 17 "course_to", dDef 18 "side_of", dDef 19 "along", dDef 20 "overshoot"]
def fn1 : List He.DefD := [dDef 21 "parts_along", dDef 23 "is_point", dDef 24 "need_point", dDef 27 "shape_hull", dDef 28 "half_hull", dDef 29 "edge_courses", dDef 30 "shape_sides", dDef 31 "shape_support", dDef 32 "shape_holds", dDef 34 "first_no_point", dDef 35 "is_polygon", dDef 37 "is_figure"]
def fn2 : List He.DefD := [dDef 38 "need_figure", dDef 39 "time_and_side", dDef 40 "soonest_tacks", dDef 42 "is_channel", dDef 43 "need_channel", dDef 44 "cross_of", dDef 45 "cross_by", dDef 46 "rise_and_fall", dDef 47 "rise_and_fall_by", dDef 49 "_law_sack", dDef 50 "_law_draw", dDef 51 "_law_one"]
def fn3 : List He.DefD := [dDef 52 "_law_gcd", dDef 53 "_law_ratio", dDef 54 "_law_add", dDef 55 "_law_spot", dDef 56 "_law_said", dDef 57 "_law_bend", dDef 58 "_law_chain", dDef 59 "_law_rim", dDef 60 "_law_boat", dDef 61 "_law_dot", dDef 62 "_law_parts", dDef 63 "_law_normal"]
def fn4 : List He.DefD := [dDef 64 "_law_channel", dDef 65 "_law_growth", dDef 66 "_law_way", dDef 67 "_law_right", dDef 68 "law"]
def fn : List He.DefD := fn0 ++ (fn1 ++ (fn2 ++ (fn3 ++ (fn4))))
def fa0 : List He.Fa := [.glo "is_whole", .glo "are_whole", .glo "ratio", .glo "ratio_sum", .glo "ratio_gap", .glo "ratio_product", .glo "is_less", .glo "point_of", .glo "course_to", .glo "side_of", .glo "along", .glo "overshoot"]
def fa1 : List He.Fa := [.glo "parts_along", .glo "is_point", .glo "need_point", .glo "shape_hull", .glo "half_hull", .glo "edge_courses", .glo "shape_sides", .glo "shape_support", .glo "shape_holds", .glo "first_no_point", .glo "is_polygon", .glo "is_figure"]
def fa2 : List He.Fa := [.glo "need_figure", .glo "time_and_side", .glo "soonest_tacks", .glo "is_channel", .glo "need_channel", .glo "cross_of", .glo "cross_by", .glo "rise_and_fall", .glo "rise_and_fall_by", .glo "_law_sack", .glo "_law_draw", .glo "_law_one"]
def fa3 : List He.Fa := [.glo "_law_gcd", .glo "_law_ratio", .glo "_law_add", .glo "_law_spot", .glo "_law_said", .glo "_law_bend", .glo "_law_chain", .glo "_law_rim", .glo "_law_boat", .glo "_law_dot", .glo "_law_parts", .glo "_law_normal"]
def fa4 : List He.Fa := [.glo "_law_channel", .glo "_law_growth", .glo "_law_way", .glo "_law_right", .glo "law", .free "abs", .free "all", .free "bool", .free "divmod", .free "enumerate", .free "int", .free "isinstance"]
def fa5 : List He.Fa := [.free "len", .free "list", .free "max", .free "min", .free "range", .free "repr", .free "set", .free "sorted", .free "tuple", .free "zip"]
def fa : List He.Fa := fa0 ++ (fa1 ++ (fa2 ++ (fa3 ++ (fa4 ++ (fa5)))))
def exs (K : PySem.W.Frag) : List Bool := [He.eqO (PySem.W.nsIn K mainGlobals "gcd") (some (some (.builtin "math.gcd"))), He.eqO (PySem.W.nsIn K mainGlobals "lcm") (some (some (.builtin "math.lcm"))), cstB K "AXES" (.tuple [(.tuple [(.int 1), (.int 0)]), (.tuple [(.int 0), (.int 1)]), (.tuple [(.int (-1)), (.int 0)]), (.tuple [(.int 0), (.int (-1))])]), cstB K "NOUGHT" (.tuple [(.int 0), (.int 0), (.int 1)]), cstB K "ZERO" (.tuple [(.int 0), (.int 1)])]
def ex (K : PySem.W.Frag) : Bool := (exs K).all id
def ob (s : PySem.W.SharedT) : K1.AlQ := K1.obsQ fa fn ex (HandSHeadRun.getT s)
theorem ob_eq (s : PySem.W.SharedT) : ob s = (K1.hookQ fa fn ex).obs s.abs := K1.obsQ_eq (HandSHeadRun.getT_eq s)
theorem run (w : World) : HandSHeadRun.RunEqI R (PySem.W.view R.prog [0, 68]) (K1.hookQ fa fn ex) ob 40000 loose w := by
  unfold HandSHeadRun.RunEqI
  kernel_rfl
end K50
namespace K50
open PySem PySem.Spec PyProof.Rows L2 PL
section
variable {P : Program} {w : World} {K : PySem.W.Frag} {h : Heap} {mg : Str → Option Value}
theorem rowD (X : K.In h) (G : h.Ns mainGlobals mg) (c : He.SaysD fa fn K) : ∀ (i : Nat) (x : Str), nmOf i = some x → ∃ fd, FnP K x (top i) (He.ga K x) fd ∧ mg x = some (.ref (He.ga K x)) := by
  intro i x hi
  unfold nmOf at hi
  split at hi
  · cases hi
    obtain ⟨fd, F⟩ := c.def_ 0 (d := dDef 9 "is_whole") rfl
    exact ⟨fd, F, He.glo_ok X G (c.fact 0 (f := .glo "is_whole") rfl)⟩
  · cases hi
    obtain ⟨fd, F⟩ := c.def_ 1 (d := dDef 10 "are_whole") rfl
    exact ⟨fd, F, He.glo_ok X G (c.fact 1 (f := .glo "are_whole") rfl)⟩
  · cases hi
    obtain ⟨fd, F⟩ := c.def_ 2 (d := dDef 11 "ratio") rfl
    exact ⟨fd, F, He.glo_ok X G (c.fact 2 (f := .glo "ratio") rfl)⟩
  · cases hi
    obtain ⟨fd, F⟩ := c.def_ 3 (d := dDef 12 "ratio_sum") rfl
    exact ⟨fd, F, He.glo_ok X G (c.fact 3 (f := .glo "ratio_sum") rfl)⟩
  · cases hi
    obtain ⟨fd, F⟩ := c.def_ 4 (d := dDef 13 "ratio_gap") rfl
    exact ⟨fd, F, He.glo_ok X G (c.fact 4 (f := .glo "ratio_gap") rfl)⟩
  · cases hi
    obtain ⟨fd, F⟩ := c.def_ 5 (d := dDef 14 "ratio_product") rfl
    exact ⟨fd, F, He.glo_ok X G (c.fact 5 (f := .glo "ratio_product") rfl)⟩
  · cases hi
    obtain ⟨fd, F⟩ := c.def_ 6 (d := dDef 15 "is_less") rfl
    exact ⟨fd, F, He.glo_ok X G (c.fact 6 (f := .glo "is_less") rfl)⟩
  · cases hi
    obtain ⟨fd, F⟩ := c.def_ 7 (d := dDef 16 "point_of") rfl
    exact ⟨fd, F, He.glo_ok X G (c.fact 7 (f := .glo "point_of") rfl)⟩
  · cases hi
    obtain ⟨fd, F⟩ := c.def_ 8 (d := dDef 17 "course_to") rfl
    exact ⟨fd, F, He.glo_ok X G (c.fact 8 (f := .glo "course_to") rfl)⟩
  · cases hi
    obtain ⟨fd, F⟩ := c.def_ 9 (d := dDef 18 "side_of") rfl
    exact ⟨fd, F, He.glo_ok X G (c.fact 9 (f := .glo "side_of") rfl)⟩
  · cases hi
    obtain ⟨fd, F⟩ := c.def_ 10 (d := dDef 19 "along") rfl
    exact ⟨fd, F, He.glo_ok X G (c.fact 10 (f := .glo "along") rfl)⟩
  · cases hi
    obtain ⟨fd, F⟩ := c.def_ 11 (d := dDef 20 "overshoot") rfl
    exact ⟨fd, F, He.glo_ok X G (c.fact 11 (f := .glo "overshoot") rfl)⟩
  · cases hi
    obtain ⟨fd, F⟩ := c.def_ 12 (d := dDef 21 "parts_along") rfl
    exact ⟨fd, F, He.glo_ok X G (c.fact 12 (f := .glo "parts_along") rfl)⟩
  · cases hi
    obtain ⟨fd, F⟩ := c.def_ 13 (d := dDef 23 "is_point") rfl
    exact ⟨fd, F, He.glo_ok X G (c.fact 13 (f := .glo "is_point") rfl)⟩
  · cases hi
    obtain ⟨fd, F⟩ := c.def_ 14 (d := dDef 24 "need_point") rfl
    exact ⟨fd, F, He.glo_ok X G (c.fact 14 (f := .glo "need_point") rfl)⟩
  · cases hi
    obtain ⟨fd, F⟩ := c.def_ 15 (d := dDef 27 "shape_hull") rfl
    exact ⟨fd, F, He.glo_ok X G (c.fact 15 (f := .glo "shape_hull") rfl)⟩
  · cases hi
    obtain ⟨fd, F⟩ := c.def_ 16 (d := dDef 28 "half_hull") rfl
    exact ⟨fd, F, He.glo_ok X G (c.fact 16 (f := .glo "half_hull") rfl)⟩
  · cases hi
    obtain ⟨fd, F⟩ := c.def_ 17 (d := dDef 29 "edge_courses") rfl
    exact ⟨fd, F, He.glo_ok X G (c.fact 17 (f := .glo "edge_courses") rfl)⟩
  · cases hi
    obtain ⟨fd, F⟩ := c.def_ 18 (d := dDef 30 "shape_sides") rfl
    exact ⟨fd, F, He.glo_ok X G (c.fact 18 (f := .glo "shape_sides") rfl)⟩
  · cases hi
    obtain ⟨fd, F⟩ := c.def_ 19 (d := dDef 31 "shape_support") rfl
    exact ⟨fd, F, He.glo_ok X G (c.fact 19 (f := .glo "shape_support") rfl)⟩
  · cases hi
    obtain ⟨fd, F⟩ := c.def_ 20 (d := dDef 32 "shape_holds") rfl
    exact ⟨fd, F, He.glo_ok X G (c.fact 20 (f := .glo "shape_holds") rfl)⟩
  · cases hi
    obtain ⟨fd, F⟩ := c.def_ 21 (d := dDef 34 "first_no_point") rfl
    exact ⟨fd, F, He.glo_ok X G (c.fact 21 (f := .glo "first_no_point") rfl)⟩
  · cases hi
    obtain ⟨fd, F⟩ := c.def_ 22 (d := dDef 35 "is_polygon") rfl
    exact ⟨fd, F, He.glo_ok X G (c.fact 22 (f := .glo "is_polygon") rfl)⟩
  · cases hi
    obtain ⟨fd, F⟩ := c.def_ 23 (d := dDef 37 "is_figure") rfl
    exact ⟨fd, F, He.glo_ok X G (c.fact 23 (f := .glo "is_figure") rfl)⟩
  · cases hi
    obtain ⟨fd, F⟩ := c.def_ 24 (d := dDef 38 "need_figure") rfl
    exact ⟨fd, F, He.glo_ok X G (c.fact 24 (f := .glo "need_figure") rfl)⟩
  · cases hi
    obtain ⟨fd, F⟩ := c.def_ 25 (d := dDef 39 "time_and_side") rfl
    exact ⟨fd, F, He.glo_ok X G (c.fact 25 (f := .glo "time_and_side") rfl)⟩
  · cases hi
    obtain ⟨fd, F⟩ := c.def_ 26 (d := dDef 40 "soonest_tacks") rfl
    exact ⟨fd, F, He.glo_ok X G (c.fact 26 (f := .glo "soonest_tacks") rfl)⟩
  · cases hi
    obtain ⟨fd, F⟩ := c.def_ 27 (d := dDef 42 "is_channel") rfl
    exact ⟨fd, F, He.glo_ok X G (c.fact 27 (f := .glo "is_channel") rfl)⟩
  · cases hi
    obtain ⟨fd, F⟩ := c.def_ 28 (d := dDef 43 "need_channel") rfl
    exact ⟨fd, F, He.glo_ok X G (c.fact 28 (f := .glo "need_channel") rfl)⟩
  · cases hi
    obtain ⟨fd, F⟩ := c.def_ 29 (d := dDef 44 "cross_of") rfl
    exact ⟨fd, F, He.glo_ok X G (c.fact 29 (f := .glo "cross_of") rfl)⟩
  · cases hi
    obtain ⟨fd, F⟩ := c.def_ 30 (d := dDef 45 "cross_by") rfl
    exact ⟨fd, F, He.glo_ok X G (c.fact 30 (f := .glo "cross_by") rfl)⟩
  · cases hi
    obtain ⟨fd, F⟩ := c.def_ 31 (d := dDef 46 "rise_and_fall") rfl
    exact ⟨fd, F, He.glo_ok X G (c.fact 31 (f := .glo "rise_and_fall") rfl)⟩
  · cases hi
    obtain ⟨fd, F⟩ := c.def_ 32 (d := dDef 47 "rise_and_fall_by") rfl
    exact ⟨fd, F, He.glo_ok X G (c.fact 32 (f := .glo "rise_and_fall_by") rfl)⟩
  · cases hi
    obtain ⟨fd, F⟩ := c.def_ 33 (d := dDef 49 "_law_sack") rfl
    exact ⟨fd, F, He.glo_ok X G (c.fact 33 (f := .glo "_law_sack") rfl)⟩
  · cases hi
    obtain ⟨fd, F⟩ := c.def_ 34 (d := dDef 50 "_law_draw") rfl
    exact ⟨fd, F, He.glo_ok X G (c.fact 34 (f := .glo "_law_draw") rfl)⟩
  · cases hi
    obtain ⟨fd, F⟩ := c.def_ 35 (d := dDef 51 "_law_one") rfl
    exact ⟨fd, F, He.glo_ok X G (c.fact 35 (f := .glo "_law_one") rfl)⟩
  · cases hi
    obtain ⟨fd, F⟩ := c.def_ 36 (d := dDef 52 "_law_gcd") rfl
    exact ⟨fd, F, He.glo_ok X G (c.fact 36 (f := .glo "_law_gcd") rfl)⟩
  · cases hi
    obtain ⟨fd, F⟩ := c.def_ 37 (d := dDef 53 "_law_ratio") rfl
    exact ⟨fd, F, He.glo_ok X G (c.fact 37 (f := .glo "_law_ratio") rfl)⟩
  · cases hi
    obtain ⟨fd, F⟩ := c.def_ 38 (d := dDef 54 "_law_add") rfl
    exact ⟨fd, F, He.glo_ok X G (c.fact 38 (f := .glo "_law_add") rfl)⟩
  · cases hi
    obtain ⟨fd, F⟩ := c.def_ 39 (d := dDef 55 "_law_spot") rfl
    exact ⟨fd, F, He.glo_ok X G (c.fact 39 (f := .glo "_law_spot") rfl)⟩
  · cases hi
    obtain ⟨fd, F⟩ := c.def_ 40 (d := dDef 56 "_law_said") rfl
    exact ⟨fd, F, He.glo_ok X G (c.fact 40 (f := .glo "_law_said") rfl)⟩
  · cases hi
    obtain ⟨fd, F⟩ := c.def_ 41 (d := dDef 57 "_law_bend") rfl
    exact ⟨fd, F, He.glo_ok X G (c.fact 41 (f := .glo "_law_bend") rfl)⟩
  · cases hi
    obtain ⟨fd, F⟩ := c.def_ 42 (d := dDef 58 "_law_chain") rfl
    exact ⟨fd, F, He.glo_ok X G (c.fact 42 (f := .glo "_law_chain") rfl)⟩
  · cases hi
    obtain ⟨fd, F⟩ := c.def_ 43 (d := dDef 59 "_law_rim") rfl
    exact ⟨fd, F, He.glo_ok X G (c.fact 43 (f := .glo "_law_rim") rfl)⟩
  · cases hi
    obtain ⟨fd, F⟩ := c.def_ 44 (d := dDef 60 "_law_boat") rfl
    exact ⟨fd, F, He.glo_ok X G (c.fact 44 (f := .glo "_law_boat") rfl)⟩
  · cases hi
    obtain ⟨fd, F⟩ := c.def_ 45 (d := dDef 61 "_law_dot") rfl
    exact ⟨fd, F, He.glo_ok X G (c.fact 45 (f := .glo "_law_dot") rfl)⟩
  · cases hi
    obtain ⟨fd, F⟩ := c.def_ 46 (d := dDef 62 "_law_parts") rfl
    exact ⟨fd, F, He.glo_ok X G (c.fact 46 (f := .glo "_law_parts") rfl)⟩
  · cases hi
    obtain ⟨fd, F⟩ := c.def_ 47 (d := dDef 63 "_law_normal") rfl
    exact ⟨fd, F, He.glo_ok X G (c.fact 47 (f := .glo "_law_normal") rfl)⟩
  · cases hi
    obtain ⟨fd, F⟩ := c.def_ 48 (d := dDef 64 "_law_channel") rfl
    exact ⟨fd, F, He.glo_ok X G (c.fact 48 (f := .glo "_law_channel") rfl)⟩
  · cases hi
    obtain ⟨fd, F⟩ := c.def_ 49 (d := dDef 65 "_law_growth") rfl
    exact ⟨fd, F, He.glo_ok X G (c.fact 49 (f := .glo "_law_growth") rfl)⟩
  · cases hi
    obtain ⟨fd, F⟩ := c.def_ 50 (d := dDef 66 "_law_way") rfl
    exact ⟨fd, F, He.glo_ok X G (c.fact 50 (f := .glo "_law_way") rfl)⟩
  · cases hi
    obtain ⟨fd, F⟩ := c.def_ 51 (d := dDef 67 "_law_right") rfl
    exact ⟨fd, F, He.glo_ok X G (c.fact 51 (f := .glo "_law_right") rfl)⟩
  · cases hi
    obtain ⟨fd, F⟩ := c.def_ 52 (d := dDef 68 "law") rfl
    exact ⟨fd, F, He.glo_ok X G (c.fact 52 (f := .glo "law") rfl)⟩
  · cases hi
def adA (K : PySem.W.Frag) (i : Nat) : Addr := He.ga K ((nmOf i).getD Str.empty)
theorem pgFacts (X : K.In h) (G : h.Ns mainGlobals mg) (c : He.SaysD fa fn K) : ∃ Dd : Nat → FuncData, Pg K mg (adA K) Dd := by
  obtain ⟨fd0, _⟩ := c.def_ 0 (d := dDef 9 "is_whole") rfl
  have p : ∀ i : Nat, ∃ fd, ∀ x, nmOf i = some x → FnP K x (top i) (He.ga K x) fd ∧ mg x = some (.ref (He.ga K x)) := fun i => by
    cases q : nmOf i with
    | none => exact ⟨fd0, fun x z => nomatch z⟩
    | some y =>
      obtain ⟨fd, k⟩ := rowD X G c i y q
      exact ⟨fd, fun x z => by cases z; exact k⟩
  obtain ⟨Dd, hD⟩ := Classical.axiomOfChoice p
  refine ⟨Dd, ⟨fun i x e => ?_⟩⟩
  have z := hD i x e
  unfold adA
  rw [e]
  exact z
theorem nmFacts (X : K.In h) (G : h.Ns mainGlobals mg) (hx0 : ex K = true) (c : He.SaysD fa fn K) : Nm K mg := by
  have hx : ∀ b ∈ exs K, b = true := fun b hb => by
    have := List.all_eq_true.mp hx0 b hb
    exact this
  exact ⟨He.free_ok X G (c.fact 53 (f := .free "abs") rfl), He.free_ok X G (c.fact 54 (f := .free "all") rfl), He.free_ok X G (c.fact 55 (f := .free "bool") rfl), He.free_ok X G (c.fact 56 (f := .free "divmod") rfl), He.free_ok X G (c.fact 57 (f := .free "enumerate") rfl), He.free_ok X G (c.fact 58 (f := .free "int") rfl), He.free_ok X G (c.fact 59 (f := .free "isinstance") rfl), He.free_ok X G (c.fact 60 (f := .free "len") rfl), He.free_ok X G (c.fact 61 (f := .free "list") rfl), He.free_ok X G (c.fact 62 (f := .free "max") rfl), He.free_ok X G (c.fact 63 (f := .free "min") rfl), He.free_ok X G (c.fact 64 (f := .free "range") rfl), He.free_ok X G (c.fact 65 (f := .free "repr") rfl), He.free_ok X G (c.fact 66 (f := .free "set") rfl), He.free_ok X G (c.fact 67 (f := .free "sorted") rfl), He.free_ok X G (c.fact 68 (f := .free "tuple") rfl), He.free_ok X G (c.fact 69 (f := .free "zip") rfl), PySem.W.mg_of X G (He.eqO_ok (hx _ (List.mem_of_getElem? (i := 0) rfl))), PySem.W.mg_of X G (He.eqO_ok (hx _ (List.mem_of_getElem? (i := 1) rfl))), cst_ok X G (hx _ (List.mem_of_getElem? (i := 2) rfl)), cst_ok X G (hx _ (List.mem_of_getElem? (i := 3) rfl)), cst_ok X G (hx _ (List.mem_of_getElem? (i := 4) rfl))⟩
theorem lawFacts (X : K.In h) (G : h.Ns mainGlobals mg) {f : Addr} (hfa : mg "law" = some (.ref f)) (hx : ex K = true) (c : He.SaysD fa fn K) :
    ∃ fd : FuncData, (∀ (s : Shared) (v : Value), BindsTo s fd ⟨[v], []⟩ [("_law_script", v)]) ∧ ∀ base : Heap, K.In base → base.Ns mainGlobals mg → FnG P w K mg base CX0 10 f fd ["_law_script"] (spF K f_law) := by
  obtain ⟨Dd, T⟩ := pgFacts X G c
  have N := nmFacts X G hx c
  have e := hfa.symm.trans (T.fn 68 "law" rfl).2
  cases e
  have b := FunD.bindsA (ps := ["_law_script"]) (T.fn 68 "law" rfl).1 fun _ _ _ _ _ _ us hl => match us, hl with | [_], _ => rfl
  exact ⟨Dd 68, fun s v => b s [v] rfl, fun base _ _ => ok_law T N⟩
end
end K50
open PySem PySem.W PySem.Calls PyProof.Rows
theorem PySem.Challenge.cw_windfigure_k50_whole_rise_and_fall_of_wa_holds : PySem.Challenge.rw_windfigure_k50_whole_rise_and_fall_of_wa.Holds := by
  w_on; o_law
  refine HandSHeadRun.head_imp (r := OpenLaw.row PySem.Challenge.rw_windfigure_k50_whole_rise_and_fall_of_wa) (q := view (OpenLaw.row PySem.Challenge.rw_windfigure_k50_whole_rise_and_fall_of_wa).prog [0, 68]) (H := K1.hookQ K50.fa K50.fn K50.ex) (ob := K50.ob) (M := 40000) (loose := K50.loose) (d := HandSHeadRun.topDef (OpenLaw.row PySem.Challenge.rw_windfigure_k50_whole_rise_and_fall_of_wa).prog 68) (kwd := []) K50.ob_eq K50.run
    (by kernel_rfl) (by kernel_rfl) (by kernel_rfl) (by rfl) (by first | assumption | decide +kernel) (by decide +kernel) ⟨rfl, rfl, rfl, rfl, rfl, by decide +kernel⟩ ?hw ?hc
  case hw => w_witness2
  case hc =>
    refine PL.walkG (l := PySem.Challenge.rw_windfigure_k50_whole_rise_and_fall_of_wa) (n := 63) (k := 10) (x := "_law_script") rfl (by decide) (by kernel_rfl) ⟨rfl, by decide, by decide⟩ ?F
    intro w mg fa h Y G hmg0
    obtain ⟨K, KX, hx, c⟩ := Y
    have hmg : mg ("law" : PySem.Str) = some (.ref fa) := by
      have e : (HandSHeadRun.topDef (OpenLaw.row PySem.Challenge.rw_windfigure_k50_whole_rise_and_fall_of_wa).prog 68).name = ("law" : PySem.Str) := by kernel_rfl
      rw [← e]
      exact hmg0
    obtain ⟨fd, hb, hF⟩ := K50.lawFacts (P := (PySem.Challenge.rw_windfigure_k50_whole_rise_and_fall_of_wa).prog) (w := w) KX G hmg hx c
    exact ⟨K, fd, PL.spF K K50.f_law, KX, hb, fun H a ns hl hz _ hS => PL.spF_law K50.law_true H a ns hl hz hS, hF⟩
