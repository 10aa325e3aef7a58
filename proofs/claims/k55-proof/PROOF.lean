import PyProof.Rows.All
import Wide.All
import OpenK.AllK
import Wide.FinOn
import HandS.Head0
import HandS.Head1
import HandS.Head2
import HandS.HeadHook1
import HandS.HeadHook2
import HandS.HeadHook4
import HandS.Base
import HandS.Call
import HandS.List
import HandS.Defaults
import HandS.Comp
import HandS.Head3
import HandS.EndBits
import HandS.Words
import HandS.NoneIn
import HandS.Wide
import HandS.Gcd
import HandS.IsInst
import HandS.TupLe
import HandS.TupAny
import KE.DataEq
import PyProof.MaxThree
import HandS.WideBits
import HandS.Style
import PySem.PyData
import PySem.Challenge.RW_windfigure_k55_whole_dear_shares_counted
set_option Elab.async false
set_option linter.all false
set_option maxRecDepth 100000
set_option maxHeartbeats 0
namespace K1
open PySem PySem.Spec PyProof.Rows L2
/-! ### a Hook that looks at what the globals reach, and no further -/
def refsQ (o : Obj) : List Addr := match o.data with
  | .dict es _ => es.toList.flatMap fun e => He.refV e.val
  | .cls cd => [cd.ns]
  | .func fd => He.refV fd.code
  | _ => []
def stepQ (g : Addr → Option Obj) : List Addr → List Addr
  | [] => []
  | a :: r => (match g a with
    | some o => refsQ o
    | none => []) ++ stepQ g r
def asQ (g : Addr → Option Obj) : List Addr :=
  mainGlobals :: (stepQ g [mainGlobals] ++ (stepQ g (stepQ g [mainGlobals]) ++ (stepQ g (stepQ g (stepQ g [mainGlobals])) ++ stepQ g (stepQ g (stepQ g (stepQ g [mainGlobals]))))))
/-- a list of addresses, each one reckoned, then k -/
def evL {α : Type} : List Addr → (List Addr → α) → α
  | [], k => k []
  | a :: r, k => HandSHeadRun.frNat a fun a => evL r fun r => k (a :: r)
theorem evL_eq {α : Type} : ∀ (l : List Addr) (k : List Addr → α), evL l k = k l
  | [], _ => rfl
  | a :: r, k => by
    show HandSHeadRun.frNat a (fun a => evL r fun r => k (a :: r)) = k (a :: r)
    rw [HandSHeadRun.frNat_eq, evL_eq r]
/-- the fragment, entry by entry, then k -/
def evK {α : Type} (g : Addr → Option Obj) : List Addr → (PySem.W.Frag → α) → α
  | [], k => k []
  | a :: r, k => match g a with
    | some o => evK g r fun K => k ((a, o) :: K)
    | none => evK g r k
theorem evK_eq {α : Type} (g : Addr → Option Obj) : ∀ (l : List Addr) (k : PySem.W.Frag → α), evK g l k = k (He.frG g l)
  | [], _ => rfl
  | a :: r, k => by
    unfold evK He.frG
    rw [List.filterMap_cons]
    cases h : g a with
    | none =>
      show evK g r k = _
      rw [evK_eq g r]
      rfl
    | some o =>
      show evK g r (fun K => k ((a, o) :: K)) = _
      rw [evK_eq g r]
      rfl
abbrev AlQ : Type := Bool × He.AlD
def obsQ (fa : List He.Fa) (fn : List He.DefD) (ex : PySem.W.Frag → Bool) (g : Addr → Option Obj) : AlQ :=
  evL (asQ g) fun l => evK g l fun K => (ex K, He.obsD fa fn K)
theorem obsQ_is {fa : List He.Fa} {fn : List He.DefD} {ex : PySem.W.Frag → Bool} {g : Addr → Option Obj} : obsQ fa fn ex g = (ex (He.frG g (asQ g)), He.obsD fa fn (He.frG g (asQ g))) := by
  unfold obsQ
  rw [evL_eq, evK_eq]
def hookQ (fa : List He.Fa) (fn : List He.DefD) (ex : PySem.W.Frag → Bool) : PySem.W.Hook where
  α := AlQ
  obs := fun s => obsQ fa fn ex s.heap.get?
  val := fun _ => (true, He.valD fn)
  says := fun _ h => ∃ K : PySem.W.Frag, K.In h ∧ ex K = true ∧ He.SaysD fa fn K
  of := fun _ _ e => by
    rw [obsQ_is] at e
    exact ⟨_, He.frG_in, congrArg Prod.fst e, congrArg Prod.snd e⟩
  keeps := fun _ _ _ ⟨K, hK, c⟩ k => ⟨K, PySem.W.Frag.In.keeps hK k, c⟩
theorem obsQ_eq {fa : List He.Fa} {fn : List He.DefD} {ex : PySem.W.Frag → Bool} {g : Addr → Option Obj} {s : Shared} (h : ∀ a, g a = s.heap.get? a) : obsQ fa fn ex g = (hookQ fa fn ex).obs s := by
  have e : g = s.heap.get? := funext h
  rw [e] <;> rfl
end K1
namespace PL
open PySem PySem.Spec PyProof.Rows L2
/-! ### defs that ask for repr: called where no repr is under way -/
structure FnG (P : Program) (w : World) (K : PySem.W.Frag) (mg : Str → Option Value) (base : Heap) (CX : CXT) (k : Nat) (f : Addr) (fd : FuncData) (ps : List Str) (sp : Sp) : Prop where
  len : ∀ vs H Q E, sp vs H Q E → vs.length = ps.length
  run : ∀ (A : Around) (outer : List Env) (s : Shared) (H : Hp) (args : Args) (us : List Value) (vs : List V) (Q : VK) (E : XK), A.guards = some [] → Room k A → Env0 P w K mg base A outer s H → BindsTo s fd args (ps.zip us) → Vals vs us →
    sp vs H Q E → codeAny (model P w) A (.call (.ref f) args) (CR CX outer P w H s Q E) s
section
variable {P : Program} {w : World} {K : PySem.W.Frag} {mg : Str → Option Value} {base : Heap}
theorem fnG_of {CX : CXT} {k : Nat} {f : Addr} {nm qu : Str} {pars : Arguments} {bd : List Stmt} {sc : Scope} {dvs : List V} {kws : List (Str × V)} {fd : FuncData} {N ps : List Str} {sp : Sp}
    (F : FunD K nm qu pars bd sc dvs kws f fd) (S : FnScope N ps sc) (len : ∀ vs H Q E, sp vs H Q E → vs.length = ps.length)
    (body : ∀ (cdv : Value) (A : Around) (outer : List Env) (s : Shared) (H : Hp) (vs : List V) (Q : VK) (E : XK), (cxOf CX P w K mg base N qu sc f cdv A outer s H E).A.guards = some [] →
      Room k (A.deeper (envOfC qu sc s.heap.objs.size f cdv)) → sp vs H Q E →
      ∃ t, PSs (cxOf CX P w K mg base N qu sc f cdv A outer s H E) bd t ∧ t { nx := fun _ H' => Q .non H', rt := Q } (start N vs) H) : FnG P w K mg base CX (k + 1) f fd ps sp := by
  obtain ⟨oc, od, dV, kV, doc, pm, an, cdv, ct, osl, rfl, lk, hcd, _, _⟩ := F.ex
  refine ⟨len, fun A outer s H args us vs Q E hgd hr e0 hb r hsp => ?_⟩
  have hl := len _ _ _ _ hsp
  have kin : K.In s.heap := e0.mod.kin.keeps fun b o e => (e0.bs b o e).1
  have nol : s.heap.NoLimit := e0.mod.nolimit.keeps fun b o e => (e0.bs b o e).1
  have kinds : ∀ y ∈ ps.zip us, sc.names.lookup y.1 = some .local ∨ (sc.names.lookup y.1 = some .cell ∧ ((cellsFrom (s.heap.objs.size + 1) sc.names []).lookup y.1).isSome = true) := by
    rintro ⟨n, v⟩ hy
    rcases S.par n (List.of_mem_zip hy).1 with q | q
    · exact .inl q
    · exact .inr ⟨q, PySem.W.cellsFrom_some _ _ _ (.inl q)⟩
  refine codeAny_call_function hr.depth (kin _ _ lk) rfl S.co S.gen rfl (PySem.W.codeRec_of kin hcd) (hb _ _ _ _ ?_)
  refine wpAny_newFunctionEnv_cells S.kind kinds fun env he sB x => ?_
  subst he
  refine ⟨nol.keeps x.toInCall.keep, codeAny_func ?_⟩
  obtain ⟨t, ht, hq⟩ := body cdv A outer s H vs Q E hgd (hr.deeper _) hsp
  have I : Inv (cxOf CX P w K mg base N qu sc f cdv A outer s H E) [] (start N vs) H sB := inv_start S hr.hd e0 hl r x
  refine wpAny_mono (ht.run [] sB (start N vs) H _ I hq) (fun fl s' hs => ?_) fun e s' hs => hs
  have fin : ∀ {σ' : L2.St} {H' : Hp} {v : V} {u : Value}, Inv (cxOf CX P w K mg base N qu sc f cdv A outer s H E) [] σ' H' s' → RelV v u → Q v H' → CE outer P w H s Q u s' :=
    fun {_ H' v _} J rv q => ⟨v, H', J.os, J.bare, J.base, J.hok, rv, q⟩
  cases fl with
  | ret u =>
    obtain ⟨v, σ', H', J, rv, q⟩ := hs
    exact fin J rv q
  | next =>
    obtain ⟨σ', H', J, q⟩ := hs
    exact fin (v := V.non) (u := Value.none) J rfl q
  | brk =>
    obtain ⟨_, _, _, q⟩ := hs
    exact q.elim
  | cont =>
    obtain ⟨_, _, _, q⟩ := hs
    exact q.elim
end
section
variable {X : Cx} {k : Nat} {f : Addr} {fd : FuncData} {ps : List Str} {sp : Sp} {x : Str} {p pos : Pos} {e : Expr} {es : List Expr} {t : TA}
theorem runG {pins : List (Addr × Obj)} {σ : L2.St} {H : Hp} {s : Shared} {Q : VK} {us : List Value} {vs : List V} (F : FnG X.prog X.w X.K X.mg X.base CX0 k f fd ps sp) (hgd : X.A.guards = some []) (hr : Room k X.A) (hb : Binds X.K fd ps [])
    (I : Inv X pins σ H s) (r : Vals vs us) (h : sp vs H Q E0) : wpAny (model X.prog X.w) X.A (call (.ref f) us) (EP X pins σ Q) X.xe s := by
  have hl : us.length = ps.length := by rw [← r.length]; exact F.len _ _ _ _ h
  have b := hb s us I.kIn (by rw [List.append_nil]; exact hl)
  rw [List.append_nil] at b
  refine wpAny_call (codeAny_mono (F.run X.A X.stack s H ⟨us, []⟩ us vs Q E0 hgd hr I.env0 b r h) fun r s' hq => ?_)
  cases r with
  | error e => exact hq.elim
  | ok fl =>
    cases fl with
    | ret u => exact I.after hq
    | next => exact hq.elim
    | brk => exact hq.elim
    | cont => exact hq.elim
theorem pe_callG (F : FnG X.prog X.w X.K X.mg X.base CX0 k f fd ps sp) (hgd : X.A.guards = some []) (hr : Room k X.A) (hg : Gl X x) (hm : X.mg x = some (.ref f)) (hk : PySem.W.keepIn X.K (.ref f) = true) (hb : Binds X.K fd ps [])
    (ha : PA X (e :: es) t) (hdb : (x == ("__debug__" : Str)) = false := by decide) (he : starEach (e :: es) X.env = (false, eval e X.env) :: starEach es X.env := by rfl) (hpl : (backTo pos (starEach es X.env)).any (·.1) = false := by rfl) :
    PE X (.Call (.Name x p) (e :: es) [] pos) (tCall sp [] E0 t) := by
  refine ⟨fun pins s σ H Q I h => ?_⟩
  refine wpAny_Call_Name_kw (ld_glob I hg hm ?_ hdb)
  refine PySem.W.callWith_K (h₀ := X.base) I.ok.mod.kin hk (thn (ha.run pos pins s σ H _ I h) fun us sA ⟨vs, H1, I1, r, q⟩ => ⟨I1.kIn, ?_⟩) he hpl
  have q2 : sp (vs ++ []) H1 Q E0 := q
  rw [List.append_nil] at q2
  exact runG F hgd hr hb I1 r q2
end
/-! ### repr of data -/
/-- v shows as d in H: data of any depth, or an empty dict -/
def Shows (K : PySem.W.Frag) (H : Hp) (v : V) (d : PyData) : Prop := Dp K H v d ∨ ∃ a, v = .ref a ∧ d = .dict [] ∧ H a = some (.dK [])
def rRepr (K : PySem.W.Frag) : List V → Hp → VK → Prop := fun xs H Q => ∃ (v : V) (d : PyData), xs = [v] ∧ Shows K H v d ∧ d.showable = true ∧ d.depth ≤ 60 ∧ d.shown.length ≤ sizeLine ∧ Q (.str d.shown) H
theorem dp_noDict {K : PySem.W.Frag} {H : Hp} : (∀ (d : PyData) (v : V), Dp K H v d → d.hasDict = false) ∧ ∀ (ds : List PyData) (vs : List V), DpAll K H vs ds → PyData.hasDictAll ds = false := by
  have key : ∀ (n : Nat), (∀ (d : PyData) (v : V), sizeOf d ≤ n → Dp K H v d → d.hasDict = false) ∧ ∀ (ds : List PyData) (vs : List V), sizeOf ds ≤ n → DpAll K H vs ds → PyData.hasDictAll ds = false := by
    intro n
    induction n with
    | zero =>
      refine ⟨fun d v hz _ => ?_, fun ds vs hz _ => ?_⟩
      · cases d <;> simp at hz <;> omega
      · cases ds <;> simp at hz <;> omega
    | succ n ih =>
      refine ⟨fun d v hz h => ?_, fun ds vs hz h => ?_⟩
      · cases h with
        | non => rfl
        | bl b => rfl
        | int i => rfl
        | str x => rfl
        | lst hs ha =>
          rename_i ds
          unfold PyData.hasDict
          exact ih.2 _ _ (by simp at hz; omega) ha
        | tup hs ha =>
          rename_i ds
          unfold PyData.hasDict
          exact ih.2 _ _ (by simp at hz; omega) ha
      · cases h with
        | nil => rfl
        | cons h1 h2 =>
          unfold PyData.hasDictAll
          rw [ih.1 _ _ (by simp at hz; omega) h1, ih.2 _ _ (by simp at hz; omega) h2]
          rfl
  exact ⟨fun d v h => (key _).1 d v (Nat.le_refl _) h, fun ds vs h => (key _).2 ds vs (Nat.le_refl _) h⟩
theorem call_reprD {X : Cx} (hgd : X.A.guards = some []) (hu : X.A.units + 64 < cLine) : CallR X (.builtin "repr") (rRepr X.K) := by
  intro pins s σ H xs us Q I r h
  obtain ⟨v, d, rfl, hd, hs, hdp, hz, q⟩ := h
  obtain ⟨u, rfl, ru⟩ := vals1 r
  rcases hd with hd | ⟨a, rfl, rfl, ha⟩
  · obtain ⟨as, rd⟩ := Dp.reads I d v u hd ru
    have hnd := dp_noDict.1 d v hd
    cases rd with
    | none => exact PySem.P.repr_of_none ⟨.str _, H, I.tok _, ⟨_, rfl⟩, q⟩
    | bool b => exact PySem.P.repr_of_bool ⟨.str _, H, I.tok _, ⟨_, rfl⟩, by cases b <;> exact q⟩
    | int i t => exact PySem.P.repr_of_int (by simpa [PyData.showable] using hs) ⟨.str _, H, I.tok _, ⟨_, rfl⟩, q⟩
    | str x t => exact PySem.P.repr_of_str ⟨.str _, H, I.tok _, ⟨_, rfl⟩, q⟩ hz
    | list h1 h2 h3 h4 => exact repr_of_reads' (Reads.list h1 h2 h3 h4) hs (fun z => by rw [hnd] at z; cases z) hgd (by omega) (fun _ _ e => e) (fun h' t' tk kp => ⟨.str _, H, I.kept kp, ⟨_, rfl⟩, q⟩) hz
    | tuple h1 h2 h3 h4 => exact repr_of_reads' (Reads.tuple h1 h2 h3 h4) hs (fun z => by rw [hnd] at z; cases z) hgd (by omega) (fun _ _ e => e) (fun h' t' tk kp => ⟨.str _, H, I.kept kp, ⟨_, rfl⟩, q⟩) hz
    | dict h1 h2 h3 h4 h5 => exact absurd hnd (by simp [PyData.hasDict])
  · obtain rfl : u = Value.ref a := ru
    obtain ⟨_, hsm, vs, kv, hdo⟩ := I.hok a _ ha
    cases kv
    obtain ⟨o, es, ep, ho, hex, hdat, hes, hpr, _⟩ := hdo
    have he : es.toList = [] := by
      generalize es.toList = l at hpr
      cases hpr
      rfl
    have rd : Reads s.heap (.ref a) (.dict []) (a :: [] ++ []) := by
      refine Reads.dict ho hex.1 hdat ?_ ?_
      · rw [he]; exact ReadsAll.nil
      · rw [he]; exact ReadsAll.nil
    exact repr_of_reads' rd hs (fun _ z => by
      have z2 : sysModules = a := by simpa using z
      rw [z2] at hsm
      simp at hsm) hgd (by omega) (fun _ _ e => e) (fun h' t' tk kp => ⟨.str _, H, I.kept kp, ⟨_, rfl⟩, q⟩) hz
/-! ### the law's own head, its def asking for repr -/
theorem callLawG {P : Program} {w : World} {K : PySem.W.Frag} {mg mb : Str → Option Value} {k : Nat} {fa a : Addr} {fd : FuncData} {x : Str} {sp : Sp} {sB : Shared} {vs : List Value} {ns : List Int}
    (kin : K.In sB.heap) (hns : sB.heap.Ns mainGlobals mg) (hbn : sB.heap.Ns builtinsNs mb) (hbb : ∀ x : Str, x ≠ "__name__" → mb x = bootBuiltins x) (nol : sB.heap.NoLimit) (hgen : sB.gens = #[])
    (hobj : sB.heap.get? a = some { cls := .type "list", data := .seq vs.toArray }) (hints : IntsAre vs ns) (hlen : ns.length ≤ sizeLine) (hr : Room k callerA)
    (F : ∀ base : Heap, K.In base → base.Ns mainGlobals mg → FnG P w K mg base CX0 k fa fd [x] sp) (hbind : ∀ (s : Shared) (u : Value), BindsTo s fd ⟨[u], []⟩ [(x, u)])
    (hsp : ∀ H : Hp, Only H → SqL K H a (ns.map V.int) → sp [.ref a] H (fun v _ => v = .bl true) E0) :
    codeAny (model P w) callerA (.call (.ref fa) ⟨[.ref a], []⟩) (fun r s' => r = .ok (.ret (.bool true)) ∧ OldK sB.heap s'.heap ∧ s'.os = sB.os ∧ AllBare s'.gens) sB := by
  have rv := vals_ints hints
  have lenV := hints.length
  have main : ∀ H : Hp, Only H → SqL K H a (ns.map V.int) → HOk P w H sB.heap → (∀ b, H b ≠ none → b = a) → (H a ≠ none → K.lookup a = none) →
      codeAny (model P w) callerA (.call (.ref fa) ⟨[.ref a], []⟩) (fun r s' => r = .ok (.ret (.bool true)) ∧ OldK sB.heap s'.heap ∧ s'.os = sB.os ∧ AllBare s'.gens) sB := by
    intro H only seq hok onlyA noK
    have hid : ∀ {b : Addr} {o : Obj}, sB.heap.get? b = some o → H b = none → (hidT sB.heap H).get? b = some o := fun e n => hidT_get e n
    have noD : ∀ {b : Addr} {o : Obj} {es : Array DictEntry} {ep : Nat}, sB.heap.get? b = some o → o.data = .dict es ep → H b = none := by
      intro b o es ep e d
      cases q : H b with
      | none => rfl
      | some u =>
        have e' : b = a := onlyA b (by rw [q]; simp)
        subst e'
        rw [hobj] at e
        cases e
        have d' : Data.seq vs.toArray _ = Data.dict es ep := d
        cases d'
    have nsOf : ∀ {b : Addr} {m : Str → Option Value}, sB.heap.Ns b m → (hidT sB.heap H).Ns b m := fun {_ _} ⟨o, es, ep, e, d, r⟩ => ⟨o, es, ep, hid e (noD e d), d, r⟩
    have kinB : K.In (hidT sB.heap H) := by
      intro b o e
      refine hid (kin b o e) ?_
      cases q : H b with
      | none => rfl
      | some u =>
        have e' : b = a := onlyA b (by rw [q]; simp)
        subst e'
        rw [noK (by rw [q]; simp)] at e
        cases e
    obtain ⟨mc, l1, l2⟩ := nol
    have hM : Mod K mg (hidT sB.heap H) := ⟨kinB, nsOf hns, ⟨mb, nsOf hbn, hbb⟩, ⟨mc, nsOf l1, l2⟩⟩
    have en : Env0 P w K mg (hidT sB.heap H) callerA [] sB H := ⟨rfl, hM, fun b o e => of_hidT e, Nat.le_of_eq (hidT_size _ _), trivial, fun b hb => absurd (show b ∈ ([] : List Addr) from hb) (by simp), hok, .of_eq hgen⟩
    refine codeAny_mono ((F _ kinB (nsOf hns)).run callerA [] sB H ⟨[.ref a], []⟩ [.ref a] [.ref a] _ _ rfl hr en (hbind sB (.ref a)) (.cons rfl .nil) (hsp H only seq)) fun r s' h => ?_
    cases r with
    | error e => exact h.elim
    | ok fl =>
      cases fl with
      | next => exact h.elim
      | brk => exact h.elim
      | cont => exact h.elim
      | ret u =>
        obtain ⟨v, H', os, bare, un, hok', r', q⟩ := h
        have q' : v = .bl true := q
        subst q'
        obtain rfl : u = Value.bool true := r'
        refine ⟨rfl, OldK.of_keep fun b o e => ?_, os, bare⟩
        cases q : H b with
        | none => exact un.keep b o e q (fun z => absurd (show b ∈ ([] : List Addr) from z) (by simp)) (by simp)
        | some u =>
          rcases only b with z | ⟨ob, xs, z⟩
          · rw [q] at z
            cases z
          · have z2 := un.frzs b ob _ z
            obtain ⟨e1, _⟩ := hok b _ z
            obtain ⟨e2, _⟩ := hok' b _ z2
            rw [e] at e1
            cases e1
            exact e2
  cases hk : K.lookup a with
  | some o =>
    have e := kin a o hk
    rw [hobj] at e
    cases e
    exact main (fun _ => none) (fun _ => .inl rfl) (.inr ⟨_, vs.toArray, _, hk, rfl, rfl, rfl, by rw [List.size_toArray, lenV]; exact hlen, by simpa using rv⟩) (fun b u z => by
      have z' : (none : Option HO) = some u := z
      cases z') (fun b z => absurd rfl z) fun z => absurd rfl z
  | none =>
    refine main (fun b => if b = a then some (.frz { cls := .type "list", data := .seq vs.toArray } (.lst (ns.map V.int))) else none) (fun b => ?_) (.inl (.inr ⟨{ cls := .type "list", data := .seq vs.toArray }, if_pos rfl⟩)) (fun b u z => ?_) (fun b z => ?_) fun _ => hk
    · by_cases hb : b = a
      · exact .inr ⟨_, _, if_pos hb⟩
      · exact .inl (if_neg hb)
    · by_cases hb : b = a
      · have z' := (if_pos hb).symm.trans z
        cases z'
        subst hb
        exact ⟨hobj, by rw [List.length_map]; exact hlen, vs, _, rv, hobj⟩
      · have z' := (if_neg hb).symm.trans z
        cases z'
    · by_cases hb : b = a
      · exact hb
      · exact absurd (if_neg hb) z
theorem walkG {l : PySem.W.OpenLaw} {n k : Nat} {q : Program} {loose : List Str} {XP : (Str → Option Value) → Heap → Prop} {YP : World → Heap → Prop} {d : DefRec} {x : Str}
    (hn : l.most = some n) (hn2 : n ≤ sizeLine) (hdf : d.params.defaults = []) (hr : Room k callerA)
    (F : ∀ (w : World) (mg : Str → Option Value) (fa : Addr) (h : Heap), YP w h → h.Ns mainGlobals mg → mg d.name = some (.ref fa) →
      ∃ (K : PySem.W.Frag) (fd : FuncData) (sp : Sp), K.In h ∧ (∀ (s : Shared) (u : Value), BindsTo s fd ⟨[u], []⟩ [(x, u)]) ∧
        (∀ (H : Hp) (a : Addr) (ns : List Int), ns.length ≤ n → (∀ z ∈ ns, Builtin.Int.intBits z ≤ 1048576) → Only H → SqL K H a (ns.map V.int) → sp [.ref a] H (fun v _ => v = .bl true) E0) ∧
        ∀ base : Heap, K.In base → base.Ns mainGlobals mg → FnG l.prog w K mg base CX0 k fa fd [x] sp) :
    PySem.W.WalkO q loose XP YP l.row.toRowW d [] (fun f vs => PySem.call f vs) := by
  refine Att.attach_callB hn hdf fun w sA sB mg mb fa o pm cd doc a vs ns G Y ho hd hcd hmg hobj hints hlen hbits hgen => ?_
  obtain ⟨K, fd, sp, kin, hb, hsp, hF⟩ := F w mg fa _ Y G.T.g hmg
  exact callLawG kin G.T.g G.T.b G.T.builtins G.T.nolimit hgen hobj hints (Nat.le_trans hlen hn2) hr hF hb fun H hO hS => hsp H a ns hlen hbits hO hS
end PL
/-! a pure reading of defs over data: values are PyData, one list may change (the sack), lists of one's own change by name -/
namespace PL
open PySem PySem.Spec PyProof.Rows L2
abbrev D := PyData
abbrev S := List PyData
def Le (G G' : Hp) : Prop := ∀ a o, G a = some o → G' a = some o
theorem Le.refl {G : Hp} : Le G G := fun _ _ h => h
theorem Le.trans {G G1 G2 : Hp} (h : Le G G1) (h' : Le G1 G2) : Le G G2 := fun a o e => h' a o (h a o e)
theorem Rd.up {G G' : Hp} {a : Addr} {u : HO} (l : Le G G') (h : Rd G a u) : Rd G' a u := h.elim (fun e => .inl (l _ _ e)) fun ⟨o, e⟩ => .inr ⟨o, l _ _ e⟩
theorem SqL.up {K : PySem.W.Frag} {G G' : Hp} {a : Addr} {xs : List V} (l : Le G G') (h : SqL K G a xs) : SqL K G' a xs := h.elim (fun e => .inl (Rd.up l e)) .inr
theorem SqT.up {K : PySem.W.Frag} {G G' : Hp} {a : Addr} {xs : List V} (l : Le G G') (h : SqT K G a xs) : SqT K G' a xs := h.elim (fun e => .inl (Rd.up l e)) .inr
section
variable {K : PySem.W.Frag} {G G' : Hp}
mutual
theorem Dp.up (l : Le G G') : ∀ (d : D) (v : V), Dp K G v d → Dp K G' v d
  | .none, _, h => by cases h; exact .non
  | .bool b, _, h => by cases h; exact .bl b
  | .int i, _, h => by cases h; exact .int i
  | .str x, _, h => by cases h; exact .str x
  | .list ds, _, h => by cases h with | lst a b => exact .lst (SqL.up l a) (DpAll.up l ds _ b)
  | .tuple ds, _, h => by cases h with | tup a b => exact .tup (SqT.up l a) (DpAll.up l ds _ b)
  | .dict _, _, h => by cases h
theorem DpAll.up (l : Le G G') : ∀ (ds : List D) (vs : List V), DpAll K G vs ds → DpAll K G' vs ds
  | [], _, h => by cases h; exact .nil
  | d :: ds, _, h => by cases h with | cons a b => exact .cons (Dp.up l d _ a) (DpAll.up l ds _ b)
end
theorem DpAll.length {G : Hp} : ∀ {vs : List V} {ds : List D}, DpAll K G vs ds → vs.length = ds.length
  | _, _, .nil => rfl
  | _, _, .cons _ t => by simp [DpAll.length t]
theorem DpAll.get {G : Hp} : ∀ {vs : List V} {ds : List D} {i : Nat} {d : D}, DpAll K G vs ds → ds[i]? = some d → ∃ v, vs[i]? = some v ∧ Dp K G v d
  | _, _, _, _, .nil, e => by simp at e
  | _, _, 0, _, .cons h t, e => by simp at e; subst e; exact ⟨_, rfl, h⟩
  | _, _, i + 1, _, .cons h t, e => by
    obtain ⟨v, a, b⟩ := DpAll.get (i := i) t (by simpa using e)
    exact ⟨v, by simpa using a, b⟩
theorem DpAll.get' {G : Hp} : ∀ {vs : List V} {ds : List D} {i : Nat} {v : V}, DpAll K G vs ds → vs[i]? = some v → ∃ d, ds[i]? = some d ∧ Dp K G v d
  | _, _, _, _, .nil, e => by simp at e
  | _, _, 0, _, .cons h t, e => by simp at e; subst e; exact ⟨_, rfl, h⟩
  | _, _, i + 1, _, .cons h t, e => by
    obtain ⟨v, a, b⟩ := DpAll.get' (i := i) t (by simpa using e)
    exact ⟨v, by simpa using a, b⟩
theorem DpAll.app {G : Hp} : ∀ {vs ws : List V} {ds es : List D}, DpAll K G vs ds → DpAll K G ws es → DpAll K G (vs ++ ws) (ds ++ es)
  | _, _, _, _, .nil, s => s
  | _, _, _, _, .cons h t, s => .cons h (DpAll.app t s)
theorem DpAll.take {G : Hp} : ∀ {vs : List V} {ds : List D} (n : Nat), DpAll K G vs ds → DpAll K G (vs.take n) (ds.take n)
  | _, _, 0, _ => .nil
  | _, _, _ + 1, .nil => .nil
  | _, _, n + 1, .cons h t => .cons h (DpAll.take n t)
theorem DpAll.drop {G : Hp} : ∀ {vs : List V} {ds : List D} (n : Nat), DpAll K G vs ds → DpAll K G (vs.drop n) (ds.drop n)
  | _, _, 0, h => h
  | _, _, _ + 1, .nil => .nil
  | _, _, n + 1, .cons h t => DpAll.drop n t
theorem DpAll.set {G : Hp} {v : V} {d : D} (h : Dp K G v d) : ∀ {vs : List V} {ds : List D} (n : Nat), DpAll K G vs ds → DpAll K G (vs.set n v) (ds.set n d)
  | _, _, _, .nil => .nil
  | _, _, 0, .cons _ t => .cons h t
  | _, _, n + 1, .cons a t => .cons a (DpAll.set h n t)
theorem DpAll.rev {G : Hp} : ∀ {vs : List V} {ds : List D}, DpAll K G vs ds → DpAll K G vs.reverse ds.reverse
  | _, _, .nil => .nil
  | _, _, .cons h t => by rw [List.reverse_cons, List.reverse_cons]; exact DpAll.app (DpAll.rev t) (.cons h .nil)
end
/-- the sack's mark among data -/
def SACK : D := .dict []
structure Vw (K : PySem.W.Frag) (sk : Option Addr) (G H : Hp) (s : S) : Prop where
  sub : Le G H
  sack : ∀ a, sk = some a → G a = none ∧ ∃ vs, H a = some (.lst vs) ∧ DpAll K G vs s
structure Ex (sk : Option Addr) (G H G' H' : Hp) : Prop where
  gs : Le G G'
  hs : ∀ a o, H a = some o → sk ≠ some a → H' a = some o
  nw : ∀ a o, G' a = some o → G a = some o ∨ H a = none
  th : ∀ a, H' a = none → H a = none
theorem Ex.refl {sk : Option Addr} {G H : Hp} : Ex sk G H G H := ⟨Le.refl, fun _ _ h _ => h, fun _ _ h => .inl h, fun _ h => h⟩
theorem Ex.trans {sk : Option Addr} {G H G1 H1 G2 H2 : Hp} (a : Ex sk G H G1 H1) (b : Ex sk G1 H1 G2 H2) : Ex sk G H G2 H2 :=
  ⟨a.gs.trans b.gs, fun x o e n => b.hs x o (a.hs x o e n) n, fun x o e => (b.nw x o e).elim (fun z => a.nw x o z) fun z => .inr (a.th x z), fun x e => a.th x (b.th x e)⟩
/-- new objects alone -/
structure Grow (G H G' H' : Hp) : Prop where
  gs : Le G G'
  hs : Le H H'
  nw : ∀ a o, G' a = some o → G a = some o ∨ H a = none
  sub : Le G' H'
theorem Grow.refl {G H : Hp} (h : Le G H) : Grow G H G H := ⟨Le.refl, Le.refl, fun _ _ e => .inl e, h⟩
theorem Grow.trans {G H G1 H1 G2 H2 : Hp} (a : Grow G H G1 H1) (b : Grow G1 H1 G2 H2) : Grow G H G2 H2 :=
  ⟨a.gs.trans b.gs, a.hs.trans b.hs, fun x o e => (b.nw x o e).elim (fun z => a.nw x o z) fun z => .inr (by
    cases q : H x with
    | none => rfl
    | some u => rw [a.hs x u q] at z; cases z), b.sub⟩
theorem Grow.new {G H : Hp} (h : Le G H) {p : Addr} (hp : H p = none) (o : HO) : Grow G H (upd G p o) (upd H p o) := by
  have gp : G p = none := by
    cases q : G p with
    | none => rfl
    | some u => rw [h p u q] at hp; cases hp
  refine ⟨fun a u e => ?_, fun a u e => ?_, fun a u e => ?_, fun a u e => ?_⟩
  · rw [upd_ne (ne_of_none e gp)]; exact e
  · rw [upd_ne (ne_of_none e hp)]; exact e
  · by_cases z : a = p
    · subst z; exact .inr hp
    · rw [upd_ne z] at e; exact .inl e
  · by_cases z : a = p
    · subst z; rw [upd_same] at e ⊢; exact e
    · rw [upd_ne z] at e ⊢; exact h a u e
theorem Grow.ex {G H G' H' : Hp} (g : Grow G H G' H') (sk : Option Addr) : Ex sk G H G' H' :=
  ⟨g.gs, fun a o e _ => g.hs a o e, g.nw, fun a e => by
    cases q : H a with
    | none => rfl
    | some u => rw [g.hs a u q] at e; cases e⟩
theorem Grow.vw {K : PySem.W.Frag} {sk : Option Addr} {G H G' H' : Hp} {s : S} (g : Grow G H G' H') (v : Vw K sk G H s) : Vw K sk G' H' s :=
  ⟨g.sub, fun a e => by
    obtain ⟨n, vs, h1, h2⟩ := v.sack a e
    refine ⟨?_, vs, g.hs a _ h1, DpAll.up g.gs _ _ h2⟩
    cases q : G' a with
    | none => rfl
    | some u =>
      rcases g.nw a u q with z | z
      · rw [n] at z; cases z
      · rw [h1] at z; cases z⟩
def Dq (K : PySem.W.Frag) (sk : Option Addr) (G : Hp) (v : V) (d : D) : Prop := Dp K G v d ∨ (d = SACK ∧ ∃ a, sk = some a ∧ v = .ref a)
theorem Dq.up {K : PySem.W.Frag} {sk : Option Addr} {G G' : Hp} {v : V} {d : D} (l : Le G G') (h : Dq K sk G v d) : Dq K sk G' v d := h.elim (fun z => .inl (Dp.up l d v z)) .inr
/-- data, not the sack -/
def isD : D → Bool
  | .dict _ => false
  | _ => true
theorem Dq.dp {K : PySem.W.Frag} {sk : Option Addr} {G : Hp} {v : V} {d : D} (h : Dq K sk G v d) (n : isD d = true) : Dp K G v d := h.elim id fun ⟨e, _⟩ => by subst e; cases n
inductive Cell where
  | fz (d : D) | ow (ds : List D)
abbrev Env := List (Option Cell)
structure ER (K : PySem.W.Frag) (sk : Option Addr) (G H : Hp) (σ : L2.St) (ρ : Env) : Prop where
  len : σ.length = ρ.length
  fz : ∀ (i : Nat) (d : D), ρ[i]? = some (some (Cell.fz d)) → ∃ v, σ[i]? = some (some v) ∧ Dq K sk G v d
  ow : ∀ (i : Nat) (ds : List D), ρ[i]? = some (some (Cell.ow ds)) → ∃ a vs, σ[i]? = some (some (V.ref a)) ∧ H a = some (.lst vs) ∧ G a = none ∧ sk ≠ some a ∧ DpAll K G vs ds
  ne : ∀ (i j : Nat) (ds es : List D) (a : Addr), i ≠ j → ρ[i]? = some (some (Cell.ow ds)) → ρ[j]? = some (some (Cell.ow es)) → σ[i]? = some (some (V.ref a)) → σ[j]? ≠ some (some (V.ref a))
theorem Ex.free {sk : Option Addr} {G H G' H' : Hp} (e : Ex sk G H G' H') {a : Addr} {o : HO} (h1 : H a = some o) (h2 : G a = none) : G' a = none := by
  cases q : G' a with
  | none => rfl
  | some u =>
    rcases e.nw a u q with z | z
    · rw [h2] at z; cases z
    · rw [h1] at z; cases z
theorem ER.ex {K : PySem.W.Frag} {sk : Option Addr} {G H G' H' : Hp} {σ : L2.St} {ρ : Env} (r : ER K sk G H σ ρ) (e : Ex sk G H G' H') : ER K sk G' H' σ ρ :=
  ⟨r.len, fun i d q => let ⟨v, a, b⟩ := r.fz i d q; ⟨v, a, b.up e.gs⟩, fun i ds q => by
    obtain ⟨a, vs, h1, h2, h3, h4, h5⟩ := r.ow i ds q
    exact ⟨a, vs, h1, e.hs a _ h2 h4, e.free h2 h3, h4, DpAll.up e.gs _ _ h5⟩, r.ne⟩
abbrev M (α : Type) := Env → S → Option (α × S)
/-- an expression's worth -/
def tP (K : PySem.W.Frag) (F : M D) : TE := fun σ H Q => ∃ sk G ρ s d s', Vw K sk G H s ∧ ER K sk G H σ ρ ∧ F ρ s = some (d, s') ∧ ∀ v G' H', Vw K sk G' H' s' → Ex sk G H G' H' → Dq K sk G' v d → Q v H'
def tQ (K : PySem.W.Frag) (F : M Bool) : TT := fun σ H Q => ∃ sk G ρ s b s', Vw K sk G H s ∧ ER K sk G H σ ρ ∧ F ρ s = some (b, s') ∧ ∀ G' H', Vw K sk G' H' s' → Ex sk G H G' H' → Q b H'
def tA (K : PySem.W.Frag) (F : M (List D)) : TA := fun σ H Q => ∃ sk G ρ s ds s', Vw K sk G H s ∧ ER K sk G H σ ρ ∧ F ρ s = some (ds, s') ∧ ∀ vs G' H', Vw K sk G' H' s' → Ex sk G H G' H' → Paired (Dq K sk G') vs ds → Q vs H'
/-- a new list, not yet among the data -/
def tL (K : PySem.W.Frag) (F : M (List D)) : TE := fun σ H Q => ∃ sk G ρ s ds s', Vw K sk G H s ∧ ER K sk G H σ ρ ∧ F ρ s = some (ds, s') ∧
  ∀ p vs G' H', Vw K sk G' H' s' → Ex sk G H G' H' → H p = none → sk ≠ some p → H' p = some (.lst vs) → G' p = none → DpAll K G' vs ds → Q (.ref p) H'
section
variable {X : Cx}
theorem peI {e : Expr} {t t' : TE} (h : PE X e t) (i : ∀ σ H Q, t' σ H Q → t σ H Q) : PE X e t' := ⟨fun pins s σ H Q I w => h.run pins s σ H Q I (i _ _ _ w)⟩
theorem ptI {e : Expr} {t t' : TT} (h : PT X e t) (i : ∀ σ H Q, t' σ H Q → t σ H Q) : PT X e t' := ⟨fun pins s σ H Q I w => h.run pins s σ H Q I (i _ _ _ w)⟩
theorem pwI {e : Expr} {t t' : TT} (h : PW X e t) (i : ∀ σ H Q, t' σ H Q → t σ H Q) : PW X e t' := ⟨fun wh pins s σ H Q I w => h.run wh pins s σ H Q I (i _ _ _ w)⟩
theorem paI {es : List Expr} {t t' : TA} (h : PA X es t) (i : ∀ σ H Q, t' σ H Q → t σ H Q) : PA X es t' := ⟨fun pos pins s σ H Q I w => h.run pos pins s σ H Q I (i _ _ _ w)⟩
theorem psI {st : Stmt} {t t' : TS} (h : PS X st t) (i : ∀ D σ H, t' D σ H → t D σ H) : PS X st t' := ⟨fun pins s σ H D I w => h.run pins s σ H D I (i _ _ _ w)⟩
theorem pssI {st : List Stmt} {t t' : TS} (h : PSs X st t) (i : ∀ D σ H, t' D σ H → t D σ H) : PSs X st t' := ⟨fun pins s σ H D I w => h.run pins s σ H D I (i _ _ _ w)⟩
theorem pgI {e : Expr} {t t' : TG} (h : PG X e t) (i : ∀ v σ H Q, t' v σ H Q → t v σ H Q) : PG X e t' := ⟨fun pins s σ H v u Q I r w => h.run pins s σ H v u Q I r (i _ _ _ _ w)⟩
theorem pgsI {e : List Expr} {t t' : TGs} (h : PGs X e t) (i : ∀ v σ H Q, t' v σ H Q → t v σ H Q) : PGs X e t' := ⟨fun pins s σ H v u Q I r w => h.run pins s σ H v u Q I r (i _ _ _ _ w)⟩
theorem piI {tg e : Expr} {t t' : TI} (h : PI X tg e t) (i : ∀ σ H Q, t' σ H Q → t σ H Q) : PI X tg e t' := ⟨fun pins s σ H Q I w => h.run pins s σ H Q I (i _ _ _ w)⟩
end
/-! ### the worth of expressions -/
def mVar (i : Nat) : M D := fun ρ s => match ρ[i]? with
  | some (some (Cell.fz d)) => some (d, s)
  | _ => none
def mC (d : D) : M D := fun _ s => some (d, s)
def mThen {α β : Type} (f : M α) (g : α → M β) : M β := fun ρ s => match f ρ s with
  | some (a, s1) => g a ρ s1
  | none => none
def mLift {α : Type} (o : Option α) : M α := fun _ s => match o with
  | some a => some (a, s)
  | none => none
def m1 (f : D → Option D) (a : M D) : M D := mThen a fun x => mLift (f x)
def m2 (f : D → D → Option D) (a b : M D) : M D := mThen a fun x => mThen b fun y => mLift (f x y)
def aNil : M (List D) := fun _ s => some ([], s)
def aCons (a : M D) (r : M (List D)) : M (List D) := mThen a fun x => mThen r fun xs => mLift (some (x :: xs))
theorem mThen_some {α β : Type} {f : M α} {g : α → M β} {ρ : Env} {s s' : S} {b : β} (h : mThen f g ρ s = some (b, s')) : ∃ a s1, f ρ s = some (a, s1) ∧ g a ρ s1 = some (b, s') := by
  unfold mThen at h
  split at h
  · rename_i a s1 e; exact ⟨a, s1, e, h⟩
  · cases h
theorem mLift_some {α : Type} {o : Option α} {ρ : Env} {s s' : S} {b : α} (h : mLift o ρ s = some (b, s')) : o = some b ∧ s' = s := by
  unfold mLift at h
  split at h
  · cases h; exact ⟨rfl, rfl⟩
  · cases h
/-- two in a row -/
theorem P.then {K : PySem.W.Frag} {F : M D} {σ : L2.St} {H : Hp} {Q : VK} {sk : Option Addr} {G : Hp} {ρ : Env} {s s1 : S} {d : D} (w : Vw K sk G H s) (r : ER K sk G H σ ρ) (e : F ρ s = some (d, s1))
    (k : ∀ v G' H', Vw K sk G' H' s1 → Ex sk G H G' H' → ER K sk G' H' σ ρ → Dq K sk G' v d → Q v H') : tP K F σ H Q :=
  ⟨sk, G, ρ, s, d, s1, w, r, e, fun v G' H' w' x q => k v G' H' w' x (r.ex x) q⟩
section
variable {X : Cx} {pos : Pos}
theorem P.var {i : Nat} {x : Str} (hN : X.N[i]? = some x) (hv : Vis X.env.scope x) (hd : (x == ("__debug__" : Str)) = false := by decide) (hcd : (x == ("__classdict__" : Str)) = false := by decide) : PE X (.Name x pos) (tP X.K (mVar i)) := by
  refine peI (pe_var hN hv hd hcd) fun σ H Q ⟨sk, G, ρ, s, d, s', w, r, e, k⟩ => ?_
  unfold mVar at e
  split at e
  · rename_i d' q
    cases e
    obtain ⟨v, h1, h2⟩ := r.fz i _ q
    exact ⟨v, h1, k v G H w .refl h2⟩
  · cases e
theorem P.c {e : Expr} {v : V} {d : D} (h : PE X e (tC v)) (q : ∀ G, Dp X.K G v d) : PE X e (tP X.K (mC d)) := by
  refine peI h fun σ H Q ⟨sk, G, ρ, s, d', s', w, r, e, k⟩ => ?_
  cases e
  exact k v G H w .refl (.inl (q G))
theorem P.int {i j} : PE X (.Constant (.int i) j pos) (tP X.K (mC (.int i))) := P.c pe_int fun _ => .int _
theorem P.bl {b j} : PE X (.Constant (.bool b) j pos) (tP X.K (mC (.bool b))) := P.c pe_bl fun _ => .bl _
theorem P.non {j} : PE X (.Constant .none j pos) (tP X.K (mC .none)) := P.c pe_non fun _ => .non
theorem P.str {x j} : PE X (.Constant (.str x) j pos) (tP X.K (mC (.str x))) := P.c pe_str fun _ => .str _
/-- an operator by values is worth f -/
def W2 (K : PySem.W.Frag) (r : R2) (f : D → D → Option D) : Prop := ∀ (x y : V) (a b d : D) (sk : Option Addr) (G H : Hp) (Q : VK), Le G H → Dq K sk G x a → Dq K sk G y b → f a b = some d →
  (∀ v G' H', Grow G H G' H' → Dp K G' v d → Q v H') → r x y H Q
def W1 (K : PySem.W.Frag) (r : V → Hp → VK → Prop) (f : D → Option D) : Prop := ∀ (x : V) (a d : D) (sk : Option Addr) (G H : Hp) (Q : VK), Le G H → Dq K sk G x a → f a = some d →
  (∀ v G' H', Grow G H G' H' → Dp K G' v d → Q v H') → r x H Q
def WC (K : PySem.W.Frag) (r : List V → Hp → VK → Prop) (f : List D → Option D) : Prop := ∀ (xs : List V) (as : List D) (d : D) (sk : Option Addr) (G H : Hp) (Q : VK), Le G H → Paired (Dq K sk G) xs as → f as = some d →
  (∀ v G' H', Grow G H G' H' → Dp K G' v d → Q v H') → r xs H Q
theorem tOp_of {K : PySem.W.Frag} {r : R2} {f : D → D → Option D} (h : W2 K r f) {fa fb : M D} {σ : L2.St} {H : Hp} {Q : VK} (t : tP K (m2 f fa fb) σ H Q) : tOp r (tP K fa) (tP K fb) σ H Q := by
  obtain ⟨sk, G, ρ, s, d, s', w, e, q, k⟩ := t
  obtain ⟨a, s1, q1, q⟩ := mThen_some q
  obtain ⟨b, s2, q2, q⟩ := mThen_some q
  obtain ⟨q3, rfl⟩ := mLift_some q
  refine P.then w e q1 fun x G1 H1 w1 x1 e1 dx => ?_
  refine P.then w1 e1 q2 fun y G2 H2 w2 x2 e2 dy => ?_
  exact h x y a b d sk G2 H2 Q w2.sub (dx.up x2.gs) dy q3 fun v G' H' g dv => k v G' H' (g.vw w2) ((x1.trans x2).trans (g.ex sk)) (.inl dv)
theorem P.op {op : Operator} {r : R2} {f : D → D → Option D} {a b : Expr} {fa fb : M D} (ho : OpR X (binaryOp op) r) (h : W2 X.K r f) (ha : PE X a (tP X.K fa)) (hb : PE X b (tP X.K fb)) : PE X (.BinOp a op b pos) (tP X.K (m2 f fa fb)) :=
  peI (pe_op ho ha hb) fun _ _ _ t => tOp_of h t
theorem P.cmp {op : CmpOp} {r : R2} {f : D → D → Option D} {a b : Expr} {fa fb : M D} (ho : OpR X (compareOp op) r) (h : W2 X.K r f) (ha : PE X a (tP X.K fa)) (hb : PE X b (tP X.K fb)) (hm : behindInMarks op b = false) : PE X (.Compare a [op] [b] pos) (tP X.K (m2 f fa fb)) :=
  peI (pe_cmpR ho ha hb hm) fun _ _ _ t => tOp_of h t
theorem P.ix {r : R2} {f : D → D → Option D} {a b : Expr} {fa fb : M D} (hr : IxR X r) (h : W2 X.K r f) (ha : PE X a (tP X.K fa)) (hb : PE X b (tP X.K fb)) (hs : PlainIx b) : PE X (.Subscript a b pos) (tP X.K (m2 f fa fb)) :=
  peI (pe_ix hr ha hb hs) fun _ _ _ t => tOp_of h t
theorem P.un {op : UnaryOp} {r : V → Hp → VK → Prop} {f : D → Option D} {a : Expr} {fa : M D} (ho : UnR X (unaryOp op) r) (h : W1 X.K r f) (ha : PE X a (tP X.K fa)) : PE X (.UnaryOp op a pos) (tP X.K (m1 f fa)) := by
  refine peI (pe_un ho ha) fun σ H Q ⟨sk, G, ρ, s, d, s', w, e, q, k⟩ => ?_
  obtain ⟨a, s1, q1, q⟩ := mThen_some q
  obtain ⟨q3, rfl⟩ := mLift_some q
  refine P.then w e q1 fun x G1 H1 w1 x1 e1 dx => ?_
  exact h x a d sk G1 H1 Q w1.sub dx q3 fun v G' H' g dv => k v G' H' (g.vw w1) (x1.trans (g.ex sk)) (.inl dv)
theorem P.anil : PA X [] (tA X.K aNil) := paI pa_nil fun σ H Q ⟨sk, G, ρ, s, d, s', w, e, q, k⟩ => by
  cases q
  exact k [] G H w .refl .nil
theorem P.acons {e : Expr} {es : List Expr} {f : M D} {g : M (List D)} (ha : PE X e (tP X.K f)) (hr : PA X es (tA X.K g)) (hs : starEach (e :: es) X.env = (false, eval e X.env) :: starEach es X.env := by rfl) : PA X (e :: es) (tA X.K (aCons f g)) :=
  paI (pa_cons ha hr hs) fun σ H Q ⟨sk, G, ρ, s, d, s', w, e, q, k⟩ => by
    obtain ⟨a, s1, q1, q⟩ := mThen_some q
    obtain ⟨b, s2, q2, q⟩ := mThen_some q
    obtain ⟨q3, rfl⟩ := mLift_some q
    cases q3
    refine P.then w e q1 fun x G1 H1 w1 x1 e1 dx => ?_
    exact ⟨sk, G1, ρ, s1, b, s', w1, e1, q2, fun vs G' H' w' x' ps => k _ G' H' w' (x1.trans x') (.cons (dx.up x'.gs) ps)⟩
def mCall (f : List D → Option D) (a : M (List D)) : M D := mThen a fun xs => mLift (f xs)
theorem tCB_of {K : PySem.W.Frag} {r : List V → Hp → VK → Prop} {f : List D → Option D} (h : WC K r f) {fa : M (List D)} {σ : L2.St} {H : Hp} {Q : VK} (t : tP K (mCall f fa) σ H Q) : tCB r (tA K fa) σ H Q := by
  obtain ⟨sk, G, ρ, s, d, s', w, e, q, k⟩ := t
  obtain ⟨a, s1, q1, q⟩ := mThen_some q
  obtain ⟨q3, rfl⟩ := mLift_some q
  exact ⟨sk, G, ρ, s, a, s', w, e, q1, fun vs G' H' w' x' ps => h vs a d sk G' H' Q w'.sub ps q3 fun v G2 H2 g dv => k v G2 H2 (g.vw w') (x'.trans (g.ex sk)) (.inl dv)⟩
theorem P.callB {id : String} {x : Str} {p : Pos} {e : Expr} {es : List Expr} {r : List V → Hp → VK → Prop} {f : List D → Option D} {fa : M (List D)} (hc : CallR X (.builtin id) r) (h : WC X.K r f) (hg : Gl X x) (hm : X.mg x = none) (hv : bootBuiltins x = some (.builtin id)) (ha : PA X (e :: es) (tA X.K fa)) (hn : x ≠ "__name__" := by decide) (hdb : (x == ("__debug__" : Str)) = false := by decide) (he : starEach (e :: es) X.env = (false, eval e X.env) :: starEach es X.env := by rfl) (hpl : (backTo pos (starEach es X.env)).any (·.1) = false := by rfl) :
    PE X (.Call (.Name x p) (e :: es) [] pos) (tP X.K (mCall f fa)) :=
  peI (pe_callB hc hg hm hv ha hn hdb he hpl) fun _ _ _ t => tCB_of h t
theorem P.callTy {T : String} {x : Str} {p : Pos} {e : Expr} {es : List Expr} {r : List V → Hp → VK → Prop} {f : List D → Option D} {fa : M (List D)} (hc : CallR X (.type T) r) (h : WC X.K r f) (hg : Gl X x) (hm : X.mg x = none) (hv : bootBuiltins x = some (.type T)) (ha : PA X (e :: es) (tA X.K fa)) (hn : x ≠ "__name__" := by decide) (hdb : (x == ("__debug__" : Str)) = false := by decide) (he : starEach (e :: es) X.env = (false, eval e X.env) :: starEach es X.env := by rfl) (hpl : (backTo pos (starEach es X.env)).any (·.1) = false := by rfl) :
    PE X (.Call (.Name x p) (e :: es) [] pos) (tP X.K (mCall f fa)) :=
  peI (pe_callTy hc hg hm hv ha hn hdb he hpl) fun _ _ _ t => tCB_of h t
end
end PL
namespace PL
open PySem PySem.Spec PyProof.Rows L2
/-! ### tests -/
def bOf : D → Option Bool
  | .bool b => some b
  | _ => none
def mB (a : M D) : M Bool := mThen a fun x => mLift (bOf x)
def mNot (a : M Bool) : M Bool := mThen a fun x => mLift (some (!x))
def mIf {α : Type} (c : M Bool) (a b : M α) : M α := mThen c fun x => if x = true then a else b
def qC (b : Bool) : M Bool := fun _ s => some (b, s)
def mAnd (a b : M Bool) : M Bool := mIf a b (qC false)
def mOr (a b : M Bool) : M Bool := mIf a (qC true) b
def mV (a : M Bool) : M D := mThen a fun x => mLift (some (.bool x))
/-- a and b, a or b as values -/
def mAndV (a b : M D) : M D := mIf (mB a) b (mC (.bool false))
def mOrV (a b : M D) : M D := mIf (mB a) (mC (.bool true)) b
theorem mB_some {a : M D} {ρ : Env} {s s' : S} {b : Bool} (h : mB a ρ s = some (b, s')) : a ρ s = some (.bool b, s') := by
  obtain ⟨x, s1, q1, q⟩ := mThen_some h
  obtain ⟨q2, rfl⟩ := mLift_some q
  cases x <;> first | (cases q2; exact q1) | cases q2
theorem Dp.bl_of {K : PySem.W.Frag} {sk : Option Addr} {G : Hp} {v : V} {b : Bool} (h : Dq K sk G v (.bool b)) : v = .bl b := by
  have h' := h.dp rfl
  cases h'; rfl
theorem Dp.int_of {K : PySem.W.Frag} {sk : Option Addr} {G : Hp} {v : V} {i : Int} (h : Dq K sk G v (.int i)) : v = .int i := by
  have h' := h.dp rfl
  cases h'; rfl
theorem Dp.str_of {K : PySem.W.Frag} {sk : Option Addr} {G : Hp} {v : V} {i : Str} (h : Dq K sk G v (.str i)) : v = .str i := by
  have h' := h.dp rfl
  cases h'; rfl
theorem Dp.tup_of {K : PySem.W.Frag} {sk : Option Addr} {G : Hp} {v : V} {ds : List D} (h : Dq K sk G v (.tuple ds)) : ∃ a xs, v = .ref a ∧ SqT K G a xs ∧ DpAll K G xs ds := by
  have h' := h.dp rfl
  cases h' with | tup a b => exact ⟨_, _, rfl, a, b⟩
theorem Dp.lst_of {K : PySem.W.Frag} {sk : Option Addr} {G : Hp} {v : V} {ds : List D} (h : Dq K sk G v (.list ds)) : ∃ a xs, v = .ref a ∧ SqL K G a xs ∧ DpAll K G xs ds := by
  have h' := h.dp rfl
  cases h' with | lst a b => exact ⟨_, _, rfl, a, b⟩
section
variable {X : Cx} {pos : Pos} {a b e : Expr} {fa fb : M D} {ca cb : M Bool}
theorem P.tval (h : PE X e (tP X.K fa)) (he : ∀ whole, isTrue e X.env whole = (do let v ← whole; standAt e.pos; holding [v] (truthy v)) := by intro _; rfl) : PT X e (tQ X.K (mB fa)) := by
  refine ptI (pt_val h he) fun σ H Q ⟨sk, G, ρ, s, c, s', w, r, e, k⟩ => ?_
  refine P.then w r (mB_some e) fun v G' H' w' x r' q => ?_
  exact ⟨c, Dp.bl_of q, k G' H' w' x⟩
theorem P.cmpT {op : CmpOp} {r : R2} {f : D → D → Option D} (ho : OpR X (compareOp op) r) (h : W2 X.K r f) (ha : PE X a (tP X.K fa)) (hb : PE X b (tP X.K fb)) (hm : behindInMarks op b = false) : PT X (.Compare a [op] [b] pos) (tQ X.K (mB (m2 f fa fb))) := by
  refine ptI (pt_cmpR ho ha hb hm) fun σ H Q ⟨sk, G, ρ, s, c, s', w, r, e, k⟩ => ?_
  refine tOp_of h ?_
  refine P.then w r (mB_some e) fun v G' H' w' x r' q => ?_
  exact ⟨c, Dp.bl_of q, k G' H' w' x⟩
theorem P.not (ha : PT X a (tQ X.K ca)) : PT X (.UnaryOp .Not a pos) (tQ X.K (mNot ca)) := by
  refine ptI (pt_not ha) fun σ H Q ⟨sk, G, ρ, s, c, s', w, r, e, k⟩ => ?_
  obtain ⟨x, s1, q1, q⟩ := mThen_some e
  obtain ⟨q2, rfl⟩ := mLift_some q
  cases q2
  exact ⟨sk, G, ρ, s, x, s', w, r, q1, k⟩
theorem mIf_some {α : Type} {c : M Bool} {f g : M α} {ρ : Env} {s s' : S} {d : α} (h : mIf c f g ρ s = some (d, s')) : ∃ b s1, c ρ s = some (b, s1) ∧ (if b = true then f ρ s1 else g ρ s1) = some (d, s') := by
  obtain ⟨x, s1, q1, q⟩ := mThen_some h
  refine ⟨x, s1, q1, ?_⟩
  cases x
  · exact q
  · exact q
theorem P.and1 (ha : PT X a (tQ X.K ca)) : PW X (.BoolOp .And [a] pos) (tQ X.K ca) := pw_and1 ha
theorem P.or1 (ha : PT X a (tQ X.K ca)) : PW X (.BoolOp .Or [a] pos) (tQ X.K ca) := pw_or1 ha
theorem P.and {rest : List Expr} (ha : PT X a (tQ X.K ca)) (hb : PW X (.BoolOp .And (b :: rest) pos) (tQ X.K cb)) : PW X (.BoolOp .And (a :: b :: rest) pos) (tQ X.K (mAnd ca cb)) := by
  refine pwI (pw_and ha hb) fun σ H Q ⟨sk, G, ρ, s, c, s', w, r, e, k⟩ => ?_
  obtain ⟨x, s1, q1, q⟩ := mIf_some e
  refine ⟨sk, G, ρ, s, x, s1, w, r, q1, fun G1 H1 w1 x1 => ?_⟩
  cases x with
  | true =>
    refine ⟨sk, G1, ρ, s1, c, s', w1, r.ex x1, q, fun G2 H2 w2 x2 => k G2 H2 w2 (x1.trans x2)⟩
  | false =>
    cases q
    exact k G1 H1 w1 x1
theorem P.or {rest : List Expr} (ha : PT X a (tQ X.K ca)) (hb : PW X (.BoolOp .Or (b :: rest) pos) (tQ X.K cb)) : PW X (.BoolOp .Or (a :: b :: rest) pos) (tQ X.K (mOr ca cb)) := by
  refine pwI (pw_or ha hb) fun σ H Q ⟨sk, G, ρ, s, c, s', w, r, e, k⟩ => ?_
  obtain ⟨x, s1, q1, q⟩ := mIf_some e
  refine ⟨sk, G, ρ, s, x, s1, w, r, q1, fun G1 H1 w1 x1 => ?_⟩
  cases x with
  | false =>
    refine ⟨sk, G1, ρ, s1, c, s', w1, r.ex x1, q, fun G2 H2 w2 x2 => k G2 H2 w2 (x1.trans x2)⟩
  | true =>
    cases q
    exact k G1 H1 w1 x1
/-- values -/
theorem P.one {op : BoolOp} (ha : PE X a (tP X.K fa)) : PE X (.BoolOp op [a] pos) (tP X.K fa) := pe_one ha
theorem P.andV {rest : List Expr} (ha : PE X a (tP X.K fa)) (hb : PE X (.BoolOp .And (b :: rest) pos) (tP X.K fb)) : PE X (.BoolOp .And (a :: b :: rest) pos) (tP X.K (mAndV fa fb)) := by
  refine peI (pe_and ha hb) fun σ H Q ⟨sk, G, ρ, s, c, s', w, r, e, k⟩ => ?_
  obtain ⟨x, s1, q1, q⟩ := mIf_some e
  refine P.then w r (mB_some q1) fun v G1 H1 w1 x1 r1 q2 => ?_
  refine ⟨x, Dp.bl_of q2, ?_⟩
  cases x with
  | true => exact ⟨sk, G1, ρ, s1, c, s', w1, r1, q, fun v G2 H2 w2 x2 => k v G2 H2 w2 (x1.trans x2)⟩
  | false =>
    cases q
    exact k (.bl false) G1 H1 w1 x1 (.inl (.bl _))
theorem P.orV {rest : List Expr} (ha : PE X a (tP X.K fa)) (hb : PE X (.BoolOp .Or (b :: rest) pos) (tP X.K fb)) : PE X (.BoolOp .Or (a :: b :: rest) pos) (tP X.K (mOrV fa fb)) := by
  refine peI (pe_or ha hb) fun σ H Q ⟨sk, G, ρ, s, c, s', w, r, e, k⟩ => ?_
  obtain ⟨x, s1, q1, q⟩ := mIf_some e
  refine P.then w r (mB_some q1) fun v G1 H1 w1 x1 r1 q2 => ?_
  refine ⟨x, Dp.bl_of q2, ?_⟩
  cases x with
  | false => exact ⟨sk, G1, ρ, s1, c, s', w1, r1, q, fun v G2 H2 w2 x2 => k v G2 H2 w2 (x1.trans x2)⟩
  | true =>
    cases q
    exact k (.bl true) G1 H1 w1 x1 (.inl (.bl _))
def dNot : D → Option D
  | .bool b => some (.bool (!b))
  | _ => none
theorem P.notV (ha : PE X a (tP X.K fa)) : PE X (.UnaryOp .Not a pos) (tP X.K (m1 dNot fa)) := by
  refine peI (pe_not ha) fun σ H Q ⟨sk, G, ρ, s, c, s', w, r, e, k⟩ => ?_
  obtain ⟨x, s1, q1, q⟩ := mThen_some e
  obtain ⟨q2, rfl⟩ := mLift_some q
  refine P.then w r q1 fun v G1 H1 w1 x1 r1 q3 => ?_
  cases x with
  | bool b =>
    cases q2
    exact ⟨b, Dp.bl_of q3, k _ G1 H1 w1 x1 (.inl (.bl _))⟩
  | _ => cases q2
theorem P.ifE {c : Expr} (hc : PT X c (tQ X.K ca)) (ha : PE X a (tP X.K fa)) (hb : PE X b (tP X.K fb)) : PE X (.IfExp c a b pos) (tP X.K (mIf ca fa fb)) := by
  refine peI (pe_ifExp hc ha hb) fun σ H Q ⟨sk, G, ρ, s, d, s', w, r, e, k⟩ => ?_
  obtain ⟨x, s1, q1, q⟩ := mIf_some e
  refine ⟨sk, G, ρ, s, x, s1, w, r, q1, fun G1 H1 w1 x1 => ?_⟩
  cases x with
  | true => exact ⟨sk, G1, ρ, s1, d, s', w1, r.ex x1, q, fun v G2 H2 w2 x2 => k v G2 H2 w2 (x1.trans x2)⟩
  | false => exact ⟨sk, G1, ρ, s1, d, s', w1, r.ex x1, q, fun v G2 H2 w2 x2 => k v G2 H2 w2 (x1.trans x2)⟩
end
/-! ### statements -/
inductive Out where
  | nx (ρ : Env) | rt (d : D) | bk (ρ : Env) | ct (ρ : Env) | rl (ds : List D)
structure SR (K : PySem.W.Frag) (sk : Option Addr) (G0 H0 G H : Hp) (σ : L2.St) (ρ : Env) (s : S) : Prop where
  vw : Vw K sk G H s
  er : ER K sk G H σ ρ
  ex : Ex sk G0 H0 G H
  yo : ∀ (i : Nat) (ds : List D) (a : Addr), ρ[i]? = some (some (Cell.ow ds)) → σ[i]? = some (some (V.ref a)) → H0 a = none
theorem SR.on {K : PySem.W.Frag} {sk : Option Addr} {G0 H0 G H G' H' : Hp} {σ : L2.St} {ρ : Env} {s s' : S} (r : SR K sk G0 H0 G H σ ρ s) (w : Vw K sk G' H' s') (x : Ex sk G H G' H') : SR K sk G0 H0 G' H' σ ρ s' :=
  ⟨w, r.er.ex x, r.ex.trans x, r.yo⟩
def Post (K : PySem.W.Frag) (sk : Option Addr) (G0 H0 : Hp) (E : Ends) (s' : S) : Out → Prop
  | .nx ρ' => ∀ σ' G' H', SR K sk G0 H0 G' H' σ' ρ' s' → E.nx σ' H'
  | .rt d => ∀ v G' H', Vw K sk G' H' s' → Ex sk G0 H0 G' H' → Dq K sk G' v d → E.rt v H'
  | .bk ρ' => ∀ σ' G' H', SR K sk G0 H0 G' H' σ' ρ' s' → E.bk σ' H'
  | .ct ρ' => ∀ σ' G' H', SR K sk G0 H0 G' H' σ' ρ' s' → E.ct σ' H'
  | .rl ds => ∀ p vs G' H', Vw K sk G' H' s' → Ex sk G0 H0 G' H' → H0 p = none → sk ≠ some p → H' p = some (.lst vs) → G' p = none → DpAll K G' vs ds → E.rt (.ref p) H'
def tS (K : PySem.W.Frag) (F : M Out) : TS := fun E σ H => ∃ sk G0 H0 G ρ s o s', SR K sk G0 H0 G H σ ρ s ∧ F ρ s = some (o, s') ∧ Post K sk G0 H0 E s' o
def sNx : M Out := fun ρ s => some (.nx ρ, s)
def sBk : M Out := fun ρ s => some (.bk ρ, s)
def sCt : M Out := fun ρ s => some (.ct ρ, s)
def sNo : M Out := fun _ _ => none
def sSeq (a b : M Out) : M Out := fun ρ s => match a ρ s with
  | some (.nx ρ', s') => b ρ' s'
  | r => r
def sRet (a : M D) : M Out := mThen a fun x => mLift (some (.rt x))
def sEx (a : M D) : M Out := fun ρ s => match a ρ s with
  | some (_, s') => some (.nx ρ, s')
  | none => none
/-- a target: a name's slot, a tuple of targets, an item of the sack -/
inductive Pat where
  | nm (i : Nat) | tp (ps : List Pat) | sb (i k : Nat)
mutual
def bnd : Pat → D → Env → S → Option (Env × S)
  | .nm i, d, ρ, s => some (ρ.set i (some (.fz d)), s)
  | .tp ps, .tuple ds, ρ, s => bnds ps ds ρ s
  | .tp ps, .list ds, ρ, s => bnds ps ds ρ s
  | .sb i k, d, ρ, s => match ρ[i]? with
    | some (some (Cell.fz (.dict []))) => if k < s.length ∧ isD d = true then some (ρ, s.set k d) else none
    | _ => none
  | _, _, _, _ => none
def bnds : List Pat → List D → Env → S → Option (Env × S)
  | [], [], ρ, s => some (ρ, s)
  | p :: ps, d :: ds, ρ, s => match bnd p d ρ s with
    | some (ρ', s') => bnds ps ds ρ' s'
    | none => none
  | _, _, _, _ => none
end
def sAsg (p : Pat) (a : M D) : M Out := fun ρ s => match a ρ s with
  | some (d, s1) => (match bnd p d ρ s1 with
    | some (ρ', s2) => some (.nx ρ', s2)
    | none => none)
  | none => none
/-- a list of one's own is named -/
def sOwn (i : Nat) (a : M (List D)) : M Out := fun ρ s => match a ρ s with
  | some (ds, s1) => some (.nx (ρ.set i (some (.ow ds))), s1)
  | none => none
/-- .. and is taken for data from here on -/
def frz (i : Nat) (ρ : Env) : Env := match ρ[i]? with
  | some (some (Cell.ow ds)) => ρ.set i (some (.fz (.list ds)))
  | _ => ρ
def sFrz (i : Nat) (F : M Out) : M Out := fun ρ s => F (frz i ρ) s
mutual
def slo : Pat → List Nat
  | .nm i => [i]
  | .tp ps => slos ps
  | .sb _ _ => []
def slos : List Pat → List Nat
  | [] => []
  | p :: ps => slo p ++ slos ps
end
/-- but at these slots alike -/
def Off (l : List Nat) (σ σ' : L2.St) : Prop := ∀ j : Nat, j ∉ l → σ'[j]? = σ[j]?
theorem Off.refl {l : List Nat} {σ : L2.St} : Off l σ σ := fun _ _ => rfl
theorem Off.trans {l l' : List Nat} {σ σ1 σ2 : L2.St} (a : Off l σ σ1) (b : Off l' σ1 σ2) : Off (l ++ l') σ σ2 := fun j h => by
  rw [List.mem_append, not_or] at h
  rw [b j h.2, a j h.1]
theorem Off.set {σ : L2.St} {i : Nat} {v : Option V} : Off [i] σ (σ.set i v) := fun j h => by
  rw [List.getElem?_set_ne (fun e => h (by simp [e]))]
def tG (K : PySem.W.Frag) (p : Pat) : TG := fun v σ H Q => ∃ sk G0 H0 G ρ s d ρ' s', SR K sk G0 H0 G H σ ρ s ∧ Dq K sk G v d ∧ bnd p d ρ s = some (ρ', s') ∧ ∀ σ' G' H', Ex sk G H G' H' → Off (slo p) σ σ' → SR K sk G0 H0 G' H' σ' ρ' s' → Q σ' H'
def tGs (K : PySem.W.Frag) (ps : List Pat) : TGs := fun vs σ H Q => ∃ sk G0 H0 G ρ s ds ρ' s', SR K sk G0 H0 G H σ ρ s ∧ DpAll K G vs ds ∧ bnds ps ds ρ s = some (ρ', s') ∧ ∀ σ' G' H', Ex sk G H G' H' → Off (slos ps) σ σ' → SR K sk G0 H0 G' H' σ' ρ' s' → Q σ' H'
theorem get_set {α : Type} {l : List α} {i j : Nat} {x y : α} (h : (l.set i x)[j]? = some y) : (j = i ∧ y = x ∧ i < l.length) ∨ (j ≠ i ∧ l[j]? = some y) := by
  by_cases e : i = j
  · subst e
    rw [List.getElem?_set] at h
    split at h
    · split at h
      · cases h; exact .inl ⟨rfl, rfl, by assumption⟩
      · cases h
    · exact absurd rfl ‹_›
  · rw [List.getElem?_set_ne e] at h
    exact .inr ⟨fun z => e z.symm, h⟩
theorem SR.setF {K : PySem.W.Frag} {sk : Option Addr} {G0 H0 G H : Hp} {σ : L2.St} {ρ : Env} {s : S} {v : V} {d : D} (r : SR K sk G0 H0 G H σ ρ s) (i : Nat) (q : Dq K sk G v d) : SR K sk G0 H0 G H (σ.set i (some v)) (ρ.set i (some (.fz d))) s := by
  have ow : ∀ (j : Nat) (ds : List D), (ρ.set i (some (Cell.fz d)))[j]? = some (some (Cell.ow ds)) → j ≠ i ∧ ρ[j]? = some (some (Cell.ow ds)) := fun j ds h => by
    rcases get_set h with ⟨_, z, _⟩ | z
    · cases z
    · exact z
  refine ⟨r.vw, ⟨by simp [r.er.len], fun j d' h => ?_, fun j ds h => ?_, fun j k ds es a n h1 h2 h3 => ?_⟩, r.ex, fun j ds a h1 h2 => ?_⟩
  · rcases get_set h with ⟨rfl, z, l⟩ | ⟨n, z⟩
    · cases z
      exact ⟨v, by rw [List.getElem?_set_self (by rw [r.er.len]; exact l)], q⟩
    · obtain ⟨v', a, b⟩ := r.er.fz j d' z
      exact ⟨v', by rw [List.getElem?_set_ne (Ne.symm n)]; exact a, b⟩
  · obtain ⟨n, z⟩ := ow j ds h
    obtain ⟨a, vs, h1, h2⟩ := r.er.ow j ds z
    exact ⟨a, vs, by rw [List.getElem?_set_ne (Ne.symm n)]; exact h1, h2⟩
  · obtain ⟨n1, z1⟩ := ow j ds h1
    obtain ⟨n2, z2⟩ := ow k es h2
    rw [List.getElem?_set_ne (Ne.symm n1)] at h3
    rw [List.getElem?_set_ne (Ne.symm n2)]
    exact r.er.ne j k ds es a n z1 z2 h3
  · obtain ⟨n1, z1⟩ := ow j ds h1
    rw [List.getElem?_set_ne (Ne.symm n1)] at h2
    exact r.yo j ds a z1 h2
section
variable {X : Cx} {pos : Pos}
theorem P.gnm {i : Nat} {x : Str} (hN : X.N.Nodup) (hi : X.N[i]? = some x) (hx : Loc X.env.scope x) (hf : X.fn x = true ∨ X.env.scope.names.lookup x = some .local := by first | exact .inl rfl | exact .inr rfl | assumption) : PG X (.Name x pos) (tG X.K (.nm i)) := by
  refine pgI (pg_name hN hi hx hf) fun v σ H Q ⟨sk, G0, H0, G, ρ, s, d, ρ', s', r, q, e, k⟩ => ?_
  unfold bnd at e
  cases e
  exact k _ G H .refl (by unfold slo; exact Off.set) (r.setF i q)
theorem P.gnil : PGs X [] (tGs X.K []) := pgsI pgs_nil fun v σ H Q ⟨sk, G0, H0, G, ρ, s, d, ρ', s', r, q, e, k⟩ => by
  cases d with
  | nil =>
    cases q
    unfold bnds at e
    cases e
    exact ⟨rfl, k σ G H .refl .refl r⟩
  | cons d ds => unfold bnds at e; cases e
end
end PL
namespace PL
open PySem PySem.Spec PyProof.Rows L2
section
variable {X : Cx} {pos : Pos}
theorem P.gcons {e : Expr} {es : List Expr} {p : Pat} {ps : List Pat} (h1 : PG X e (tG X.K p)) (h2 : PGs X es (tGs X.K ps)) (hs : (assignEach (e :: es) X.env).map (·.2) = assign e X.env :: (assignEach es X.env).map (·.2) := by rfl) : PGs X (e :: es) (tGs X.K (p :: ps)) := by
  refine pgsI (pgs_cons h1 h2 hs) fun vs σ H Q ⟨sk, G0, H0, G, ρ, s, ds, ρ', s', r, q, e, k⟩ => ?_
  cases ds with
  | nil => unfold bnds at e; cases e
  | cons d ds =>
    cases q with
    | cons qa qb =>
      unfold bnds at e
      split at e
      · rename_i ρ1 s1 e1
        refine ⟨_, _, rfl, sk, G0, H0, G, ρ, s, d, ρ1, s1, r, .inl qa, e1, fun σ1 G1 H1 l1 o1 r1 => ?_⟩
        exact ⟨sk, G0, H0, G1, ρ1, s1, ds, ρ', s', r1, DpAll.up l1.gs _ _ qb, e, fun σ2 G2 H2 l2 o2 r2 => k σ2 G2 H2 (l1.trans l2) (by unfold slos; exact o1.trans o2) r2⟩
      · cases e
theorem bnds_same : ∀ (ps : List Pat) (ds : List D) (ρ : Env) (s : S) (r : Env × S), bnds ps ds ρ s = some r → ps.length = ds.length := by
  intro ps
  induction ps with
  | nil => intro ds ρ s r e; cases ds with | nil => rfl | cons _ _ => unfold bnds at e; cases e
  | cons p ps ih =>
    intro ds ρ s r e
    cases ds with
    | nil => unfold bnds at e; cases e
    | cons d ds =>
      unfold bnds at e
      split at e
      · simp [ih _ _ _ _ e]
      · cases e
theorem P.gtup {es : List Expr} {k : Nat} {ps : List Pat} {n : Nat} (hc : X.calm = true) (h : PGs X es (tGs X.K ps)) (hn : (assignEach es X.env).length = n := by rfl) (hl : ps.length = n := by rfl) (hst : (assignEach es X.env).findIdx? (·.1) = none := by rfl) : PG X (.Tuple es k pos) (tG X.K (.tp ps)) := by
  refine ⟨fun pins s σ H v u Q I rv ⟨sk, G0, H0, G, ρ, s, d, ρ', s', r, q, e, k⟩ => ?_⟩
  cases d with
  | tuple ds =>
    obtain ⟨a, xs, rfl, h1, h2⟩ := Dp.tup_of q
    unfold bnd at e
    refine (pg_tup hc h hn hst).run pins _ σ H _ u Q I rv ⟨a, xs, rfl, SqT.up r.vw.sub h1, ?_, sk, G0, H0, G, ρ, s, ds, ρ', s', r, h2, e, fun σ' G' H' l o r => k σ' G' H' l (by unfold slo; exact o) r⟩
    rw [DpAll.length h2, ← bnds_same _ _ _ _ _ e, hl]
  | list ds =>
    obtain ⟨a, xs, rfl, h1, h2⟩ := Dp.lst_of q
    unfold bnd at e
    refine (pg_unl hc h hn hst).run pins _ σ H _ u Q I rv ⟨a, xs, rfl, SqL.up r.vw.sub h1, ?_, sk, G0, H0, G, ρ, s, ds, ρ', s', r, h2, e, fun σ' G' H' l o r => k σ' G' H' l (by unfold slo; exact o) r⟩
    rw [DpAll.length h2, ← bnds_same _ _ _ _ _ e, hl]
  | _ => unfold bnd at e; cases e
theorem SR.sackset {K : PySem.W.Frag} {sk : Option Addr} {G0 H0 G H : Hp} {σ : L2.St} {ρ : Env} {s : S} {p : Addr} {xs : List V} {j : Nat} {v : V} {d : D} (r : SR K sk G0 H0 G H σ ρ s) (hp : sk = some p) (hx : H p = some (.lst xs)) (q : Dp K G v d) :
    SR K sk G0 H0 G (upd H p (.lst (xs.set j v))) σ ρ (s.set j d) := by
  obtain ⟨gn, vs, hv, hd⟩ := r.vw.sack p hp
  rw [hx] at hv; cases hv
  refine ⟨⟨fun a o e => ?_, fun a e => ?_⟩, ⟨r.er.len, r.er.fz, fun i ds e => ?_, r.er.ne⟩, ⟨r.ex.gs, fun a o e n => ?_, r.ex.nw, fun a e => ?_⟩, r.yo⟩
  · have n : a ≠ p := fun z => by subst z; rw [gn] at e; cases e
    rw [upd_ne n]; exact r.vw.sub a o e
  · rw [hp] at e; cases e
    exact ⟨gn, _, upd_same, DpAll.set q j hd⟩
  · obtain ⟨a, ws, h1, h2, h3, h4, h5⟩ := r.er.ow i ds e
    exact ⟨a, ws, h1, by rw [upd_ne (fun z => h4 (by rw [z]; exact hp))]; exact h2, h3, h4, h5⟩
  · rw [upd_ne (fun z => n (by rw [z]; exact hp))]; exact r.ex.hs a o e n
  · by_cases z : a = p
    · subst z; rw [upd_same] at e; cases e
    · rw [upd_ne z] at e; exact r.ex.th a e
theorem ixN_ok {n k : Nat} (h : k < n) : ixN n (k : Int) = some k := by
  unfold ixN
  rw [if_pos (by omega), if_pos (by omega)]
  rfl
theorem P.gsub {i k : Nat} {x : Str} {j} {p1 p2 : Pos} (hN : X.N[i]? = some x) (hv : Vis X.env.scope x) (hd : (x == ("__debug__" : Str)) = false := by decide) (hcd : (x == ("__classdict__" : Str)) = false := by decide)
    (ha : ∀ v, assign (.Subscript (.Name x p1) (.Constant (.int (k : Nat)) j p2) pos) X.env v = (do
      let ov ← holding [v] (eval (.Name x p1) X.env)
      let iv ← holding [v, ov] (eval (.Constant (.int (k : Nat)) j p2) X.env)
      standAt pos
      holding [v, ov, iv] (setItem ov iv v)
      release [v, ov, iv] []) := by intro _; rfl) : PG X (.Subscript (.Name x p1) (.Constant (.int (k : Nat)) j p2) pos) (tG X.K (.sb i k)) := by
  refine pgI (pg_sub (pe_var hN hv hd hcd) pe_int set_list ha) fun v σ H Q ⟨sk, G0, H0, G, ρ, s, d, ρ', s', r, q, e, kk⟩ => ?_
  unfold bnd at e
  split at e
  · rename_i e1
    split at e
    · rename_i hc
      cases e
      obtain ⟨u, h1, h2⟩ := r.er.fz i _ e1
      rcases h2 with z | ⟨_, a, ha, rfl⟩
      · cases z
      obtain ⟨gn, vs, hvs, hd⟩ := r.vw.sack a ha
      refine ⟨_, h1, a, vs, (k : Int), k, rfl, rfl, hvs, ixN_ok ?_, ?_⟩
      · rw [DpAll.length hd]; exact hc.1
      · refine kk σ G _ ⟨.refl, fun b o e n => ?_, fun _ _ e => .inl e, fun b e => ?_⟩ .refl (r.sackset ha hvs (q.dp hc.2))
        · rw [upd_ne (fun z => n (by rw [z]; exact ha))]; exact e
        · by_cases z : b = a
          · subst z; rw [upd_same] at e; cases e
          · rw [upd_ne z] at e; exact e
    · cases e
  · cases e
/-- an item of the sack -/
def mSk (i k : Nat) : M D := fun ρ s => match ρ[i]? with
  | some (some (Cell.fz (.dict []))) => (match s[k]? with
    | some d => some (d, s)
    | none => none)
  | _ => none
theorem P.sk {i k : Nat} {x : Str} {j} {p1 p2 : Pos} (hN : X.N[i]? = some x) (hv : Vis X.env.scope x) (hd : (x == ("__debug__" : Str)) = false := by decide) (hcd : (x == ("__classdict__" : Str)) = false := by decide) (hs : PlainIx (.Constant (.int (k : Nat)) j p2) := by exact fun _ _ => rfl) :
    PE X (.Subscript (.Name x p1) (.Constant (.int (k : Nat)) j p2) pos) (tP X.K (mSk i k)) := by
  refine peI (pe_ix ix_list (pe_var hN hv hd hcd) pe_int hs) fun σ H Q ⟨sk, G, ρ, s, d, s', w, r, e, kk⟩ => ?_
  unfold mSk at e
  split at e
  · rename_i e1
    split at e
    · rename_i d' e2
      cases e
      obtain ⟨u, h1, h2⟩ := r.fz i _ e1
      rcases h2 with z | ⟨_, a, ha, rfl⟩
      · cases z
      obtain ⟨gn, vs, hvs, hdd⟩ := w.sack a ha
      obtain ⟨v, h3, h4⟩ := DpAll.get hdd e2
      exact ⟨_, h1, a, vs, (k : Int), v, rfl, rfl, SqL.of hvs, atI_nat h3, kk v G H w .refl (.inl h4)⟩
    · cases e
  · cases e
/-! statements -/
theorem P.no {st : Stmt} : PS X st (tS X.K sNo) := psI ps_never fun E σ H ⟨sk, G0, H0, G, ρ, s, o, s', r, e, k⟩ => by cases e
theorem P.nos {st : List Stmt} : PSs X st (tS X.K sNo) := pssI pss_never fun E σ H ⟨sk, G0, H0, G, ρ, s, o, s', r, e, k⟩ => by cases e
theorem P.nil : PSs X [] (tS X.K sNx) := pssI pss_nil fun E σ H ⟨sk, G0, H0, G, ρ, s, o, s', r, e, k⟩ => by
  cases e
  exact k σ G H r
theorem P.pass : PS X (.Pass pos) (tS X.K sNx) := psI ps_pass fun E σ H ⟨sk, G0, H0, G, ρ, s, o, s', r, e, k⟩ => by
  cases e
  exact k σ G H r
theorem P.brk : PS X (.Break pos) (tS X.K sBk) := psI ps_break fun E σ H ⟨sk, G0, H0, G, ρ, s, o, s', r, e, k⟩ => by
  cases e
  exact k σ G H r
theorem P.cnt : PS X (.Continue pos) (tS X.K sCt) := psI ps_continue fun E σ H ⟨sk, G0, H0, G, ρ, s, o, s', r, e, k⟩ => by
  cases e
  exact k σ G H r
theorem P.seq {st : Stmt} {rest : List Stmt} {f g : M Out} (h1 : PS X st (tS X.K f)) (h2 : PSs X rest (tS X.K g)) : PSs X (st :: rest) (tS X.K (sSeq f g)) :=
  pssI (pss_cons h1 h2) fun E σ H ⟨sk, G0, H0, G, ρ, s, o, s', r, e, k⟩ => by
    unfold sSeq at e
    split at e
    · rename_i ρ1 s1 e1
      exact ⟨sk, G0, H0, G, ρ, s, .nx ρ1, s1, r, e1, fun σ1 G1 H1 r1 => ⟨sk, G0, H0, G1, ρ1, s1, o, s', r1, e, k⟩⟩
    · rename_i q
      refine ⟨sk, G0, H0, G, ρ, s, o, s', r, e, ?_⟩
      cases o with
      | nx ρ1 => exact absurd e (q ρ1 s')
      | rt d => exact k
      | bk ρ1 => exact k
      | ct ρ1 => exact k
      | rl d => exact k
theorem P.last {st : Stmt} {f : M Out} (h1 : PS X st (tS X.K f)) : PSs X [st] (tS X.K f) := pss_one h1
theorem P.ret {e : Expr} {f : M D} (h : PE X e (tP X.K f)) : PS X (.Return (some e) pos) (tS X.K (sRet f)) :=
  psI (ps_ret h) fun E σ H ⟨sk, G0, H0, G, ρ, s, o, s', r, e, k⟩ => by
    obtain ⟨a, s1, q1, q⟩ := mThen_some e
    obtain ⟨q2, rfl⟩ := mLift_some q
    cases q2
    exact P.then r.vw r.er q1 fun v G' H' w' x r' q => k v G' H' w' (r.ex.trans x) q
def sRetL (a : M (List D)) : M Out := mThen a fun x => mLift (some (.rl x))
theorem P.retL {e : Expr} {f : M (List D)} (h : PE X e (tL X.K f)) : PS X (.Return (some e) pos) (tS X.K (sRetL f)) :=
  psI (ps_ret h) fun E σ H ⟨sk, G0, H0, G, ρ, s, o, s', r, e, k⟩ => by
    obtain ⟨a, s1, q1, q⟩ := mThen_some e
    obtain ⟨q2, rfl⟩ := mLift_some q
    cases q2
    exact ⟨sk, G, ρ, s, a, s', r.vw, r.er, q1, fun p vs G' H' w' x hp np hl gp dl => k p vs G' H' w' (r.ex.trans x) (r.ex.th p hp) np hl gp dl⟩
theorem P.retN : PS X (.Return none pos) (tS X.K (sRet (mC .none))) :=
  psI ps_retN fun E σ H ⟨sk, G0, H0, G, ρ, s, o, s', r, e, k⟩ => by
    obtain ⟨a, s1, q1, q⟩ := mThen_some e
    obtain ⟨q2, rfl⟩ := mLift_some q
    cases q2
    cases q1
    exact k .non G H r.vw r.ex (.inl .non)
theorem P.expr {e : Expr} {f : M D} (h : PE X e (tP X.K f)) (hs : swapsWith e none pos.line X.env = pure false := by rfl) : PS X (.Expr e pos) (tS X.K (sEx f)) :=
  psI (ps_expr h hs) fun E σ H ⟨sk, G0, H0, G, ρ, s, o, s', r, e, k⟩ => by
    unfold sEx at e
    split at e
    · rename_i d s1 e1
      cases e
      exact P.then r.vw r.er e1 fun v G' H' w' x r' q => k σ G' H' (r.on w' x)
    · cases e
theorem P.iff {c : Expr} {a b : List Stmt} {fc : M Bool} {f g : M Out} (hc : PT X c (tQ X.K fc)) (ha : PSs X a (tS X.K f)) (hb : PSs X b (tS X.K g)) : PS X (.If c a b pos) (tS X.K (mIf fc f g)) :=
  psI (ps_if hc ha hb) fun E σ H ⟨sk, G0, H0, G, ρ, s, o, s', r, e, k⟩ => by
    obtain ⟨x, s1, q1, q⟩ := mIf_some e
    refine ⟨sk, G, ρ, s, x, s1, r.vw, r.er, q1, fun G1 H1 w1 x1 => ?_⟩
    cases x with
    | true => exact ⟨sk, G0, H0, G1, ρ, s1, o, s', r.on w1 x1, q, k⟩
    | false => exact ⟨sk, G0, H0, G1, ρ, s1, o, s', r.on w1 x1, q, k⟩
theorem tAsg_of {K : PySem.W.Frag} {f : M D} {p : Pat} {E : Ends} {σ : L2.St} {H : Hp} (t : tS K (sAsg p f) E σ H) : tAsg (tP K f) (tG K p) E σ H := by
  obtain ⟨sk, G0, H0, G, ρ, s, o, s', r, e, k⟩ := t
  unfold sAsg at e
  split at e
  · rename_i d s1 e1
    split at e
    · rename_i ρ' s2 e2
      cases e
      exact P.then r.vw r.er e1 fun v G' H' w' x r' q => ⟨sk, G0, H0, G', ρ, s1, d, ρ', s', r.on w' x, q, e2, fun σ' G2 H2 _ _ r2 => k σ' G2 H2 r2⟩
    · cases e
  · cases e
theorem P.asg {tg e : Expr} {f : M D} {p : Pat} (he : PE X e (tP X.K f)) (hg : PG X tg (tG X.K p)) (hs : swapsWithSole [tg] e pos.line X.env = pure false := by rfl) (hw : swappedStores [tg] e X.env = pure none := by rfl)
    (h1 : (assignEach [tg] X.env).map (·.2) = [assign tg X.env] := by rfl) : PS X (.Assign [tg] e pos) (tS X.K (sAsg p f)) := psI (ps_asg he hg hs hw h1) fun _ _ _ t => tAsg_of t
theorem P.set {i : Nat} {x : Str} {e : Expr} {f : M D} {pos' : Pos} (hN : X.N.Nodup) (hi : X.N[i]? = some x) (hx : Loc X.env.scope x) (he : PE X e (tP X.K f)) (hs : swapsWith e (some (.Name x pos')) pos.line X.env = pure false := by rfl) (hf : X.fn x = true ∨ X.env.scope.names.lookup x = some .local := by first | exact .inl rfl | exact .inr rfl | assumption) :
    PS X (.Assign [.Name x pos'] e pos) (tS X.K (sAsg (.nm i) f)) := by
  refine psI (ps_set hN hi hx he hs hf) fun E σ H ⟨sk, G0, H0, G, ρ, s, o, s', r, e, k⟩ => ?_
  unfold sAsg bnd at e
  split at e
  · rename_i d s1 e1
    cases e
    exact P.then r.vw r.er e1 fun v G' H' w' x r' q => k _ G' H' ((r.on w' x).setF i q)
  · cases e
end
end PL
namespace PL
open PySem PySem.Spec PyProof.Rows L2
/-! ### lists of one's own -/
theorem SR.setO {K : PySem.W.Frag} {sk : Option Addr} {G0 H0 G H : Hp} {σ : L2.St} {ρ : Env} {s : S} {p : Addr} {vs : List V} {ds : List D} (r : SR K sk G0 H0 G H σ ρ s) (i : Nat) (hp : H p = some (.lst vs)) (gp : G p = none) (np : sk ≠ some p) (h0 : H0 p = none) (q : DpAll K G vs ds)
    (nw : ∀ (j : Nat) (ds : List D), ρ[j]? = some (some (Cell.ow ds)) → σ[j]? ≠ some (some (V.ref p))) : SR K sk G0 H0 G H (σ.set i (some (.ref p))) (ρ.set i (some (.ow ds))) s := by
  refine ⟨r.vw, ⟨by simp [r.er.len], fun j d' h => ?_, fun j es h => ?_, fun j k es fs a n h1 h2 h3 => ?_⟩, r.ex, fun j es a h1 h2 => ?_⟩
  · rcases get_set h with ⟨rfl, z, l⟩ | ⟨n, z⟩
    · cases z
    · obtain ⟨v', a, b⟩ := r.er.fz j d' z
      exact ⟨v', by rw [List.getElem?_set_ne (Ne.symm n)]; exact a, b⟩
  · rcases get_set h with ⟨rfl, z, l⟩ | ⟨n, z⟩
    · cases z
      exact ⟨p, vs, by rw [List.getElem?_set_self (by rw [r.er.len]; exact l)], hp, gp, np, q⟩
    · obtain ⟨a, ws, h1, h2⟩ := r.er.ow j es z
      exact ⟨a, ws, by rw [List.getElem?_set_ne (Ne.symm n)]; exact h1, h2⟩
  · rcases get_set h1 with ⟨e1, z1, l1⟩ | ⟨n1, z1⟩
    · subst e1
      rcases get_set h2 with ⟨e2, z2, l2⟩ | ⟨n2, z2⟩
      · exact absurd e2.symm n
      · rw [List.getElem?_set_self (by rw [r.er.len]; exact l1)] at h3
        cases h3
        rw [List.getElem?_set_ne (Ne.symm n2)]
        exact nw k fs z2
    · rw [List.getElem?_set_ne (Ne.symm n1)] at h3
      rcases get_set h2 with ⟨e2, z2, l2⟩ | ⟨n2, z2⟩
      · subst e2
        rw [List.getElem?_set_self (by rw [r.er.len]; exact l2)]
        intro e
        cases e
        exact nw j es z1 h3
      · rw [List.getElem?_set_ne (Ne.symm n2)]
        exact r.er.ne j k es fs a n z1 z2 h3
  · rcases get_set h1 with ⟨e1, z1, l1⟩ | ⟨n1, z1⟩
    · subst e1
      rw [List.getElem?_set_self (by rw [r.er.len]; exact l1)] at h2
      cases h2
      exact h0
    · rw [List.getElem?_set_ne (Ne.symm n1)] at h2
      exact r.yo j es a z1 h2
/-- a new list is none of those held -/
theorem ER.nw {K : PySem.W.Frag} {sk : Option Addr} {G H : Hp} {σ : L2.St} {ρ : Env} (r : ER K sk G H σ ρ) {p : Addr} (h : H p = none) (j : Nat) (ds : List D) (e : ρ[j]? = some (some (Cell.ow ds))) : σ[j]? ≠ some (some (V.ref p)) := fun q => by
  obtain ⟨a, vs, h1, h2, _⟩ := r.ow j ds e
  rw [h1] at q; cases q
  rw [h] at h2; cases h2
theorem SR.h0 {K : PySem.W.Frag} {sk : Option Addr} {G0 H0 G H : Hp} {σ : L2.St} {ρ : Env} {s : S} (r : SR K sk G0 H0 G H σ ρ s) {p : Addr} (h : H p = none) : H0 p = none := r.ex.th p h
/-- the list at a name is changed -/
theorem SR.wr {K : PySem.W.Frag} {sk : Option Addr} {G0 H0 G H : Hp} {σ : L2.St} {ρ : Env} {s : S} {i : Nat} {p : Addr} {vs' : List V} {ds ds' : List D} (r : SR K sk G0 H0 G H σ ρ s) (hi : ρ[i]? = some (some (Cell.ow ds))) (hs : σ[i]? = some (some (V.ref p))) (q : DpAll K G vs' ds') :
    SR K sk G0 H0 G (upd H p (.lst vs')) σ (ρ.set i (some (.ow ds'))) s := by
  obtain ⟨a, vs, h1, h2, h3, h4, h5⟩ := r.er.ow i ds hi
  rw [hs] at h1; cases h1
  have hil : i < ρ.length := (List.getElem?_eq_some_iff.mp hi).1
  refine ⟨⟨fun a o e => ?_, fun a e => ?_⟩, ⟨by simp [r.er.len], fun j d' h => ?_, fun j es h => ?_, fun j k es fs a n z1 z2 h3 => ?_⟩, ⟨r.ex.gs, fun a o e n => ?_, r.ex.nw, fun a e => ?_⟩, fun j es a z1 h2 => ?_⟩
  · have n : a ≠ p := fun z => by subst z; rw [h3] at e; cases e
    rw [upd_ne n]; exact r.vw.sub a o e
  · obtain ⟨gn, ws, h6, h7⟩ := r.vw.sack a e
    exact ⟨gn, ws, by rw [upd_ne (fun z => h4 (by rw [← z]; exact e))]; exact h6, h7⟩
  · rcases get_set h with ⟨rfl, z, l⟩ | ⟨n, z⟩
    · cases z
    · exact r.er.fz j d' z
  · rcases get_set h with ⟨rfl, z, l⟩ | ⟨n, z⟩
    · cases z
      exact ⟨p, vs', hs, upd_same, h3, h4, q⟩
    · obtain ⟨a, ws, g1, g2, g3⟩ := r.er.ow j es z
      exact ⟨a, ws, g1, by rw [upd_ne (fun z' => r.er.ne j i es ds p n z hi (by rw [← z']; exact g1) hs)]; exact g2, g3⟩
  · have f : ∀ (j : Nat) (es : List D), (ρ.set i (some (Cell.ow ds')))[j]? = some (some (Cell.ow es)) → ∃ fs, ρ[j]? = some (some (Cell.ow fs)) := fun j es h => by
      rcases get_set h with ⟨rfl, z, l⟩ | ⟨n, z⟩
      · exact ⟨ds, hi⟩
      · exact ⟨es, z⟩
    obtain ⟨es', y1⟩ := f j es z1
    obtain ⟨fs', y2⟩ := f k fs z2
    exact r.er.ne j k es' fs' a n y1 y2 h3
  · have n : a ≠ p := fun z => by subst z; rw [r.yo i ds _ hi hs] at e; cases e
    rw [upd_ne n]; exact r.ex.hs a o e (by assumption)
  · by_cases z : a = p
    · subst z; rw [upd_same] at e; cases e
    · rw [upd_ne z] at e; exact r.ex.th a e
  · rcases get_set z1 with ⟨rfl, z, l⟩ | ⟨n, z⟩
    · exact r.yo _ ds a hi h2
    · exact r.yo j es a z h2
theorem SR.fz {K : PySem.W.Frag} {sk : Option Addr} {G0 H0 G H : Hp} {σ : L2.St} {ρ : Env} {s : S} (r : SR K sk G0 H0 G H σ ρ s) (i : Nat) : ∃ G', SR K sk G0 H0 G' H σ (frz i ρ) s ∧ Le G G' := by
  unfold frz
  split
  · rename_i ds hi
    obtain ⟨p, vs, h1, h2, h3, h4, h5⟩ := r.er.ow i ds hi
    have l : Le G (upd G p (.lst vs)) := fun a o e => by rw [upd_ne (ne_of_none e h3)]; exact e
    refine ⟨upd G p (.lst vs), ⟨⟨fun a o e => ?_, fun a e => ?_⟩, ⟨by simp [r.er.len], fun j d' h => ?_, fun j es h => ?_, fun j k es fs a n z1 z2 h3 => ?_⟩, ⟨r.ex.gs.trans l, r.ex.hs, fun a o e => ?_, r.ex.th⟩, fun j es a z1 h2 => ?_⟩, l⟩
    · by_cases z : a = p
      · subst z; rw [upd_same] at e; cases e; exact h2
      · rw [upd_ne z] at e; exact r.vw.sub a o e
    · obtain ⟨gn, ws, h6, h7⟩ := r.vw.sack a e
      exact ⟨by rw [upd_ne (fun z => h4 (by rw [← z]; exact e))]; exact gn, ws, h6, DpAll.up l _ _ h7⟩
    · rcases get_set h with ⟨rfl, z, _⟩ | ⟨n, z⟩
      · cases z
        exact ⟨_, h1, .inl (.lst (SqL.of upd_same) (DpAll.up l _ _ h5))⟩
      · obtain ⟨v, a, b⟩ := r.er.fz j d' z
        exact ⟨v, a, b.up l⟩
    · rcases get_set h with ⟨rfl, z, _⟩ | ⟨n, z⟩
      · cases z
      · obtain ⟨a, ws, g1, g2, g3, g4, g5⟩ := r.er.ow j es z
        exact ⟨a, ws, g1, g2, by rw [upd_ne (fun z' => r.er.ne j i es ds p n z hi (by rw [← z']; exact g1) h1)]; exact g3, g4, DpAll.up l _ _ g5⟩
    · have f : ∀ (j : Nat) (es : List D), (ρ.set i (some (Cell.fz (.list ds))))[j]? = some (some (Cell.ow es)) → ρ[j]? = some (some (Cell.ow es)) := fun j es h => by
        rcases get_set h with ⟨rfl, z, l⟩ | ⟨n, z⟩
        · cases z
        · exact z
      exact r.er.ne j k es fs a n (f j es z1) (f k fs z2) h3
    · by_cases z : a = p
      · subst z; exact .inr (r.yo i ds _ hi h1)
      · rw [upd_ne z] at e; exact r.ex.nw a o e
    · rcases get_set z1 with ⟨rfl, z, l⟩ | ⟨n, z⟩
      · cases z
      · exact r.yo j es a z h2
  · exact ⟨G, r, .refl⟩
section
variable {X : Cx} {pos : Pos}
theorem P.frz {st : Stmt} {F : M Out} (i : Nat) (h : PS X st (tS X.K F)) : PS X st (tS X.K (sFrz i F)) := psI h fun E σ H ⟨sk, G0, H0, G, ρ, s, o, s', r, e, k⟩ => by
  obtain ⟨G', r', _⟩ := r.fz i
  exact ⟨sk, G0, H0, G', _root_.PL.frz i ρ, s, o, s', r', e, k⟩
theorem P.frzs {st : List Stmt} {F : M Out} (i : Nat) (h : PSs X st (tS X.K F)) : PSs X st (tS X.K (sFrz i F)) := pssI h fun E σ H ⟨sk, G0, H0, G, ρ, s, o, s', r, e, k⟩ => by
  obtain ⟨G', r', _⟩ := r.fz i
  exact ⟨sk, G0, H0, G', _root_.PL.frz i ρ, s, o, s', r', e, k⟩
/-- a new list is data -/
def mL (F : M (List D)) : M D := mThen F fun ds => mLift (some (.list ds))
theorem P.ofL {e : Expr} {F : M (List D)} (h : PE X e (tL X.K F)) : PE X e (tP X.K (mL F)) := peI h fun σ H Q ⟨sk, G, ρ, s, d, s', w, r, e, k⟩ => by
  obtain ⟨ds, s1, q1, q⟩ := mThen_some e
  obtain ⟨q2, rfl⟩ := mLift_some q
  cases q2
  refine ⟨sk, G, ρ, s, ds, s', w, r, q1, fun p vs G' H' w' x hp np hl gp dl => ?_⟩
  have l : Le G' (upd G' p (.lst vs)) := fun a o e => by rw [upd_ne (ne_of_none e gp)]; exact e
  refine k (.ref p) (upd G' p (.lst vs)) H' ⟨fun a o e => ?_, fun a e => ?_⟩ ⟨x.gs.trans l, x.hs, fun a o e => ?_, x.th⟩ (.inl (.lst (SqL.of upd_same) (DpAll.up l _ _ dl)))
  · by_cases z : a = p
    · subst z; rw [upd_same] at e; cases e; exact hl
    · rw [upd_ne z] at e; exact w'.sub a o e
  · obtain ⟨gn, ws, h6, h7⟩ := w'.sack a e
    exact ⟨by rw [upd_ne (fun z => np (by rw [← z]; exact e))]; exact gn, ws, h6, DpAll.up l _ _ h7⟩
  · by_cases z : a = p
    · subst z; exact .inr hp
    · rw [upd_ne z] at e; exact x.nw a o e
theorem tAsgL_of {K : PySem.W.Frag} {i : Nat} {f : M (List D)} {E : Ends} {σ : L2.St} {H : Hp} (t : tS K (sOwn i f) E σ H) : tAsg (tL K f) (gName i) E σ H := by
  obtain ⟨sk, G0, H0, G, ρ, s, o, s', r, e, k⟩ := t
  unfold sOwn at e
  split at e
  · rename_i ds s1 e1
    cases e
    exact ⟨sk, G, ρ, s, ds, s', r.vw, r.er, e1, fun p vs G' H' w' x hp np hl gp dl => k _ G' H' ((r.on w' x).setO i hl gp np (r.h0 hp) dl (fun j ds q => r.er.nw hp j ds q))⟩
  · cases e
theorem P.own {i : Nat} {x : Str} {e : Expr} {f : M (List D)} {pos' : Pos} (hN : X.N.Nodup) (hi : X.N[i]? = some x) (hx : Loc X.env.scope x) (he : PE X e (tL X.K f)) (hs : swapsWith e (some (.Name x pos')) pos.line X.env = pure false := by rfl) (hf : X.fn x = true ∨ X.env.scope.names.lookup x = some .local := by first | exact .inl rfl | exact .inr rfl | assumption) :
    PS X (.Assign [.Name x pos'] e pos) (tS X.K (sOwn i f)) := psI (ps_set hN hi hx he hs hf) fun _ _ _ t => tAsgL_of t
theorem P.lst {es : List Expr} {f : M (List D)} (h : PA X es (tA X.K f)) (big : ∀ ρ s ds s', f ρ s = some (ds, s') → ds.length ≤ sizeLine) (nd : ∀ ρ s ds s', f ρ s = some (ds, s') → ds.all isD = true) : PE X (.List es pos) (tL X.K f) :=
  peI (pe_lst h) fun σ H Q ⟨sk, G, ρ, s, d, s', w, r, e, k⟩ => by
    refine ⟨sk, G, ρ, s, d, s', w, r, e, fun vs G' H' w' x q => ?_⟩
    have dl : DpAll X.K G' vs d := by
      have all := nd _ _ _ _ e
      clear e k
      induction q with
      | nil => exact .nil
      | cons h t ih =>
        rw [List.all_cons, Bool.and_eq_true] at all
        exact .cons (h.dp all.1) (ih all.2)
    refine ⟨by rw [DpAll.length dl]; exact big _ _ _ _ e, fun p hp => ?_⟩
    have gp : G' p = none := by
      cases q : G' p with
      | none => rfl
      | some u => rw [w'.sub p u q] at hp; cases hp
    have np : sk ≠ some p := fun z => by
      obtain ⟨_, ws, h6, _⟩ := w'.sack p z
      rw [h6] at hp; cases hp
    have up : ∀ a o, H' a = some o → upd H' p (.lst vs) a = some o := fun a o e => by rw [upd_ne (ne_of_none e hp)]; exact e
    refine k p vs G' _ ⟨fun a o e => up a o (w'.sub a o e), fun a e => ?_⟩ ⟨x.gs, fun a o e n => up a o (x.hs a o e n), x.nw, fun a e => ?_⟩ (x.th p hp) np upd_same gp dl
    · obtain ⟨gn, ws, h6, h7⟩ := w'.sack a e
      exact ⟨gn, ws, up a _ h6, h7⟩
    · by_cases z : a = p
      · subst z; rw [upd_same] at e; cases e
      · rw [upd_ne z] at e; exact x.th a e
/-- the items of the list at a name -/
def owAt (i : Nat) (ρ : Env) : Option (List D) := match ρ[i]? with
  | some (some (Cell.ow ds)) => some ds
  | _ => none
theorem owAt_some {i : Nat} {ρ : Env} {ds : List D} (h : owAt i ρ = some ds) : ρ[i]? = some (some (Cell.ow ds)) := by
  unfold owAt at h
  split at h
  · cases h; assumption
  · cases h
/-- x.append(e) -/
def sApp (i : Nat) (a : M D) : M Out := fun ρ s => match a ρ s with
  | some (d, s1) => (match owAt i ρ with
    | some ds => if ds.length < sizeLine ∧ isD d = true then some (.nx (ρ.set i (some (.ow (ds ++ [d])))), s1) else none
    | none => none)
  | none => none
theorem P.app {i : Nat} {x : Str} {e : Expr} {f : M D} {p1 apos cpos : Pos} (hN : X.N[i]? = some x) (hv : Vis X.env.scope x) (he : PE X e (tP X.K f)) (hd : (x == ("__debug__" : Str)) = false := by decide) (hcd : (x == ("__classdict__" : Str)) = false := by decide)
    (hbase : attributeBase (.Name x p1) "append" X.env (eval (.Name x p1) X.env) = eval (.Name x p1) X.env := by rfl)
    (hfew : ((backTo cpos (starEach [e] X.env)).all (fun x => !x.1) && (backToKw cpos (keywordEach [] X.env)).all (fun x => x.1.isSome)
      && decide (([e] : List Expr).length + ([] : List Keyword).length + (if ([] : List Keyword).isEmpty then 0 else 1) < 30)) = true := by rfl)
    (hline : (apos.endLine == cpos.line) = true := by rfl) (hs : starEach [e] X.env = (false, eval e X.env) :: starEach [] X.env := by rfl) (hplain : (backTo cpos (starEach [] X.env)).any (·.1) = false := by rfl)
    (hsw : swapsWith (.Call (.Attribute (.Name x p1) "append" apos) [e] [] cpos) none pos.line X.env = pure false := by rfl) :
    PS X (.Expr (.Call (.Attribute (.Name x p1) "append" apos) [e] [] cpos) pos) (tS X.K (sApp i f)) := by
  refine psI (ps_expr (pe_bm PySem.F.plainAttrs_list PySem.F.slot_list_append PySem.F.type_list_append mt_append (pe_var hN hv hd hcd) (pa_cons he pa_nil hs) hbase hfew hline hs hplain) hsw) fun E σ H ⟨sk, G0, H0, G, ρ, s, o, s', r, e, k⟩ => ?_
  unfold sApp at e
  split at e
  · rename_i d s1 e1
    split at e
    · rename_i ds e2
      split at e
      · rename_i hc
        cases e
        have hi := owAt_some e2
        obtain ⟨a, vs, h1, h2, h3, h4, h5⟩ := r.er.ow i ds hi
        refine ⟨_, h1, .inl ⟨rfl, vs, SqL.of h2⟩, ?_⟩
        refine P.then r.vw r.er e1 fun v G' H' w' x r' q => ?_
        have h6 := x.hs a _ h2 h4
        refine ⟨a, vs, v, rfl, rfl, h6, by rw [DpAll.length h5]; exact hc.1, ?_⟩
        exact k σ G' _ ((r.on w' x).wr hi h1 (DpAll.app (DpAll.up x.gs _ _ h5) (.cons (q.dp hc.2) .nil)))
      · cases e
    · cases e
  · cases e
/-- x.pop() as a statement -/
def sPop (i : Nat) : M Out := fun ρ s => match owAt i ρ with
  | some ds => if ds ≠ [] then some (.nx (ρ.set i (some (.ow ds.dropLast))), s) else none
  | none => none
theorem DpAll.dropLast {K : PySem.W.Frag} {G : Hp} {vs : List V} {ds : List D} (h : DpAll K G vs ds) : DpAll K G vs.dropLast ds.dropLast := by
  rw [List.dropLast_eq_take, List.dropLast_eq_take, DpAll.length h]
  exact DpAll.take _ h
theorem P.pop {i : Nat} {x : Str} {p1 apos cpos : Pos} (hN : X.N[i]? = some x) (hv : Vis X.env.scope x) (hd : (x == ("__debug__" : Str)) = false := by decide) (hcd : (x == ("__classdict__" : Str)) = false := by decide)
    (hbase : attributeBase (.Name x p1) "pop" X.env (eval (.Name x p1) X.env) = eval (.Name x p1) X.env := by rfl) (hline : (apos.endLine == cpos.line) = true := by rfl)
    (hsw : swapsWith (.Call (.Attribute (.Name x p1) "pop" apos) [] [] cpos) none pos.line X.env = pure false := by rfl) :
    PS X (.Expr (.Call (.Attribute (.Name x p1) "pop" apos) [] [] cpos) pos) (tS X.K (sPop i)) := by
  refine psI (ps_expr (pe_bm0 PySem.F.plainAttrs_list PySem.F.slot_list_pop PySem.F.type_list_pop mt_pop (pe_var hN hv hd hcd) hbase hline) hsw) fun E σ H ⟨sk, G0, H0, G, ρ, s, o, s', r, e, k⟩ => ?_
  unfold sPop at e
  split at e
  · rename_i ds e2
    split at e
    · rename_i hc
      cases e
      have hi := owAt_some e2
      obtain ⟨a, vs, h1, h2, h3, h4, h5⟩ := r.er.ow i ds hi
      have hl := DpAll.length h5
      have hp : 0 < ds.length := by cases ds with | nil => exact absurd rfl hc | cons _ _ => simp
      obtain ⟨y, hy⟩ : ∃ y, vs[vs.length - 1]? = some y := ⟨vs[vs.length - 1]'(by omega), List.getElem?_eq_getElem _⟩
      exact ⟨_, h1, .inl ⟨rfl, vs, SqL.of h2⟩, a, vs, y, rfl, rfl, h2, hy, k σ G _ (r.wr hi h1 (DpAll.dropLast h5))⟩
    · cases e
  · cases e
/-- len(x) of one's own list, x[e] of it -/
def mLenO (i : Nat) : M D := fun ρ s => match owAt i ρ with
  | some ds => some (.int ds.length, s)
  | none => none
theorem P.lenO {i : Nat} {x : Str} {p p1 : Pos} (hN : X.N[i]? = some x) (hv : Vis X.env.scope x) (hg : Gl X "len") (hm : X.mg "len" = none) (hd : (x == ("__debug__" : Str)) = false := by decide) (hcd : (x == ("__classdict__" : Str)) = false := by decide) :
    PE X (.Call (.Name "len" p) [.Name x p1] [] pos) (tP X.K (mLenO i)) := by
  refine peI (pe_callB call_len_seq hg hm PySem.boot_len (pa_cons (pe_var hN hv hd hcd) pa_nil)) fun σ H Q ⟨sk, G, ρ, s, d, s', w, r, e, k⟩ => ?_
  unfold mLenO at e
  split at e
  · rename_i ds e2
    cases e
    obtain ⟨a, vs, h1, h2, h3, h4, h5⟩ := r.ow i ds (owAt_some e2)
    refine ⟨_, h1, a, vs, rfl, .inl (SqL.of h2), ?_⟩
    rw [DpAll.length h5]
    exact k _ G H w .refl (.inl (.int _))
  · cases e
def iOf : D → Option Int
  | .int i => some i
  | _ => none
def mIxO (i : Nat) (a : M D) : M D := fun ρ s => match a ρ s with
  | some (d, s1) => (match owAt i ρ, iOf d with
    | some ds, some j => (match atI ds j with
      | some y => some (y, s1)
      | none => none)
    | _, _ => none)
  | none => none
theorem DpAll.atI {K : PySem.W.Frag} {G : Hp} {vs : List V} {ds : List D} {j : Int} {d : D} (h : DpAll K G vs ds) (e : L2.atI ds j = some d) : ∃ v, L2.atI vs j = some v ∧ Dp K G v d := by
  unfold L2.atI at e ⊢
  rw [DpAll.length h]
  cases q : ixN ds.length j with
  | none => rw [q] at e; cases e
  | some n =>
    rw [q] at e
    exact DpAll.get h e
theorem P.ixO {i : Nat} {x : Str} {b : Expr} {f : M D} {p1 : Pos} (hN : X.N[i]? = some x) (hv : Vis X.env.scope x) (hb : PE X b (tP X.K f)) (hs : PlainIx b) (hd : (x == ("__debug__" : Str)) = false := by decide) (hcd : (x == ("__classdict__" : Str)) = false := by decide) :
    PE X (.Subscript (.Name x p1) b pos) (tP X.K (mIxO i f)) := by
  refine peI (pe_ix ix_list (pe_var hN hv hd hcd) hb hs) fun σ H Q ⟨sk, G, ρ, s, d, s', w, r, e, k⟩ => ?_
  unfold mIxO at e
  split at e
  · rename_i d1 s1 e1
    split at e
    · rename_i ds j e2 e3
      split at e
      · rename_i y e4
        cases e
        have ej : d1 = .int j := by cases d1 <;> first | (cases e3; rfl) | cases e3
        subst ej
        obtain ⟨a, vs, h1, h2, h3, h4, h5⟩ := r.ow i ds (owAt_some e2)
        refine ⟨_, h1, ?_⟩
        refine P.then w r e1 fun v G' H' w' x r' q => ?_
        obtain ⟨y', h6, h7⟩ := DpAll.atI h5 e4
        exact ⟨a, vs, j, y', rfl, Dp.int_of q, SqL.of (x.hs a _ h2 h4), h6, k y' G' H' w' x (.inl (Dp.up x.gs _ _ h7))⟩
      · cases e
    · cases e
  · cases e
end
end PL
namespace PL
open PySem PySem.Spec PyProof.Rows L2
/-! ### what is walked -/
/-- J yields the data ds while G stands -/
structure Yl (K : PySem.W.Frag) (J : It) (G : Hp) (ds : List D) : Prop where
  item : ∀ (G1 H1 : Hp), Le G G1 → Le G1 H1 → ∀ (i : Nat) (d : D), ds[i]? = some d → J.go i H1 ∧ ∀ x H2, J.yld i H1 x H2 → ∃ G2, Grow G1 H1 G2 H2 ∧ Dp K G2 x d
  stop : ∀ (G1 H1 : Hp), Le G G1 → Le G1 H1 → J.stop ds.length H1
/-- .. while all but the sack stands -/
structure Ye (K : PySem.W.Frag) (sk : Option Addr) (J : It) (G H : Hp) (ds : List D) : Prop where
  item : ∀ (G1 H1 : Hp), Ex sk G H G1 H1 → Le G1 H1 → ∀ (i : Nat) (d : D), ds[i]? = some d → J.go i H1 ∧ ∀ x H2, J.yld i H1 x H2 → ∃ G2, Grow G1 H1 G2 H2 ∧ Dp K G2 x d
  stop : ∀ (G1 H1 : Hp), Ex sk G H G1 H1 → Le G1 H1 → J.stop ds.length H1
theorem Yl.ye {K : PySem.W.Frag} {J : It} {G : Hp} {ds : List D} (y : Yl K J G ds) (sk : Option Addr) (H : Hp) : Ye K sk J G H ds :=
  ⟨fun G1 H1 x l => y.item G1 H1 x.gs l, fun G1 H1 x l => y.stop G1 H1 x.gs l⟩
def tI (K : PySem.W.Frag) (F : M (List D)) : TI := fun σ H R => ∃ sk G ρ s ds s', Vw K sk G H s ∧ ER K sk G H σ ρ ∧ F ρ s = some (ds, s') ∧ ∀ J G' H', Vw K sk G' H' s' → Ex sk G H G' H' → Yl K J G' ds → R J H'
def tIE (K : PySem.W.Frag) (F : M (List D)) : TI := fun σ H R => ∃ sk G ρ s ds s', Vw K sk G H s ∧ ER K sk G H σ ρ ∧ F ρ s = some (ds, s') ∧ ∀ J G' H', Vw K sk G' H' s' → Ex sk G H G' H' → Ye K sk J G' H' ds → R J H'
theorem tIE_of {K : PySem.W.Frag} {F : M (List D)} {σ : L2.St} {H : Hp} {R : It → Hp → Prop} (t : tIE K F σ H R) : tI K F σ H R := by
  obtain ⟨sk, G, ρ, s, ds, s', w, r, e, k⟩ := t
  exact ⟨sk, G, ρ, s, ds, s', w, r, e, fun J G' H' w' x y => k J G' H' w' x (y.ye sk H')⟩
def itOf : D → Option (List D)
  | .list ds => some ds
  | .tuple ds => some ds
  | _ => none
def mIt (a : M D) : M (List D) := mThen a fun x => mLift (itOf x)
/-- a list, as it stands, cannot be two -/
theorem SqL.unique {X : Cx} {pins : List (Addr × Obj)} {σ : L2.St} {H : Hp} {s : Shared} (I : Inv X pins σ H s) {a : Addr} {xs ys : List V} (h : SqL X.K H a xs) (h' : SqL X.K H a ys) : xs = ys := I.list_inj h h'
section
variable {X : Cx} {tg : Expr} {pos : Pos}
theorem P.iter {l : Expr} {f : M D} (hl : PE X l (tP X.K f)) : PI X tg l (tI X.K (mIt f)) := by
  refine ⟨fun pins s σ H R I ⟨sk, G, ρ, sS, ds, s', w, r, e, k⟩ => ?_⟩
  obtain ⟨d, s1, q1, q⟩ := mThen_some e
  obtain ⟨q2, rfl⟩ := mLift_some q
  cases d with
  | list es =>
    cases q2
    refine (pi_list hl (tg := tg)).run pins s σ H R I ?_
    refine P.then w r q1 fun v G' H' w' x r' q => ?_
    obtain ⟨a, xs, rfl, h1, h2⟩ := Dp.lst_of q
    refine ⟨a, rfl, ⟨xs, SqL.up w'.sub h1⟩, k _ G' H' w' x ⟨fun G1 H1 l1 l2 i d hd => ?_, fun G1 H1 l1 l2 => ?_⟩⟩
    · obtain ⟨y, h3, h4⟩ := DpAll.get h2 hd
      have h5 := SqL.up l2 (SqL.up l1 h1)
      refine ⟨⟨xs, y, h5, h3⟩, fun z H2 ⟨e1, e2⟩ => ?_⟩
      subst e1
      have e3 := e2 xs h5
      rw [h3] at e3; cases e3
      exact ⟨G1, .refl l2, Dp.up l1 _ _ h4⟩
    · exact ⟨xs, SqL.up l2 (SqL.up l1 h1), by rw [DpAll.length h2]; exact Nat.le_refl _⟩
  | tuple es =>
    cases q2
    refine (pi_tup hl (tg := tg)).run pins s σ H R I ?_
    refine P.then w r q1 fun v G' H' w' x r' q => ?_
    obtain ⟨a, xs, rfl, h1, h2⟩ := Dp.tup_of q
    refine ⟨a, rfl, ⟨xs, SqT.up w'.sub h1⟩, k _ G' H' w' x ⟨fun G1 H1 l1 l2 i d hd => ?_, fun G1 H1 l1 l2 => ?_⟩⟩
    · obtain ⟨y, h3, h4⟩ := DpAll.get h2 hd
      have h5 := SqT.up l2 (SqT.up l1 h1)
      refine ⟨⟨xs, y, h5, h3⟩, fun z H2 ⟨e1, e2⟩ => ?_⟩
      subst e1
      have e3 := e2 xs h5
      rw [h3] at e3; cases e3
      exact ⟨G1, .refl l2, Dp.up l1 _ _ h4⟩
    · exact ⟨xs, SqT.up l2 (SqT.up l1 h1), by rw [DpAll.length h2]; exact Nat.le_refl _⟩
  | _ => cases q2
theorem P.iterE {l : Expr} {F : M (List D)} (h : PI X tg l (tI X.K F)) : PI X tg l (tIE X.K F) := piI h fun _ _ _ t => tIE_of t
/-- one's own list, in a comprehension -/
def mItO (i : Nat) : M (List D) := fun ρ s => match owAt i ρ with
  | some ds => some (ds, s)
  | none => none
theorem P.iterO {i : Nat} {x : Str} {p1 : Pos} (hN : X.N[i]? = some x) (hv : Vis X.env.scope x) (hd : (x == ("__debug__" : Str)) = false := by decide) (hcd : (x == ("__classdict__" : Str)) = false := by decide) : PI X tg (.Name x p1) (tIE X.K (mItO i)) := by
  refine piI (pi_list (pe_var hN hv hd hcd)) fun σ H Q ⟨sk, G, ρ, s, d, s', w, r, e, k⟩ => ?_
  unfold mItO at e
  split at e
  · rename_i ds e2
    cases e
    obtain ⟨a, vs, h1, h2, h3, h4, h5⟩ := r.ow i d (owAt_some e2)
    refine ⟨_, h1, a, rfl, ⟨vs, SqL.of h2⟩, k _ G H w .refl ⟨fun G1 H1 x1 l2 i d hd => ?_, fun G1 H1 x1 l2 => ?_⟩⟩
    · obtain ⟨y, h6, h7⟩ := DpAll.get h5 hd
      have h8 : SqL X.K H1 a vs := SqL.of (x1.hs a _ h2 h4)
      refine ⟨⟨vs, y, h8, h6⟩, fun z H2 ⟨e1, e2⟩ => ?_⟩
      subst e1
      have e3 := e2 vs h8
      rw [h6] at e3; cases e3
      exact ⟨G1, .refl l2, Dp.up x1.gs _ _ h7⟩
    · exact ⟨vs, SqL.of (x1.hs a _ h2 h4), by rw [DpAll.length h5]; exact Nat.le_refl _⟩
  · cases e
def rgD (lo : Int) (n : Nat) : List D := (List.range n).map fun (i : Nat) => PyData.int (lo + (i : Int))
def okRg (i : Int) : Bool := decide (-(2 ^ 62) ≤ i) && decide (i < 2 ^ 62)
def rg1 : List D → Option (List D)
  | [.int j] => if okRg j = true then some (rgD 0 j.toNat) else none
  | _ => none
def rg2 : List D → Option (List D)
  | [.int i, .int j] => if okRg i = true ∧ okRg j = true then some (rgD i (j - i).toNat) else none
  | _ => none
theorem yl_rg {K : PySem.W.Frag} {lo : Int} {n : Nat} {G : Hp} : Yl K (Itr lo n) G (rgD lo n) :=
  ⟨fun G1 H1 l1 l2 i d hd => by
    unfold rgD at hd
    rw [List.getElem?_map] at hd
    cases q : (List.range n)[i]? with
    | none => rw [q] at hd; cases hd
    | some j =>
      rw [q] at hd
      have hi := (List.getElem?_eq_some_iff.mp q)
      obtain ⟨hi, hj⟩ := hi
      rw [List.getElem_range] at hj
      subst hj
      cases hd
      refine ⟨(by simpa using hi : i < n), fun x H2 ⟨e1, e2⟩ => ?_⟩
      subst e1; subst e2
      exact ⟨G1, .refl l2, .int _⟩, fun G1 H1 l1 l2 => by
    show n ≤ (rgD lo n).length
    unfold rgD
    simp⟩
def mA {α : Type} (f : List D → Option α) (a : M (List D)) : M α := mThen a fun xs => mLift (f xs)
theorem P.rng1 {a : Expr} {fa : M (List D)} {p : Pos} (hg : Gl X "range") (hm : X.mg "range" = none) (ha : PA X [a] (tA X.K fa)) (hs : starEach [a] X.env = [(false, eval a X.env)] := by rfl) : PI X tg (.Call (.Name "range" p) [a] [] pos) (tI X.K (mA rg1 fa)) :=
  piI (pi_range1 hg hm ha hs) fun σ H Q ⟨sk, G, ρ, s, d, s', w, r, e, k⟩ => by
    obtain ⟨as, s1, q1, q⟩ := mThen_some e
    obtain ⟨q2, rfl⟩ := mLift_some q
    refine ⟨sk, G, ρ, s, as, s', w, r, q1, fun vs G' H' w' x ps => ?_⟩
    unfold rg1 at q2
    split at q2
    · split at q2
      · rename_i j hj
        cases q2
        cases ps with
        | cons h t =>
          cases t
          rw [Dp.int_of h]
          unfold okRg at hj
          rw [Bool.and_eq_true] at hj
          exact ⟨j, rfl, of_decide_eq_true hj.1, of_decide_eq_true hj.2, k _ G' H' w' x yl_rg⟩
      · cases q2
    · cases q2
theorem P.rng2 {a b : Expr} {fa : M (List D)} {p : Pos} (hg : Gl X "range") (hm : X.mg "range" = none) (ha : PA X [a, b] (tA X.K fa)) (hs : starEach [a, b] X.env = [(false, eval a X.env), (false, eval b X.env)] := by rfl) (hs2 : starEach [b] X.env = [(false, eval b X.env)] := by rfl) :
    PI X tg (.Call (.Name "range" p) [a, b] [] pos) (tI X.K (mA rg2 fa)) :=
  piI (pi_range2 hg hm ha hs hs2) fun σ H Q ⟨sk, G, ρ, s, d, s', w, r, e, k⟩ => by
    obtain ⟨as, s1, q1, q⟩ := mThen_some e
    obtain ⟨q2, rfl⟩ := mLift_some q
    refine ⟨sk, G, ρ, s, as, s', w, r, q1, fun vs G' H' w' x ps => ?_⟩
    unfold rg2 at q2
    split at q2
    · split at q2
      · rename_i i j hj
        cases q2
        cases ps with
        | cons h t =>
          cases t with
          | cons h' t =>
            cases t
            rw [Dp.int_of h, Dp.int_of h']
            unfold okRg at hj
            rw [Bool.and_eq_true, Bool.and_eq_true] at hj
            exact ⟨i, j, rfl, ⟨of_decide_eq_true hj.1.1, of_decide_eq_true hj.1.2, of_decide_eq_true hj.2.1, of_decide_eq_true hj.2.2⟩, k _ G' H' w' x yl_rg⟩
      · cases q2
    · cases q2
end
/-! ### for, while -/
def forL (p : Pat) (body : M Out) : List D → M Out
  | [] => sNx
  | x :: xs => fun ρ s => match bnd p x ρ s with
    | none => none
    | some (ρ1, s1) => match body ρ1 s1 with
      | some (.nx ρ2, s2) => forL p body xs ρ2 s2
      | some (.ct ρ2, s2) => forL p body xs ρ2 s2
      | some (.bk ρ2, s2) => some (.nx ρ2, s2)
      | r => r
def sFor (it : M (List D)) (p : Pat) (body : M Out) : M Out := fun ρ s => match it ρ s with
  | some (xs, s1) => forL p body xs ρ s1
  | none => none
def whL (c : M Bool) (body : M Out) : Nat → M Out
  | 0 => fun _ _ => none
  | n + 1 => fun ρ s => match c ρ s with
    | some (true, s1) => (match body ρ s1 with
      | some (.nx ρ2, s2) => whL c body n ρ2 s2
      | some (.ct ρ2, s2) => whL c body n ρ2 s2
      | some (.bk ρ2, s2) => some (.nx ρ2, s2)
      | r => r)
    | some (false, s1) => some (.nx ρ, s1)
    | none => none
/-- turns: how many may be, by the state -/
def sWh (turns : Env → S → Nat) (c : M Bool) (body : M Out) : M Out := fun ρ s => whL c body (turns ρ s) ρ s
theorem SR.grow {K : PySem.W.Frag} {sk : Option Addr} {G0 H0 G H G' H' : Hp} {σ : L2.St} {ρ : Env} {s : S} (r : SR K sk G0 H0 G H σ ρ s) (g : Grow G H G' H') : SR K sk G0 H0 G' H' σ ρ s := r.on (g.vw r.vw) (g.ex sk)
/-- a loop's own base: what is held there stays -/
theorem SR.rebase {K : PySem.W.Frag} {sk : Option Addr} {G0 H0 G H : Hp} {σ : L2.St} {ρ : Env} {s : S} (r : SR K sk G0 H0 G H σ ρ s) : ∃ Hb, SR K sk G Hb G H σ ρ s ∧ (∀ G' H', Ex sk G Hb G' H' → Ex sk G0 H0 G' H') ∧ ∀ a, Hb a = none → H0 a = none := by
  classical
  let own : Addr → Prop := fun a => ∃ (i : Nat) (ds : List D), ρ[i]? = some (some (Cell.ow ds)) ∧ σ[i]? = some (some (V.ref a))
  let Hb : Hp := fun a => if own a then none else H a
  have hb : ∀ a o, Hb a = some o → ¬ own a ∧ H a = some o := fun a o e => by
    have e' : (if own a then none else H a) = some o := e
    split at e'
    · cases e'
    · exact ⟨by assumption, e'⟩
  have hn : ∀ a, Hb a = none → H0 a = none := fun a e => by
    have e' : (if own a then none else H a) = none := e
    split at e'
    · rename_i ho
      obtain ⟨i, ds, h1, h2⟩ := ho
      exact r.yo i ds a h1 h2
    · exact r.ex.th a e'
  refine ⟨Hb, ⟨r.vw, r.er, ⟨.refl, fun a o e _ => (hb a o e).2, fun _ _ e => .inl e, fun a e => ?_⟩, fun i ds a h1 h2 => ?_⟩, fun G' H' x => ⟨r.ex.gs.trans x.gs, fun a o e n => ?_, fun a o e => ?_, fun a e => hn a (x.th a e)⟩, hn⟩
  · show (if own a then none else H a) = none
    split
    · rfl
    · exact e
  · show (if own a then none else H a) = none
    rw [if_pos ⟨i, ds, h1, h2⟩]
  · refine x.hs a o ?_ n
    show (if own a then none else H a) = some o
    rw [if_neg (fun ⟨i, ds, h1, h2⟩ => by rw [r.yo i ds a h1 h2] at e; cases e)]
    exact r.ex.hs a o e n
  · rcases x.nw a o e with z | z
    · exact r.ex.nw a o z
    · exact .inr (hn a z)
theorem SR.back {K : PySem.W.Frag} {sk : Option Addr} {G0 H0 G Hb G' H' : Hp} {σ : L2.St} {ρ : Env} {s : S} (hx : ∀ G' H', Ex sk G Hb G' H' → Ex sk G0 H0 G' H') (hn : ∀ a, Hb a = none → H0 a = none) (r : SR K sk G Hb G' H' σ ρ s) : SR K sk G0 H0 G' H' σ ρ s :=
  ⟨r.vw, r.er, hx _ _ r.ex, fun i ds a h1 h2 => hn a (r.yo i ds a h1 h2)⟩
theorem Post.back {K : PySem.W.Frag} {sk : Option Addr} {G0 H0 G Hb : Hp} {E : Ends} {s' : S} {o : Out} (hx : ∀ G' H', Ex sk G Hb G' H' → Ex sk G0 H0 G' H') (hn : ∀ a, Hb a = none → H0 a = none) (k : Post K sk G0 H0 E s' o) : Post K sk G Hb E s' o := by
  cases o with
  | nx ρ => exact fun σ' G' H' r => k σ' G' H' (r.back hx hn)
  | bk ρ => exact fun σ' G' H' r => k σ' G' H' (r.back hx hn)
  | ct ρ => exact fun σ' G' H' r => k σ' G' H' (r.back hx hn)
  | rt d => exact fun v G' H' w x q => k v G' H' w (hx _ _ x) q
  | rl d => exact fun p vs G' H' w x hp np hl gp dl => k p vs G' H' w (hx _ _ x) (hn p hp) np hl gp dl
section
variable {X : Cx} {tg : Expr} {pos : Pos}
theorem P.for {iter : Expr} {body : List Stmt} {it : M (List D)} {p : Pat} {fb : M Out} (hp : PassesOwn (model X.prog X.w) X.A X.env X.xe) (hc : X.calm = true) (hi : PI X tg iter (tI X.K it)) (hg : PG X tg (tG X.K p)) (hb : PSs X body (tS X.K fb))
    (hs : ∀ x, foldedSetIterable iter X.env x = pure x := by intro _; rfl) : PS X (.For tg iter body [] pos) (tS X.K (sFor it p fb)) := by
  refine psI (ps_for hp hc hi hg hb hs) fun E σ H ⟨sk, G0, H0, G, ρ, s, o, s', r, e, k⟩ => ?_
  unfold sFor at e
  split at e
  · rename_i xs s1 e1
    refine ⟨sk, G, ρ, s, xs, s1, r.vw, r.er, e1, fun J G1 H1 w1 x1 y => ?_⟩
    obtain ⟨Hb, rb, hx, hn⟩ := (r.on w1 x1).rebase
    have kb := k.back hx hn
    refine ⟨fun i m σ H => m = xs.length - i ∧ i ≤ xs.length ∧ ∃ G ρ t, SR X.K sk G1 Hb G H σ ρ t ∧ forL p fb (xs.drop i) ρ t = some (o, s'), ⟨_, rfl, Nat.zero_le _, G1, ρ, s1, rb, e⟩, ?_⟩
    rintro i m σ2 H2 ⟨rfl, hi, G2, ρ2, t2, r2, e2⟩
    have l2 : Le G1 G2 := r2.ex.gs
    by_cases hlt : i < xs.length
    · right
      rw [List.drop_eq_getElem_cons hlt] at e2
      have hx : xs[i]? = some xs[i] := List.getElem?_eq_getElem hlt
      obtain ⟨go, yl⟩ := y.item G2 H2 l2 r2.vw.sub i _ hx
      refine ⟨go, fun σ' H' => ∃ G ρ t, SR X.K sk G1 Hb G H' σ' ρ t ∧ forL p fb (xs.drop (i + 1)) ρ t = some (o, s'), fun σ' H' q => ⟨_, by omega, rfl, hlt, q⟩, fun v H3 yv => ?_⟩
      obtain ⟨G3, g3, d3⟩ := yl v H3 yv
      unfold forL at e2
      split at e2
      · cases e2
      · rename_i ρ3 t3 e3
        refine ⟨sk, G1, Hb, G3, ρ2, t2, xs[i], ρ3, t3, r2.grow g3, .inl d3, e3, fun σ4 G4 H4 l4 _ r4 => ?_⟩
        cases q : fb ρ3 t3 with
        | none => rw [q] at e2; cases e2
        | some r =>
          obtain ⟨o5, t5⟩ := r
          rw [q] at e2
          refine ⟨sk, G1, Hb, G4, ρ3, t3, o5, t5, r4, q, ?_⟩
          cases o5 with
          | nx ρ5 => exact fun σ' G' H' r' => ⟨G', ρ5, t5, r', e2⟩
          | ct ρ5 => exact fun σ' G' H' r' => ⟨G', ρ5, t5, r', e2⟩
          | bk ρ5 =>
            cases e2
            exact kb
          | rt d =>
            cases e2
            exact kb
          | rl d =>
            cases e2
            exact kb
    · have hl : i = xs.length := by omega
      subst hl
      left
      rw [List.drop_length] at e2
      cases e2
      exact ⟨y.stop G2 H2 l2 r2.vw.sub, kb σ2 G2 H2 r2⟩
  · cases e
theorem P.while {c : Expr} {body : List Stmt} {fc : M Bool} {fb : M Out} (turns : Env → S → Nat) (hp : PassesOwn (model X.prog X.w) X.A X.env X.xe) (hc : PT X c (tQ X.K fc)) (hb : PSs X body (tS X.K fb)) : PS X (.While c body [] pos) (tS X.K (sWh turns fc fb)) := by
  refine psI (ps_while hp hc hb) fun E σ H ⟨sk, G0, H0, G, ρ, s, o, s', r, e, k⟩ => ?_
  unfold sWh at e
  refine ⟨fun m σ H => ∃ G ρ t, SR X.K sk G0 H0 G H σ ρ t ∧ whL fc fb m ρ t = some (o, s'), ⟨turns ρ s, G, ρ, s, r, e⟩, ?_⟩
  rintro m σ2 H2 ⟨G2, ρ2, t2, r2, e2⟩
  cases m with
  | zero => cases e2
  | succ n =>
    unfold whL at e2
    cases q : fc ρ2 t2 with
    | none => rw [q] at e2; cases e2
    | some b =>
      obtain ⟨b, t3⟩ := b
      rw [q] at e2
      refine ⟨sk, G2, ρ2, t2, b, t3, r2.vw, r2.er, q, fun G3 H3 w3 x3 => ?_⟩
      cases b with
      | false =>
        cases e2
        exact k σ2 G3 H3 (r2.on w3 x3)
      | true =>
        refine ⟨fun σ H => ∃ G ρ t, SR X.K sk G0 H0 G H σ ρ t ∧ whL fc fb n ρ t = some (o, s'), fun σ' H' q => ⟨n, Nat.lt_succ_self _, q⟩, ?_⟩
        cases q5 : fb ρ2 t3 with
        | none => simp only [q5] at e2; cases e2
        | some r5 =>
          obtain ⟨o5, t5⟩ := r5
          simp only [q5] at e2
          refine ⟨sk, G0, H0, G3, ρ2, t3, o5, t5, r2.on w3 x3, q5, ?_⟩
          cases o5 with
          | nx ρ5 => exact fun σ' G' H' r' => ⟨G', ρ5, t5, r', e2⟩
          | ct ρ5 => exact fun σ' G' H' r' => ⟨G', ρ5, t5, r', e2⟩
          | bk ρ5 =>
            cases e2
            exact k
          | rt d =>
            cases e2
            exact k
          | rl d =>
            cases e2
            exact k
end
end PL
namespace PL
open PySem PySem.Spec PyProof.Rows L2
/-! ### comprehensions -/
def wipeE (ρ : Env) : List Nat → Env
  | [] => ρ
  | v :: vs => (wipeE ρ vs).set v none
def lcGo (p : Pat) (c : M Bool) (f : M D) (ρ0 : Env) : List D → S → Option (List D × S)
  | [], s => some ([], s)
  | x :: xs, s => match bnd p x ρ0 s with
    | none => none
    | some (ρ1, s1) => match c ρ1 s1 with
      | none => none
      | some (true, s2) => (match f ρ1 s2 with
        | none => none
        | some (d, s3) => if isD d = true then (match lcGo p c f ρ0 xs s3 with
          | some (ds, s4) => some (d :: ds, s4)
          | none => none) else none)
      | some (false, s2) => lcGo p c f ρ0 xs s2
def mLc (it : M (List D)) (vs : List Nat) (p : Pat) (c : M Bool) (f : M D) : M (List D) := fun ρ s => match it ρ s with
  | some (xs, s1) => if xs.length ≤ sizeLine then lcGo p c f (wipeE ρ vs) xs s1 else none
  | none => none
theorem wipe_get {σ : L2.St} {vs : List Nat} {j : Nat} (h : j ∉ vs) : (wipe σ vs)[j]? = σ[j]? := by
  induction vs with
  | nil => rfl
  | cons v vs ih =>
    rw [List.mem_cons, not_or] at h
    unfold wipe
    rw [List.getElem?_set_ne (Ne.symm h.1), ih h.2]
theorem wipe_in {σ : L2.St} {vs : List Nat} {j : Nat} (h : j ∈ vs) : (wipe σ vs)[j]? = if j < σ.length then some none else none := by
  induction vs with
  | nil => cases h
  | cons v vs ih =>
    unfold wipe
    by_cases e : v = j
    · subst e
      by_cases l : v < σ.length
      · rw [List.getElem?_set_self (by rw [wipe_length]; exact l), if_pos l]
      · rw [List.getElem?_eq_none (by rw [List.length_set, wipe_length]; omega), if_neg l]
    · rw [List.getElem?_set_ne e]
      exact ih ((List.mem_cons.mp h).resolve_left (Ne.symm e))
theorem wipe_off {σ σ2 : L2.St} {vs l : List Nat} (hl : ∀ i ∈ l, i ∈ vs) (h : Off l (wipe σ vs) σ2) (hlen : σ2.length = (wipe σ vs).length) : wipe σ2 vs = wipe σ vs := by
  apply List.ext_getElem?
  intro j
  by_cases hj : j ∈ vs
  · rw [wipe_in hj, wipe_in hj, hlen, wipe_length]
  · rw [wipe_get hj, h j (fun z => hj (hl j z))]
theorem wipeE_get {ρ : Env} {vs : List Nat} {i : Nat} {c : Cell} (h : (wipeE ρ vs)[i]? = some (some c)) : ρ[i]? = some (some c) ∧ i ∉ vs := by
  induction vs with
  | nil => exact ⟨h, by simp⟩
  | cons v vs ih =>
    unfold wipeE at h
    rcases get_set h with ⟨_, z, _⟩ | ⟨n, z⟩
    · cases z
    · obtain ⟨a, b⟩ := ih z
      exact ⟨a, by rw [List.mem_cons, not_or]; exact ⟨n, b⟩⟩
theorem wipeE_length {ρ : Env} {vs : List Nat} : (wipeE ρ vs).length = ρ.length := by
  induction vs with
  | nil => rfl
  | cons v vs ih => unfold wipeE; rw [List.length_set, ih]
theorem ER.wipe {K : PySem.W.Frag} {sk : Option Addr} {G H : Hp} {σ : L2.St} {ρ : Env} (r : ER K sk G H σ ρ) (vs : List Nat) : ER K sk G H (L2.wipe σ vs) (wipeE ρ vs) :=
  ⟨by rw [wipe_length, wipeE_length, r.len], fun i d h => by
    obtain ⟨a, b⟩ := wipeE_get h
    rw [wipe_get b]
    exact r.fz i d a, fun i ds h => by
    obtain ⟨a, b⟩ := wipeE_get h
    rw [wipe_get b]
    exact r.ow i ds a, fun i j ds es a n h1 h2 h3 => by
    obtain ⟨a1, b1⟩ := wipeE_get h1
    obtain ⟨a2, b2⟩ := wipeE_get h2
    rw [wipe_get b1] at h3
    rw [wipe_get b2]
    exact r.ne i j ds es a n a1 a2 h3⟩
section
variable {X : Cx} {tg : Expr} {pos : Pos}
theorem SR.init {K : PySem.W.Frag} {sk : Option Addr} {G H : Hp} {σ : L2.St} {ρ : Env} {s : S} (w : Vw K sk G H s) (r : ER K sk G H σ ρ) : ∃ Hb, SR K sk G Hb G H σ ρ s := by
  classical
  let own : Addr → Prop := fun a => ∃ (i : Nat) (ds : List D), ρ[i]? = some (some (Cell.ow ds)) ∧ σ[i]? = some (some (V.ref a))
  let Hb : Hp := fun a => if own a then none else H a
  refine ⟨Hb, w, r, ⟨.refl, fun a o e _ => ?_, fun _ _ e => .inl e, fun a e => ?_⟩, fun i ds a h1 h2 => ?_⟩
  · have e' : (if own a then none else H a) = some o := e
    split at e'
    · cases e'
    · exact e'
  · show (if own a then none else H a) = none
    split
    · rfl
    · exact e
  · show (if own a then none else H a) = none
    rw [if_pos ⟨i, ds, h1, h2⟩]
mutual
theorem bnd_len : ∀ {p : Pat} {d : D} {ρ ρ' : Env} {s s' : S}, bnd p d ρ s = some (ρ', s') → ρ.length = ρ'.length
  | .nm i, d, ρ, ρ', s, s', e => by unfold bnd at e; cases e; simp
  | .tp ps, .tuple ds, ρ, ρ', s, s', e => by unfold bnd at e; exact bnds_len e
  | .sb i k, d, ρ, ρ', s, s', e => by
    unfold bnd at e
    split at e
    · split at e
      · cases e; rfl
      · cases e
    · cases e
  | .tp ps, .none, ρ, ρ', s, s', e => by unfold bnd at e; cases e
  | .tp ps, .bool _, ρ, ρ', s, s', e => by unfold bnd at e; cases e
  | .tp ps, .int _, ρ, ρ', s, s', e => by unfold bnd at e; cases e
  | .tp ps, .str _, ρ, ρ', s, s', e => by unfold bnd at e; cases e
  | .tp ps, .list ds, ρ, ρ', s, s', e => by unfold bnd at e; exact bnds_len e
  | .tp ps, .dict _, ρ, ρ', s, s', e => by unfold bnd at e; cases e
theorem bnds_len : ∀ {ps : List Pat} {ds : List D} {ρ ρ' : Env} {s s' : S}, bnds ps ds ρ s = some (ρ', s') → ρ.length = ρ'.length
  | [], [], ρ, ρ', s, s', e => by unfold bnds at e; cases e; rfl
  | p :: ps, d :: ds, ρ, ρ', s, s', e => by
    unfold bnds at e
    split at e
    · rename_i ρ1 s1 e1
      rw [bnd_len e1, bnds_len e]
    · cases e
  | [], _ :: _, ρ, ρ', s, s', e => by unfold bnds at e; cases e
  | _ :: _, [], ρ, ρ', s, s', e => by unfold bnds at e; cases e
end
theorem tLc_of {K : PySem.W.Frag} {it : M (List D)} {vs : List Nat} {p : Pat} {fc : M Bool} {f : M D} (hv : ∀ i ∈ slo p, i ∈ vs) {σ : L2.St} {H : Hp} {Q : VK} (t : tL K (mLc it vs p fc f) σ H Q) : tLc (tIE K it) (tG K p) (tQ K fc) (tP K f) vs σ H Q := by
  obtain ⟨sk, G, ρ, s, ds, s', w, r, e, k⟩ := t
  have k' := k
  unfold mLc at e
  split at e
  · rename_i xs s1 e1
    split at e
    · rename_i hsz
      refine ⟨sk, G, ρ, s, xs, s1, w, r, e1, fun J G1 H1 w1 x1 y L hL => ?_⟩
      have nL : sk ≠ some L := fun z => by
        obtain ⟨_, ws, h6, _⟩ := w1.sack L z
        rw [h6] at hL; cases hL
      have gL : G1 L = none := by
        cases q : G1 L with
        | none => rfl
        | some u => rw [w1.sub L u q] at hL; cases hL
      refine ⟨fun i m H => m = xs.length - i ∧ i ≤ xs.length ∧ ∃ G t acc ad es, Vw K sk G H t ∧ Ex sk G1 H1 G H ∧ H L = some (.lst acc) ∧ G L = none ∧ acc.length ≤ i ∧ DpAll K G acc ad ∧ lcGo p fc f (wipeE ρ vs) (xs.drop i) t = some (es, s') ∧ ds = ad ++ es,
        ⟨_, rfl, Nat.zero_le _, G1, s1, [], [], ds, ?_, ?_, upd_same, gL, Nat.zero_le _, .nil, e, rfl⟩, ?_⟩
      · refine ⟨fun a o e => by rw [upd_ne (ne_of_none (w1.sub a o e) hL)]; exact w1.sub a o e, fun a e => ?_⟩
        obtain ⟨gn, ws, h6, h7⟩ := w1.sack a e
        exact ⟨gn, ws, by rw [upd_ne (ne_of_none h6 hL)]; exact h6, h7⟩
      · refine ⟨.refl, fun a o e _ => by rw [upd_ne (ne_of_none e hL)]; exact e, fun _ _ e => .inl e, fun a e => ?_⟩
        by_cases z : a = L
        · subst z; exact hL
        · rw [upd_ne z] at e; exact e
      rintro i m H2 ⟨rfl, hi, G2, t2, acc, ad, es, w2, x2, hl2, gl2, al, da, e2, rfl⟩
      by_cases hlt : i < xs.length
      · right
        rw [List.drop_eq_getElem_cons hlt] at e2
        have hx : xs[i]? = some xs[i] := List.getElem?_eq_getElem hlt
        obtain ⟨go, yl⟩ := y.item G2 H2 x2 w2.sub i _ hx
        refine ⟨go, fun H' => ∃ G t acc ad' es', Vw K sk G H' t ∧ Ex sk G1 H1 G H' ∧ H' L = some (.lst acc) ∧ G L = none ∧ acc.length ≤ i + 1 ∧ DpAll K G acc ad' ∧ lcGo p fc f (wipeE ρ vs) (xs.drop (i + 1)) t = some (es', s') ∧ ad ++ es = ad' ++ es', fun H' q => ⟨_, by omega, rfl, hlt, q⟩, fun v H3 yv => ?_⟩
        obtain ⟨G3, g3, d3⟩ := yl v H3 yv
        unfold lcGo at e2
        split at e2
        · cases e2
        · rename_i ρ3 t3 e3
          have e3' : ER K sk G3 H3 (L2.wipe σ vs) (wipeE ρ vs) := (((r.ex x1).ex x2).ex (g3.ex sk)).wipe vs
          obtain ⟨Hb, r3⟩ := SR.init (g3.vw w2) e3'
          refine ⟨sk, G3, Hb, G3, _, t2, xs[i], ρ3, t3, r3, .inl d3, e3, fun σ4 G4 H4 x4 of4 r4 => ⟨?_, ?_⟩⟩
          · exact wipe_off hv of4 (by rw [r4.er.len, ← bnd_len e3, ← e3'.len])
          have x14 : Ex sk G1 H1 G4 H4 := (x2.trans (g3.ex sk)).trans x4
          have x24 : Ex sk G2 H2 G4 H4 := (g3.ex sk).trans x4
          have hl4 : H4 L = some (.lst acc) := x24.hs L _ hl2 nL
          have gl4 : G4 L = none := x24.free hl2 gl2
          cases q : fc ρ3 t3 with
          | none => simp only [q] at e2; cases e2
          | some b =>
            obtain ⟨b, t5⟩ := b
            simp only [q] at e2
            refine ⟨sk, G4, ρ3, t3, b, t5, r4.vw, r4.er, q, fun G5 H5 w5 x5 => ?_⟩
            have x45 := x24.trans x5
            cases b with
            | false =>
              show (if false = true then _ else _)
              rw [if_neg Bool.false_ne_true]
              exact ⟨G5, t5, acc, ad, es, w5, x14.trans x5, x5.hs L _ hl4 nL, x5.free hl4 gl4, by omega, DpAll.up x45.gs _ _ da, e2, rfl⟩
            | true =>
              show (if true = true then _ else _)
              rw [if_pos rfl]
              cases q6 : f ρ3 t5 with
              | none => simp only [q6] at e2; cases e2
              | some r6 =>
                obtain ⟨d6, t6⟩ := r6
                simp only [q6] at e2
                split at e2
                · rename_i hd6
                  split at e2
                  · rename_i es7 t7 e7
                    cases e2
                    refine ⟨sk, G5, ρ3, t5, d6, t6, w5, r4.er.ex x5, q6, fun y6 G6 H6 w6 x6 q7 => ?_⟩
                    have x56 := x5.trans x6
                    have hl6 : H6 L = some (.lst acc) := x56.hs L _ hl4 nL
                    have gl6 : G6 L = none := x56.free hl4 gl4
                    have w8 : Vw K sk G6 (upd H6 L (.lst (acc ++ [y6]))) t6 := ⟨fun a o e => by
                      have n : a ≠ L := fun z => by subst z; rw [gl6] at e; cases e
                      rw [upd_ne n]; exact w6.sub a o e, fun a e => by
                      obtain ⟨gn, ws, h6, h7⟩ := w6.sack a e
                      exact ⟨gn, ws, by rw [upd_ne (fun z => nL (by rw [← z]; exact e))]; exact h6, h7⟩⟩
                    refine ⟨acc, hl6, by omega, G6, t6, acc ++ [y6], ad ++ [d6], es7, w8, ?_, upd_same, gl6, by simp; omega, DpAll.app (DpAll.up (x45.trans x6).gs _ _ da) (.cons (q7.dp hd6) .nil), e7, by simp⟩
                    have x16 := x14.trans x56
                    refine ⟨x16.gs, fun a o e n => ?_, x16.nw, fun a e => ?_⟩
                    · have : a ≠ L := fun z => by subst z; rw [hL] at e; cases e
                      rw [upd_ne this]; exact x16.hs a o e n
                    · by_cases z : a = L
                      · subst z; exact hL
                      · rw [upd_ne z] at e; exact x16.th a e
                  · cases e2
                · cases e2
      · have hl : i = xs.length := by omega
        subst hl
        left
        rw [List.drop_length] at e2
        cases e2
        refine ⟨y.stop G2 H2 x2 w2.sub, ?_⟩
        have x12 := x1.trans x2
        exact k' L acc G2 H2 w2 x12 (x1.th L hL) nL hl2 gl2 (by rw [List.append_nil]; exact da)
    · cases e
  · cases e
theorem P.lc {elt iter : Expr} {ifs : List Expr} {scope : Scope} {own : List (Str × Nat)} {it : M (List D)} {p : Pat} {fc : M Bool} {f : M D} (hc : X.calm = true) (hN : X.N.Nodup) (hi : PI X tg iter (tIE X.K it)) (ok : BlkOk X.N X.env.scope scope own) (hv : ∀ i ∈ slo p, i ∈ own.map (·.2))
    (hg : ∀ (s : Shared) (H : Hp) (C : Addr) (cl : List (Str × Addr)) (fp : List Addr), PG (X.blk s H scope (compEnvC scope cl C X.env) fp) tg (tG X.K p)) (ht : ∀ (s : Shared) (H : Hp) (C : Addr) (cl : List (Str × Addr)) (fp : List Addr), PTs (X.blk s H scope (compEnvC scope cl C X.env) fp) ifs (tQ X.K fc))
    (he : ∀ (s : Shared) (H : Hp) (C : Addr) (cl : List (Str × Addr)) (fp : List Addr), PE (X.blk s H scope (compEnvC scope cl C X.env) fp) elt (tP X.K f)) (hs : ∀ x, foldedSetIterable iter X.env x = pure x := by intro _; rfl) :
    PE X (.ListComp elt [⟨tg, iter, ifs, 0⟩] scope pos) (tL X.K (mLc it (own.map (·.2)) p fc f)) :=
  peI (pe_lc hc hN hi ok hg ht he hs) fun _ _ _ t => tLc_of hv t
theorem P.nif : PTs X [] (tQ X.K (qC true)) := ⟨fun pins s σ H Q I ⟨sk, G, ρ, sS, b, s', w, r, e, k⟩ => by
  cases e
  exact (pts_nil (X := X)).run pins s σ H Q I (k G H w .refl)⟩
theorem P.one_if {c : Expr} {fc : M Bool} (h : PT X c (tQ X.K fc)) : PTs X [c] (tQ X.K fc) := pts_one h
theorem P.ownLc {i : Nat} {y : Str} {py : Pos} {elt iter : Expr} {ifs : List Expr} {scope : Scope} {own : List (Str × Nat)} {spos : Pos} {it : M (List D)} {p : Pat} {fc : M Bool} {f : M D} (hc : X.calm = true) (hN : X.N.Nodup) (hy : X.N[i]? = some y) (hyl : X.env.scope.names.lookup y = some .local)
    (hsw : swapsWith (.ListComp elt [⟨tg, iter, ifs, 0⟩] scope pos) (some (.Name y py)) spos.line X.env = pure true) (hi : PI X tg iter (tIE X.K it)) (ok : BlkOk X.N X.env.scope scope own) (hv : ∀ i ∈ slo p, i ∈ own.map (·.2))
    (hg : ∀ (s : Shared) (H : Hp) (C : Addr) (cl : List (Str × Addr)) (fp : List Addr), PG (X.blk s H scope (compEnvC scope cl C X.env) fp) tg (tG X.K p)) (ht : ∀ (s : Shared) (H : Hp) (C : Addr) (cl : List (Str × Addr)) (fp : List Addr), PTs (X.blk s H scope (compEnvC scope cl C X.env) fp) ifs (tQ X.K fc))
    (he : ∀ (s : Shared) (H : Hp) (C : Addr) (cl : List (Str × Addr)) (fp : List Addr), PE (X.blk s H scope (compEnvC scope cl C X.env) fp) elt (tP X.K f)) (hs : ∀ x, foldedSetIterable iter X.env x = pure x := by intro _; rfl) :
    PS X (.Assign [.Name y py] (.ListComp elt [⟨tg, iter, ifs, 0⟩] scope pos) spos) (tS X.K (sOwn i (mLc it (own.map (·.2)) p fc f))) := by
  refine psI (ps_setLc hc hN hy hyl hsw hi ok hg ht he hs) fun E σ H t => ?_
  have q := tAsgL_of t
  exact tLc_of hv q
end
/-! ### defs and calls -/
abbrev Fn := List D → S → Option (D × S)
def startE (N : Nat) (ds : List D) : Env := ds.map (fun d => some (Cell.fz d)) ++ List.replicate (N - ds.length) none
/-- a def with n parameters and N names -/
def fnM (n N : Nat) (body : M Out) : Fn := fun ds s => if ds.length = n then (match body (startE N ds) s with
  | some (.rt d, s') => some (d, s')
  | some (.nx _, s') => some (.none, s')
  | _ => none) else none
def spF (K : PySem.W.Frag) (F : Fn) : Sp := fun vs H Q _ => ∃ sk G ds s d s', Vw K sk G H s ∧ Paired (Dq K sk G) vs ds ∧ F ds s = some (d, s') ∧ ∀ v G' H', Vw K sk G' H' s' → Ex sk G H G' H' → Dq K sk G' v d → Q v H'
theorem Paired.get {α β : Type} {R : α → β → Prop} : ∀ {xs : List α} {ys : List β} {i : Nat} {y : β}, Paired R xs ys → ys[i]? = some y → ∃ x, xs[i]? = some x ∧ R x y
  | _, _, _, _, .nil, e => by simp at e
  | _, _, 0, _, .cons h t, e => by simp at e; subst e; exact ⟨_, rfl, h⟩
  | _, _, i + 1, _, .cons h t, e => by
    obtain ⟨v, a, b⟩ := Paired.get (i := i) t (by simpa using e)
    exact ⟨v, by simpa using a, b⟩
theorem startE_get {N : Nat} {ds : List D} {i : Nat} {c : Cell} (h : (startE N ds)[i]? = some (some c)) : ∃ d, c = .fz d ∧ ds[i]? = some d := by
  unfold startE at h
  by_cases hi : i < ds.length
  · rw [List.getElem?_append_left (by simpa using hi), List.getElem?_map] at h
    cases q : ds[i]? with
    | none => rw [q] at h; cases h
    | some d => rw [q] at h; cases h; exact ⟨d, rfl, rfl⟩
  · rw [List.getElem?_append_right (by simp; omega)] at h
    have z := List.getElem?_eq_some_iff.mp h
    obtain ⟨hz, e⟩ := z
    rw [List.getElem_replicate] at e
    cases e
theorem start_get {N : List Str} {vs : List V} {i : Nat} {v : V} (h : vs[i]? = some v) : (L2.start N vs)[i]? = some (some v) := by
  have hi : i < vs.length := (List.getElem?_eq_some_iff.mp h).1
  unfold L2.start
  rw [List.getElem?_append_left (by simpa using hi), List.getElem?_map, h]
  rfl
theorem P.fn {P : Program} {w : World} {K : PySem.W.Frag} {mg : Str → Option Value} {base : Heap} {k : Nat} {f : Addr} {nm qu : Str} {pars : Arguments} {bd : List Stmt} {sc : Scope} {dvs : List V} {kws : List (Str × V)} {fd : FuncData} {N ps : List Str} {F : M Out} {n m : Nat}
    (D : FunD K nm qu pars bd sc dvs kws f fd) (S : FnScope N ps sc) (hn : ps.length = n) (hm : N.length = m)
    (body : ∀ (cdv : Value) (A : Around) (outer : List PySem.Env) (s : Shared) (H : Hp) (E : XK), A.guards = some [] → Room k (A.deeper (envOfC qu sc s.heap.objs.size f cdv)) →
      PSs (cxOf CX0 P w K mg base N qu sc f cdv A outer s H E).nox bd (tS K F)) : FnG P w K mg base CX0 (k + 1) f fd ps (spF K (fnM n m F)) := by
  subst hn; subst hm
  refine fnG_of D S (fun vs H Q E ⟨sk, G, ds, s, d, s', w, p, e, k⟩ => ?_) fun cdv A outer s H vs Q E hg hr h => ?_
  · unfold fnM at e
    split at e
    · rw [Paired.length p]; assumption
    · cases e
  · refine ⟨_, PSs.nox (body cdv A outer s H E hg hr), ?_⟩
    obtain ⟨sk, G, ds, s1, d, s', w1, p, e, k1⟩ := h
    unfold fnM at e
    split at e
    · rename_i hl
      have lv : vs.length = ps.length := by rw [Paired.length p]; exact hl
      have r : SR K sk G H G H (L2.start N vs) (startE N.length ds) s1 := by
        refine ⟨w1, ⟨?_, fun i d h => ?_, fun i es h => ?_, fun i j es fs a n h1 h2 h3 => ?_⟩, .refl, fun i es a h1 h2 => ?_⟩
        · unfold L2.start startE; simp [Paired.length p]
        · obtain ⟨d', e1, e2⟩ := startE_get h
          cases e1
          obtain ⟨v, h1, h2⟩ := Paired.get p e2
          exact ⟨v, start_get h1, h2⟩
        · obtain ⟨d', e1, e2⟩ := startE_get h; cases e1
        · obtain ⟨d', e1, e2⟩ := startE_get h1; cases e1
        · obtain ⟨d', e1, e2⟩ := startE_get h1; cases e1
      split at e
      · rename_i d' s2 e1
        cases e
        exact ⟨sk, G, H, G, _, s1, _, _, r, e1, fun v G' H' w' x q => k1 v G' H' w' x q⟩
      · rename_i ρ' s2 e1
        cases e
        exact ⟨sk, G, H, G, _, s1, _, _, r, e1, fun σ' G' H' r' => k1 .non G' H' r'.vw r'.ex (.inl .non)⟩
      · cases e
    · cases e
section
variable {X : Cx} {pos : Pos}
def mF (F : Fn) (a : M (List D)) : M D := fun ρ s => match a ρ s with
  | some (ds, s1) => F ds s1
  | none => none
theorem P.call {k : Nat} {f : Addr} {fd : FuncData} {ps : List Str} {x : Str} {p : Pos} {e : Expr} {es : List Expr} {F : Fn} {fa : M (List D)} (hF : FnG X.prog X.w X.K X.mg X.base CX0 k f fd ps (spF X.K F)) (hgd : X.A.guards = some []) (hr : Room k X.A) (hg : Gl X x) (hm : X.mg x = some (.ref f)) (hk : PySem.W.keepIn X.K (.ref f) = true) (hb : Binds X.K fd ps [])
    (ha : PA X (e :: es) (tA X.K fa)) (hdb : (x == ("__debug__" : Str)) = false := by decide) (he : starEach (e :: es) X.env = (false, eval e X.env) :: starEach es X.env := by rfl) (hpl : (backTo pos (starEach es X.env)).any (·.1) = false := by rfl) :
    PE X (.Call (.Name x p) (e :: es) [] pos) (tP X.K (mF F fa)) := by
  refine peI (pe_callG hF hgd hr hg hm hk hb ha hdb he hpl) fun σ H Q ⟨sk, G, ρ, s, d, s', w, r, e, k⟩ => ?_
  unfold mF at e
  split at e
  · rename_i ds s1 e1
    refine ⟨sk, G, ρ, s, ds, s1, w, r, e1, fun vs G1 H1 w1 x1 p1 => ?_⟩
    show spF X.K F (vs ++ []) H1 Q E0
    rw [List.append_nil]
    exact ⟨sk, G1, ds, s1, d, s', w1, p1, e, fun v G2 H2 w2 x2 q => k v G2 H2 w2 (x1.trans x2) q⟩
  · cases e
/-- a, b = e1, e2 stored from the right -/
def sPar (i j : Nat) (a : M (List D)) : M Out := fun ρ s => match a ρ s with
  | some ([d, e], s1) => some (.nx ((ρ.set i (some (.fz d))).set j (some (.fz e))), s1)
  | _ => none
theorem P.par {i j : Nat} {x y : Str} {a b : Expr} {ta : M (List D)} {px py pt : Pos} {kt k2 pt2} (hc : X.calm = true) (hN : X.N.Nodup) (hi : X.N[i]? = some x) (hj : X.N[j]? = some y) (hij : i ≠ j)
    (hx : X.env.scope.names.lookup x = some .local) (hy : X.env.scope.names.lookup y = some .local) (ha : PA X [a, b] (tA X.K ta))
    (hw : swappedStores [.Tuple [.Name x px, .Name y py] kt pt] (.Tuple [a, b] k2 pt2) X.env = pure (some [x, y]))
    (hs : swapsWithSole [.Tuple [.Name x px, .Name y py] kt pt] (.Tuple [a, b] k2 pt2) pos.line X.env = pure false := by rfl) :
    PS X (.Assign [.Tuple [.Name x px, .Name y py] kt pt] (.Tuple [a, b] k2 pt2) pos) (tS X.K (sPar i j ta)) := by
  refine psI (ps_par hc hN hi hj hij hx hy ha hw hs) fun E σ H ⟨sk, G0, H0, G, ρ, s, o, s', r, e, k⟩ => ?_
  unfold sPar at e
  split at e
  · rename_i d1 d2 s1 e1
    cases e
    refine ⟨sk, G, ρ, s, _, _, r.vw, r.er, e1, fun vs G1 H1 w1 x1 p => ?_⟩
    cases p with
    | cons h1 t =>
      cases t with
      | cons h2 t =>
        cases t
        exact ⟨_, _, rfl, k _ G1 H1 (((r.on w1 x1).setF i h1).setF j h2)⟩
  · cases e
/-- a, b = e1, [..] and a, b = [..], e2 -/
def sParFO (i j : Nat) (a : M D) (b : M (List D)) : M Out := fun ρ s => match a ρ s with
  | some (d, s1) => (match b ρ s1 with
    | some (es, s2) => some (.nx ((ρ.set i (some (.fz d))).set j (some (.ow es))), s2)
    | none => none)
  | none => none
def sParOF (i j : Nat) (a : M (List D)) (b : M D) : M Out := fun ρ s => match a ρ s with
  | some (es, s1) => (match b ρ s1 with
    | some (d, s2) => some (.nx ((ρ.set i (some (.ow es))).set j (some (.fz d))), s2)
    | none => none)
  | none => none
theorem P.parFO {i j : Nat} {x y : Str} {a b : Expr} {fa : M D} {fb : M (List D)} {px py pt : Pos} {kt k2 pt2} (hc : X.calm = true) (hN : X.N.Nodup) (hi : X.N[i]? = some x) (hj : X.N[j]? = some y) (hij : i ≠ j)
    (hx : X.env.scope.names.lookup x = some .local) (hy : X.env.scope.names.lookup y = some .local) (ha : PE X a (tP X.K fa)) (hb : PE X b (tL X.K fb))
    (hw : swappedStores [.Tuple [.Name x px, .Name y py] kt pt] (.Tuple [a, b] k2 pt2) X.env = pure (some [x, y]))
    (hs : swapsWithSole [.Tuple [.Name x px, .Name y py] kt pt] (.Tuple [a, b] k2 pt2) pos.line X.env = pure false := by rfl)
    (h1 : starEach (a :: [b]) X.env = (false, eval a X.env) :: starEach [b] X.env := by rfl) (h2 : starEach (b :: []) X.env = (false, eval b X.env) :: starEach [] X.env := by rfl) :
    PS X (.Assign [.Tuple [.Name x px, .Name y py] kt pt] (.Tuple [a, b] k2 pt2) pos) (tS X.K (sParFO i j fa fb)) := by
  refine psI (ps_par hc hN hi hj hij hx hy (pa_cons ha (pa_cons hb pa_nil h2) h1) hw hs) fun E σ H ⟨sk, G0, H0, G, ρ, s, o, s', r, e, k⟩ => ?_
  unfold sParFO at e
  split at e
  · rename_i d s1 e1
    split at e
    · rename_i es s2 e2
      cases e
      refine P.then r.vw r.er e1 fun v G1 H1 w1 x1 r1 q1 => ?_
      refine ⟨sk, G1, ρ, s1, es, _, w1, r1, e2, fun p vs G2 H2 w2 x2 hp np hl gp dl => ?_⟩
      have rr := ((r.on w1 x1).on w2 x2).setF i (q1.up x2.gs)
      refine ⟨_, _, rfl, k _ G2 H2 (rr.setO j hl gp np ?_ dl fun m ds q z => ?_)⟩
      · exact (r.on w1 x1).h0 hp
      · rcases get_set q with ⟨_, z1, _⟩ | ⟨n, z1⟩
        · cases z1
        · rw [List.getElem?_set_ne (Ne.symm n)] at z
          exact r1.nw hp m ds z1 z
    · cases e
  · cases e
theorem P.parOF {i j : Nat} {x y : Str} {a b : Expr} {fa : M (List D)} {fb : M D} {px py pt : Pos} {kt k2 pt2} (hc : X.calm = true) (hN : X.N.Nodup) (hi : X.N[i]? = some x) (hj : X.N[j]? = some y) (hij : i ≠ j)
    (hx : X.env.scope.names.lookup x = some .local) (hy : X.env.scope.names.lookup y = some .local) (ha : PE X a (tL X.K fa)) (hb : PE X b (tP X.K fb))
    (hw : swappedStores [.Tuple [.Name x px, .Name y py] kt pt] (.Tuple [a, b] k2 pt2) X.env = pure (some [x, y]))
    (hs : swapsWithSole [.Tuple [.Name x px, .Name y py] kt pt] (.Tuple [a, b] k2 pt2) pos.line X.env = pure false := by rfl)
    (h1 : starEach (a :: [b]) X.env = (false, eval a X.env) :: starEach [b] X.env := by rfl) (h2 : starEach (b :: []) X.env = (false, eval b X.env) :: starEach [] X.env := by rfl) :
    PS X (.Assign [.Tuple [.Name x px, .Name y py] kt pt] (.Tuple [a, b] k2 pt2) pos) (tS X.K (sParOF i j fa fb)) := by
  refine psI (ps_par hc hN hi hj hij hx hy (pa_cons ha (pa_cons hb pa_nil h2) h1) hw hs) fun E σ H ⟨sk, G0, H0, G, ρ, s, o, s', r, e, k⟩ => ?_
  unfold sParOF at e
  split at e
  · rename_i es s1 e1
    split at e
    · rename_i d s2 e2
      cases e
      refine ⟨sk, G, ρ, s, es, _, r.vw, r.er, e1, fun p vs G1 H1 w1 x1 hp np hl gp dl => ?_⟩
      refine P.then w1 (r.er.ex x1) e2 fun v G2 H2 w2 x2 r2 q2 => ?_
      have rr := ((r.on w1 x1).on w2 x2).setO i (x2.hs p _ hl np) (x2.free hl gp) np (r.h0 hp) (DpAll.up x2.gs _ _ dl) fun m ds q => r.er.nw hp m ds q
      exact ⟨_, _, rfl, k _ G2 H2 (rr.setF j q2)⟩
    · cases e
  · cases e
/-- a, b = e1, [..] by way of a pair (a name of them is captured) -/
theorem P.asgFO {i j : Nat} {x y : Str} {a b : Expr} {fa : M D} {fb : M (List D)} {px py pt : Pos} {kt k2 pt2} (hc : X.calm = true) (hN : X.N.Nodup) (hi : X.N[i]? = some x) (hj : X.N[j]? = some y)
    (hx : Loc X.env.scope x) (hy : Loc X.env.scope y) (ha : PE X a (tP X.K fa)) (hb : PE X b (tL X.K fb))
    (hs : swapsWithSole [.Tuple [.Name x px, .Name y py] kt pt] (.Tuple [a, b] k2 pt2) pos.line X.env = pure false := by rfl) (hw : swappedStores [.Tuple [.Name x px, .Name y py] kt pt] (.Tuple [a, b] k2 pt2) X.env = pure none := by rfl)
    (h0 : (assignEach [.Tuple [.Name x px, .Name y py] kt pt] X.env).map (·.2) = [assign (.Tuple [.Name x px, .Name y py] kt pt) X.env] := by rfl)
    (h1 : starEach (a :: [b]) X.env = (false, eval a X.env) :: starEach [b] X.env := by rfl) (h2 : starEach (b :: []) X.env = (false, eval b X.env) :: starEach [] X.env := by rfl)
    (h3 : (assignEach [.Name x px, .Name y py] X.env).map (·.2) = assign (.Name x px) X.env :: (assignEach [.Name y py] X.env).map (·.2) := by rfl) (h4 : (assignEach [.Name y py] X.env).map (·.2) = assign (.Name y py) X.env :: (assignEach [] X.env).map (·.2) := by rfl)
    (h5 : (assignEach [.Name x px, .Name y py] X.env).length = 2 := by rfl) (h6 : (assignEach [.Name x px, .Name y py] X.env).findIdx? (·.1) = none := by rfl)
    (hfx : X.fn x = true ∨ X.env.scope.names.lookup x = some .local := by first | exact .inl rfl | exact .inr rfl | assumption) (hfy : X.fn y = true ∨ X.env.scope.names.lookup y = some .local := by first | exact .inl rfl | exact .inr rfl | assumption) :
    PS X (.Assign [.Tuple [.Name x px, .Name y py] kt pt] (.Tuple [a, b] k2 pt2) pos) (tS X.K (sParFO i j fa fb)) := by
  refine psI (ps_asg (pe_tup (pa_cons ha (pa_cons hb pa_nil h2) h1)) (pg_tup hc (pgs_cons (pg_name hN hi hx hfx) (pgs_cons (pg_name hN hj hy hfy) pgs_nil h4) h3) h5 h6) hs hw h0) fun E σ H ⟨sk, G0, H0, G, ρ, s, o, s', r, e, k⟩ => ?_
  unfold sParFO at e
  split at e
  · rename_i d s1 e1
    split at e
    · rename_i es s2 e2
      cases e
      refine P.then r.vw r.er e1 fun v G1 H1 w1 x1 r1 q1 => ?_
      refine ⟨sk, G1, ρ, s1, es, _, w1, r1, e2, fun p vs G2 H2 w2 x2 hp np hl gp dl => ?_⟩
      refine ⟨(by show 2 ≤ sizeLine; decide), fun t ht => ?_⟩
      have gt : G2 t = none := by
        cases q : G2 t with
        | none => rfl
        | some u => rw [w2.sub t u q] at ht; cases ht
      have nt : sk ≠ some t := fun z => by
        obtain ⟨_, ws, h6, _⟩ := w2.sack t z
        rw [h6] at ht; cases ht
      have up : ∀ b o, H2 b = some o → upd H2 t (.tup [v, .ref p]) b = some o := fun b o e => by rw [upd_ne (ne_of_none e ht)]; exact e
      have w3 : Vw X.K sk G2 (upd H2 t (.tup [v, .ref p])) _ := ⟨fun b o e => up b o (w2.sub b o e), fun b e => by
        obtain ⟨gn, ws, h6, h7⟩ := w2.sack b e
        exact ⟨gn, ws, up b _ h6, h7⟩⟩
      have x3 : Ex sk G2 H2 G2 (upd H2 t (.tup [v, .ref p])) := ⟨.refl, fun b o e _ => up b o e, fun _ _ e => .inl e, fun b e => by
        by_cases z : b = t
        · subst z; exact ht
        · rw [upd_ne z] at e; exact e⟩
      have rr := (((r.on w1 x1).on w2 x2).on w3 x3).setF i ((q1.up x2.gs).up x3.gs)
      refine ⟨t, [v, .ref p], rfl, SqT.of upd_same, rfl, v, _, rfl, .ref p, _, rfl, rfl, k _ G2 _ (rr.setO j (up p _ hl) gp np ?_ dl fun m ds q z => ?_)⟩
      · exact (r.on w1 x1).h0 hp
      · rcases get_set q with ⟨_, z1, _⟩ | ⟨n, z1⟩
        · cases z1
        · rw [List.getElem?_set_ne (Ne.symm n)] at z
          exact r1.nw hp m ds z1 z
    · cases e
  · cases e
/-- a, b, c = e1, e2, e3 with plain local names: stored from the right -/
theorem ps_par3 {i j l : Nat} {x y z : Str} {a b c : Expr} {ta : TA} {px py pz pt : Pos} {kt k2 pt2} (hc : X.calm = true) (hN : X.N.Nodup) (hi : X.N[i]? = some x) (hj : X.N[j]? = some y) (hl : X.N[l]? = some z) (hij : i ≠ j) (hil : i ≠ l) (hjl : j ≠ l)
    (hx : X.env.scope.names.lookup x = some .local) (hy : X.env.scope.names.lookup y = some .local) (hz : X.env.scope.names.lookup z = some .local) (ha : PA X [a, b, c] ta)
    (hw : swappedStores [.Tuple [.Name x px, .Name y py, .Name z pz] kt pt] (.Tuple [a, b, c] k2 pt2) X.env = pure (some [x, y, z]))
    (hs : swapsWithSole [.Tuple [.Name x px, .Name y py, .Name z pz] kt pt] (.Tuple [a, b, c] k2 pt2) pos.line X.env = pure false := by rfl) :
    PS X (.Assign [.Tuple [.Name x px, .Name y py, .Name z pz] kt pt] (.Tuple [a, b, c] k2 pt2) pos) (fun D σ H => ta σ H fun vs H1 => ∃ v w u, vs = [v, w, u] ∧ D.nx (((σ.set i (some v)).set j (some w)).set l (some u)) H1) := by
  refine ⟨fun pins s σ H D I h => ?_⟩
  rw [exec_Assign_arm]
  refine wpAny_bind (wpAny_standAt ?_)
  rw [hs]
  refine wpAny_bind (wpAny_pure ?_)
  rw [if_neg (by decide)]
  refine wpAny_bind (Tuple_ (thn (ha.run _ pins s σ H _ I h) fun us s1 ⟨vs, H1, I1, r1, q1⟩ => ?_))
  obtain ⟨v, w, u, e1, q1⟩ := q1
  subst e1
  obtain ⟨u1, u2, u3, rfl, rv, rw', ru⟩ : ∃ u1 u2 u3, us = [u1, u2, u3] ∧ RelV v u1 ∧ RelV w u2 ∧ RelV u u3 := by
    cases r1 with
    | cons p q => cases q with
      | cons p' q' => cases q' with
        | cons p'' q'' => cases q''; exact ⟨_, _, _, rfl, p, p', p''⟩
  refine wpAny_newObj_type ?_ (by show 3 ≤ sizeLine; decide)
  have I2 : Inv X pins σ H1 { s1 with heap := s1.heap.push { cls := .type "tuple", data := .seq [u1, u2, u3].toArray } } := I1.kept (t' := s1.toks) fun b o e => Heap.get?_push_of_some _ e
  rw [hw]
  refine wpAny_bind (wpAny_pure ?_)
  show wpAny (model X.prog X.w) X.A (do rule "assign.swapped-stores"; let items ← unpackItems (.ref s1.heap.objs.size) 3 none; assignInOrder [fun v => bindName X.env z v, fun v => bindName X.env y v, fun v => bindName X.env x v] items.reverse; pure Flow.next) _ _ _
  refine wpAny_bind (wpAny_rule (wpAny_bind (unpackItems_tuple (items := #[u1, u2, u3]) (I.ok.hd hc) (IsTup.new s1.heap _) fun h' hx' => ?_)))
  have I3 := I2.kept (h' := h') (t' := s1.toks) fun b o e => hx' b o (Nat.ne_of_lt (Heap.lt_size e)) e
  show wpAny _ _ (assignInOrder [fun v => bindName X.env z v, fun v => bindName X.env y v, fun v => bindName X.env x v] [u3, u2, u1] >>= fun _ => pure Flow.next) _ _ _
  refine wpAny_bind (assignInOrder_cons (wpAny_bindName (store_ok I3 hN hl (.inl hz) ru (fun s2 I4 => ?_) (.inr hz))))
  refine assignInOrder_cons (wpAny_bindName (store_ok I4 hN hj (.inl hy) rw' (fun s3 I5 => ?_) (.inr hy)))
  refine assignInOrder_cons (wpAny_bindName (store_ok I5 hN hi (.inl hx) rv (fun s4 I6 => assignInOrder_nil (wpAny_pure ?_)) (.inr hx)))
  rw [List.set_comm _ _ (Ne.symm hjl), List.set_comm _ _ (Ne.symm hil), List.set_comm _ _ (Ne.symm hij)] at I6
  exact ⟨_, H1, I6, q1⟩
def sPar3 (i j l : Nat) (a : M (List D)) : M Out := fun ρ s => match a ρ s with
  | some ([d, e, f], s1) => some (.nx (((ρ.set i (some (.fz d))).set j (some (.fz e))).set l (some (.fz f))), s1)
  | _ => none
theorem P.par3 {i j l : Nat} {x y z : Str} {a b c : Expr} {ta : M (List D)} {px py pz pt : Pos} {kt k2 pt2} (hc : X.calm = true) (hN : X.N.Nodup) (hi : X.N[i]? = some x) (hj : X.N[j]? = some y) (hl : X.N[l]? = some z) (hij : i ≠ j) (hil : i ≠ l) (hjl : j ≠ l)
    (hx : X.env.scope.names.lookup x = some .local) (hy : X.env.scope.names.lookup y = some .local) (hz : X.env.scope.names.lookup z = some .local) (ha : PA X [a, b, c] (tA X.K ta))
    (hw : swappedStores [.Tuple [.Name x px, .Name y py, .Name z pz] kt pt] (.Tuple [a, b, c] k2 pt2) X.env = pure (some [x, y, z]))
    (hs : swapsWithSole [.Tuple [.Name x px, .Name y py, .Name z pz] kt pt] (.Tuple [a, b, c] k2 pt2) pos.line X.env = pure false := by rfl) :
    PS X (.Assign [.Tuple [.Name x px, .Name y py, .Name z pz] kt pt] (.Tuple [a, b, c] k2 pt2) pos) (tS X.K (sPar3 i j l ta)) := by
  refine psI (ps_par3 hc hN hi hj hl hij hil hjl hx hy hz ha hw hs) fun E σ H ⟨sk, G0, H0, G, ρ, s, o, s', r, e, k⟩ => ?_
  unfold sPar3 at e
  split at e
  · rename_i d1 d2 d3 s1 e1
    cases e
    refine ⟨sk, G, ρ, s, _, _, r.vw, r.er, e1, fun vs G1 H1 w1 x1 p => ?_⟩
    cases p with
    | cons h1 t => cases t with
      | cons h2 t => cases t with
        | cons h3 t =>
          cases t
          exact ⟨_, _, _, rfl, k _ G1 H1 ((((r.on w1 x1).setF i h1).setF j h2).setF l h3)⟩
  · cases e
/-- x += e of a number -/
def aAdd : D → D → Option D
  | .int p, .int q => some (.int (p + q))
  | _, _ => none
def sAug (i : Nat) (f : D → D → Option D) (a : M D) : M Out := fun ρ s => match ρ[i]? with
  | some (some (Cell.fz (.int x))) => (match a ρ s with
    | some (y, s1) => (match f (.int x) y with
      | some z => some (.nx (ρ.set i (some (.fz z))), s1)
      | none => none)
    | none => none)
  | _ => none
theorem P.augAdd {i : Nat} {x : Str} {e : Expr} {f : M D} {pos' : Pos} (hN : X.N.Nodup) (hi : X.N[i]? = some x) (hx : Loc X.env.scope x) (he : PE X e (tP X.K f)) (hf : X.fn x = true ∨ X.env.scope.names.lookup x = some .local := by first | exact .inl rfl | exact .inr rfl | assumption) :
    PS X (.AugAssign (.Name x pos') .Add e pos) (tS X.K (sAug i aAdd f)) := by
  refine psI (ps_aug hN hi hx he ip_add hf) fun E σ H ⟨sk, G0, H0, G, ρ, s, o, s', r, e, k⟩ => ?_
  unfold sAug at e
  split at e
  · rename_i x0 e0
    split at e
    · rename_i y s1 e1
      split at e
      · rename_i z ez
        cases e
        unfold aAdd at ez
        split at ez
        · rename_i p q ep
          cases ep
          cases ez
          obtain ⟨v, h1, h2⟩ := r.er.fz i _ e0
          refine ⟨v, h1, P.then r.vw r.er e1 fun v' G1 H1 w1 x1 r1 q1 => ⟨_, _, Dp.int_of h2, Dp.int_of q1, ?_⟩⟩
          exact k _ G1 H1 ((r.on w1 x1).setF i (.inl (.int _)))
        · cases ez
      · cases e
    · cases e
  · cases e
/-! ### a def that hands back a new list; the sack is made of it -/
abbrev FnL := List D → S → Option (List D × S)
def fnL (n N : Nat) (body : M Out) : FnL := fun ds s => if ds.length = n then (match body (startE N ds) s with
  | some (.rl d, s') => some (d, s')
  | _ => none) else none
def spL (K : PySem.W.Frag) (F : FnL) : Sp := fun vs H Q _ => ∃ sk G ds s es s', Vw K sk G H s ∧ Paired (Dq K sk G) vs ds ∧ F ds s = some (es, s') ∧
  ∀ p xs G' H', Vw K sk G' H' s' → Ex sk G H G' H' → H p = none → sk ≠ some p → H' p = some (.lst xs) → G' p = none → DpAll K G' xs es → Q (.ref p) H'
end
theorem P.fnl {P : Program} {w : World} {K : PySem.W.Frag} {mg : Str → Option Value} {base : Heap} {k : Nat} {f : Addr} {nm qu : Str} {pars : Arguments} {bd : List Stmt} {sc : Scope} {dvs : List V} {kws : List (Str × V)} {fd : FuncData} {N ps : List Str} {F : M Out} {n m : Nat}
    (D : FunD K nm qu pars bd sc dvs kws f fd) (S : FnScope N ps sc) (hn : ps.length = n) (hm : N.length = m)
    (body : ∀ (cdv : Value) (A : Around) (outer : List PySem.Env) (s : Shared) (H : Hp) (E : XK), A.guards = some [] → Room k (A.deeper (envOfC qu sc s.heap.objs.size f cdv)) →
      PSs (cxOf CX0 P w K mg base N qu sc f cdv A outer s H E).nox bd (tS K F)) : FnG P w K mg base CX0 (k + 1) f fd ps (spL K (fnL n m F)) := by
  subst hn; subst hm
  refine fnG_of D S (fun vs H Q E ⟨sk, G, ds, s, d, s', w, p, e, k⟩ => ?_) fun cdv A outer s H vs Q E hg hr h => ?_
  · unfold fnL at e
    split at e
    · rw [Paired.length p]; assumption
    · cases e
  · refine ⟨_, PSs.nox (body cdv A outer s H E hg hr), ?_⟩
    obtain ⟨sk, G, ds, s1, d, s', w1, p, e, k1⟩ := h
    unfold fnL at e
    split at e
    · rename_i hl
      have lv : vs.length = ps.length := by rw [Paired.length p]; exact hl
      have r : SR K sk G H G H (L2.start N vs) (startE N.length ds) s1 := by
        refine ⟨w1, ⟨?_, fun i d h => ?_, fun i es h => ?_, fun i j es fs a n h1 h2 h3 => ?_⟩, .refl, fun i es a h1 h2 => ?_⟩
        · unfold L2.start startE; simp [Paired.length p]
        · obtain ⟨d', e1, e2⟩ := startE_get h
          cases e1
          obtain ⟨v, h1, h2⟩ := Paired.get p e2
          exact ⟨v, start_get h1, h2⟩
        · obtain ⟨d', e1, e2⟩ := startE_get h; cases e1
        · obtain ⟨d', e1, e2⟩ := startE_get h1; cases e1
        · obtain ⟨d', e1, e2⟩ := startE_get h1; cases e1
      split at e
      · rename_i d' s2 e1
        cases e
        exact ⟨sk, G, H, G, _, s1, _, _, r, e1, fun p vs G' H' w' x hp np hl gp dl => k1 p vs G' H' w' x hp np hl gp dl⟩
      · cases e
    · cases e
section
variable {X : Cx} {pos : Pos}
def mFL (F : FnL) (a : M (List D)) : M (List D) := fun ρ s => match a ρ s with
  | some (ds, s1) => F ds s1
  | none => none
theorem P.callL {k : Nat} {f : Addr} {fd : FuncData} {ps : List Str} {x : Str} {p : Pos} {e : Expr} {es : List Expr} {F : FnL} {fa : M (List D)} (hF : FnG X.prog X.w X.K X.mg X.base CX0 k f fd ps (spL X.K F)) (hgd : X.A.guards = some []) (hr : Room k X.A) (hg : Gl X x) (hm : X.mg x = some (.ref f)) (hk : PySem.W.keepIn X.K (.ref f) = true) (hb : Binds X.K fd ps [])
    (ha : PA X (e :: es) (tA X.K fa)) (hdb : (x == ("__debug__" : Str)) = false := by decide) (he : starEach (e :: es) X.env = (false, eval e X.env) :: starEach es X.env := by rfl) (hpl : (backTo pos (starEach es X.env)).any (·.1) = false := by rfl) :
    PE X (.Call (.Name x p) (e :: es) [] pos) (tL X.K (mFL F fa)) := by
  refine peI (pe_callG hF hgd hr hg hm hk hb ha hdb he hpl) fun σ H Q ⟨sk, G, ρ, s, d, s', w, r, e, k⟩ => ?_
  unfold mFL at e
  split at e
  · rename_i ds s1 e1
    refine ⟨sk, G, ρ, s, ds, s1, w, r, e1, fun vs G1 H1 w1 x1 p1 => ?_⟩
    show spL X.K F (vs ++ []) H1 Q E0
    rw [List.append_nil]
    exact ⟨sk, G1, ds, s1, d, s', w1, p1, e, fun p xs G2 H2 w2 x2 hp np hl gp dl => k p xs G2 H2 w2 (x1.trans x2) (x1.th p hp) np hl gp dl⟩
  · cases e
/-- f(new list), the new list being the sack -/
def mSack (F : Fn) (a : M (List D)) : M D := fun ρ s => match a ρ s with
  | some (ks, s1) => (match F [SACK] ks with
    | some (d, _) => if isD d = true then some (d, s1) else none
    | none => none)
  | none => none
theorem P.callS {k : Nat} {f : Addr} {fd : FuncData} {ps : List Str} {x : Str} {p : Pos} {e : Expr} {F : Fn} {fa : M (List D)} (hF : FnG X.prog X.w X.K X.mg X.base CX0 k f fd ps (spF X.K F)) (hgd : X.A.guards = some []) (hr : Room k X.A) (hg : Gl X x) (hm : X.mg x = some (.ref f)) (hk : PySem.W.keepIn X.K (.ref f) = true) (hb : Binds X.K fd ps [])
    (ha : PE X e (tL X.K fa)) (hdb : (x == ("__debug__" : Str)) = false := by decide) (he : starEach [e] X.env = (false, eval e X.env) :: starEach [] X.env := by rfl) (hpl : (backTo pos (starEach [] X.env)).any (·.1) = false := by rfl) :
    PE X (.Call (.Name x p) [e] [] pos) (tP X.K (mSack F fa)) := by
  refine peI (pe_callG hF hgd hr hg hm hk hb (pa_cons ha pa_nil he) hdb he hpl) fun σ H Q ⟨sk, G, ρ, s, d, s', w, r, e, k⟩ => ?_
  unfold mSack at e
  split at e
  · rename_i ks s1 e1
    split at e
    · rename_i d' s3 e3
      split at e
      · rename_i hd
        cases e
        refine ⟨sk, G, ρ, s, ks, _, w, r, e1, fun q vs G1 H1 w1 x1 hp np hl gp dl => ?_⟩
        refine ⟨some q, G1, [SACK], ks, d, s3, ⟨w1.sub, fun a ea => ?_⟩, .cons (.inr ⟨rfl, q, rfl, rfl⟩) .nil, e3, fun v G2 H2 w2 x2 qv => ?_⟩
        · cases ea
          exact ⟨gp, vs, hl, dl⟩
        · refine k v G2 H2 ⟨w2.sub, fun a ea => ?_⟩ ⟨x1.gs.trans x2.gs, fun a o h n => ?_, fun a o h => ?_, fun a h => x1.th a (x2.th a h)⟩ (.inl (qv.dp hd))
          · obtain ⟨gn, ws, h6, h7⟩ := w1.sack a ea
            have hne : some q ≠ some a := fun z => np (by rw [ea]; exact z.symm)
            exact ⟨x2.free h6 gn, ws, x2.hs a _ h6 hne, DpAll.up x2.gs _ _ h7⟩
          · refine x2.hs a o (x1.hs a o h n) fun z => ?_
            cases z
            rw [hp] at h; cases h
          · rcases x2.nw a o h with z | z
            · exact x1.nw a o z
            · exact .inr (x1.th a z)
      · cases e
    · cases e
  · cases e
end
end PL
namespace PL
open PySem PySem.Spec PyProof.Rows L2
theorem isD_up {K : PySem.W.Frag} {sk : Option Addr} {G H : Hp} {v : V} {d : D} (l : Le G H) (h : Dq K sk G v d) (n : isD d = true) : Dp K H v d := Dp.up l _ _ (h.dp n)
/-! ### operators -/
def dAdd : D → D → Option D
  | .int i, .int j => some (.int (i + j))
  | .tuple a, .tuple b => if a.length + b.length ≤ sizeLine then some (.tuple (a ++ b)) else none
  | .list a, .list b => if a.length + b.length ≤ sizeLine then some (.list (a ++ b)) else none
  | .str x, .str y => if x.length + y.length ≤ sizeLine then some (.str (x ++ y)) else none
  | _, _ => none
def dSub : D → D → Option D
  | .int i, .int j => some (.int (i - j))
  | _, _ => none
def dMul : D → D → Option D
  | .int i, .int j => if i.natAbs.log2 + j.natAbs.log2 < 1000000 then some (.int (i * j)) else none
  | _, _ => none
def dDiv : D → D → Option D
  | .int i, .int j => if 0 < j ∧ j.natAbs.log2 < 9000 then some (.int (i / j)) else none
  | _, _ => none
def dMod : D → D → Option D
  | .int i, .int j => if 0 < j then some (.int (i % j)) else none
  | _, _ => none
def dPow : D → D → Option D
  | .int i, .int j => if 0 ≤ j ∧ j ≤ 1000000 ∧ i.natAbs < 2 ^ 64 then some (.int (i ^ j.toNat)) else none
  | _, _ => none
def dShl : D → D → Option D
  | .int i, .int j => if 0 ≤ j ∧ j ≤ 1000000 ∧ i.natAbs < 2 ^ 64 then some (.int (i * 2 ^ j.toNat)) else none
  | _, _ => none
def dNeg : D → Option D
  | .int i => some (.int (-i))
  | _ => none
def dCmp (p : Int → Int → Bool) : D → D → Option D
  | .int i, .int j => some (.bool (p i j))
  | _, _ => none
def okEq (d : D) : Bool := d.plain && decide (d.depth ≤ 64)
def dEq : D → D → Option D := fun a b => if okEq a = true ∧ okEq b = true then some (.bool (PyData.eqv a b)) else none
def dNe : D → D → Option D := fun a b => if okEq a = true ∧ okEq b = true then some (.bool (!PyData.eqv a b)) else none
theorem okEq_isD {d : D} (h : okEq d = true) : isD d = true := by
  cases d <;> first | rfl | cases h
theorem okEq_plain {d : D} (h : okEq d = true) : d.plain = true := (Bool.and_eq_true_iff.mp h).1
theorem okEq_depth {d : D} (h : okEq d = true) : d.depth ≤ 64 := of_decide_eq_true (Bool.and_eq_true_iff.mp h).2
def rEqP (K : PySem.W.Frag) : R2 := fun x y H Q => ∃ d e, Dp K H x d ∧ Dp K H y e ∧ okEq d = true ∧ okEq e = true ∧ Q (.bl (PyData.eqv d e)) H
def rNeP (K : PySem.W.Frag) : R2 := fun x y H Q => ∃ d e, Dp K H x d ∧ Dp K H y e ∧ okEq d = true ∧ okEq e = true ∧ Q (.bl (!PyData.eqv d e)) H
theorem op_eqP {X : Cx} (hu : X.A.units + 64 < cLine) : OpR X (compareOp .Eq) (rEqP X.K) := by
  intro pins s σ H x y v u Q I rx ry h
  obtain ⟨d, e, hd, he, sd, se, q⟩ := h
  obtain ⟨as, r1⟩ := Dp.reads I d x v hd rx
  obtain ⟨bs, r2⟩ := Dp.reads I e y u he ry
  have h1 := okEq_depth sd
  have h2 : min d.depth e.depth ≤ d.depth := Nat.min_le_left _ _
  exact SeqAt.eq_plain r1 r2 (okEq_plain sd) (okEq_plain se) (by omega) ⟨.bl _, H, I, rfl, q⟩
theorem op_neP {X : Cx} (hu : X.A.units + 64 < cLine) : OpR X (compareOp .NotEq) (rNeP X.K) := by
  intro pins s σ H x y v u Q I rx ry h
  obtain ⟨d, e, hd, he, sd, se, q⟩ := h
  obtain ⟨as, r1⟩ := Dp.reads I d x v hd rx
  obtain ⟨bs, r2⟩ := Dp.reads I e y u he ry
  have h1 := okEq_depth sd
  have h2 : min d.depth e.depth ≤ d.depth := Nat.min_le_left _ _
  exact SeqAt.ne_plain r1 r2 (okEq_plain sd) (okEq_plain se) (by omega) ⟨.bl _, H, I, rfl, q⟩
/-- x in a row of data -/
def inOf : D → Option (List D)
  | .list ds => some ds
  | .tuple ds => some ds
  | _ => none
def rInP (K : PySem.W.Frag) : R2 := fun x y H Q => ∃ d e ds, Dp K H x d ∧ Dp K H y e ∧ inOf e = some ds ∧ okEq d = true ∧ PyData.plainAll ds = true ∧ Q (.bl (ds.any fun z => PyData.eqv z d)) H
def rNotInP (K : PySem.W.Frag) : R2 := fun x y H Q => ∃ d e ds, Dp K H x d ∧ Dp K H y e ∧ inOf e = some ds ∧ okEq d = true ∧ PyData.plainAll ds = true ∧ Q (.bl (!ds.any fun z => PyData.eqv z d)) H
theorem op_inP {X : Cx} (hu : X.A.units + 65 < cLine) : OpR X (compareOp .In) (rInP X.K) := by
  intro pins s σ H x y v u Q I rx ry h
  obtain ⟨d, e, ds, hd, he, hs, sd, se, q⟩ := h
  obtain ⟨as, r1⟩ := Dp.reads I d x v hd rx
  obtain ⟨bs, r2⟩ := Dp.reads I e y u he ry
  have h1 := okEq_depth sd
  have h2 : min (PyData.depthAll ds) d.depth ≤ d.depth := Nat.min_le_right _ _
  unfold inOf at hs
  split at hs
  · cases hs; exact SeqAt.in_list_data r2 r1 se (okEq_plain sd) (by omega) ⟨.bl _, H, I, rfl, q⟩
  · cases hs; exact SeqAt.in_tuple_data r2 r1 se (okEq_plain sd) (by omega) ⟨.bl _, H, I, rfl, q⟩
  · cases hs
theorem op_notInP {X : Cx} (hu : X.A.units + 65 < cLine) : OpR X (compareOp .NotIn) (rNotInP X.K) := by
  intro pins s σ H x y v u Q I rx ry h
  obtain ⟨d, e, ds, hd, he, hs, sd, se, q⟩ := h
  obtain ⟨as, r1⟩ := Dp.reads I d x v hd rx
  obtain ⟨bs, r2⟩ := Dp.reads I e y u he ry
  have h1 := okEq_depth sd
  have h2 : min (PyData.depthAll ds) d.depth ≤ d.depth := Nat.min_le_right _ _
  unfold inOf at hs
  split at hs
  · cases hs; exact SeqAt.notIn_list_data r2 r1 se (okEq_plain sd) (by omega) ⟨.bl _, H, I, rfl, q⟩
  · cases hs; exact SeqAt.notIn_tuple_data r2 r1 se (okEq_plain sd) (by omega) ⟨.bl _, H, I, rfl, q⟩
  · cases hs
def isNone : D → Bool
  | .none => true
  | _ => false
def dIsN : D → D → Option D
  | a, .none => if isD a = true then some (.bool (isNone a)) else none
  | _, _ => none
def dNotN : D → D → Option D
  | a, .none => if isD a = true then some (.bool (!isNone a)) else none
  | _, _ => none
def dIsB : D → D → Option D
  | .bool a, .bool b => some (.bool (decide (a = b)))
  | _, _ => none
def dIsNB : D → D → Option D
  | .bool a, .bool b => some (.bool (!decide (a = b)))
  | _, _ => none
section
variable {X : Cx}
theorem w2_I0 {K : PySem.W.Frag} {g : Int → Int → V} {f : D → D → Option D} (hf : ∀ a b d, f a b = some d → ∃ i j, a = .int i ∧ b = .int j ∧ ∀ G, Dp K G (g i j) d) : W2 K (rI0 g) f := fun x y a b d sk G H Q l ha hb e k => by
  obtain ⟨i, j, rfl, rfl, h⟩ := hf a b d e
  exact ⟨i, j, Dp.int_of ha, Dp.int_of hb, k _ G H (.refl l) (h G)⟩
theorem w2_I {K : PySem.W.Frag} {C : Int → Int → Prop} {g : Int → Int → V} {f : D → D → Option D} (hf : ∀ a b d, f a b = some d → ∃ i j, a = .int i ∧ b = .int j ∧ C i j ∧ ∀ G, Dp K G (g i j) d) : W2 K (rI C g) f := fun x y a b d sk G H Q l ha hb e k => by
  obtain ⟨i, j, rfl, rfl, c, h⟩ := hf a b d e
  exact ⟨i, j, Dp.int_of ha, Dp.int_of hb, c, k _ G H (.refl l) (h G)⟩
theorem w2_cmp {K : PySem.W.Frag} {p : Int → Int → Bool} : W2 K (rI0 fun i j => .bl (p i j)) (dCmp p) := w2_I0 fun a b d e => by
  unfold dCmp at e
  split at e
  · cases e; exact ⟨_, _, rfl, rfl, fun G => .bl _⟩
  · cases e
theorem w_sub {K : PySem.W.Frag} : W2 K (rI0 fun i j => .int (i - j)) dSub := w2_I0 fun a b d e => by
  unfold dSub at e
  split at e
  · cases e; exact ⟨_, _, rfl, rfl, fun G => .int _⟩
  · cases e
theorem w_mul {K : PySem.W.Frag} : W2 K (rI CMulW fun i j => .int (i * j)) dMul := w2_I fun a b d e => by
  unfold dMul at e
  split at e
  · split at e
    · rename_i h; cases e; exact ⟨_, _, rfl, rfl, h, fun G => .int _⟩
    · cases e
  · cases e
theorem w_div {K : PySem.W.Frag} : W2 K (rI CDivW fun i j => .int (i / j)) dDiv := w2_I fun a b d e => by
  unfold dDiv at e
  split at e
  · split at e
    · rename_i h; cases e; exact ⟨_, _, rfl, rfl, h, fun G => .int _⟩
    · cases e
  · cases e
theorem w_mod {K : PySem.W.Frag} : W2 K (rI (fun _ j => 0 < j) fun i j => .int (i % j)) dMod := w2_I fun a b d e => by
  unfold dMod at e
  split at e
  · split at e
    · rename_i h; cases e; exact ⟨_, _, rfl, rfl, h, fun G => .int _⟩
    · cases e
  · cases e
theorem w_pow {K : PySem.W.Frag} : W2 K (rI CPow fun i j => .int (i ^ j.toNat)) dPow := w2_I fun a b d e => by
  unfold dPow at e
  split at e
  · split at e
    · rename_i h; cases e; exact ⟨_, _, rfl, rfl, h, fun G => .int _⟩
    · cases e
  · cases e
theorem w_shl {K : PySem.W.Frag} : W2 K (rI CPow fun i j => .int (i * 2 ^ j.toNat)) dShl := w2_I fun a b d e => by
  unfold dShl at e
  split at e
  · split at e
    · rename_i h; cases e; exact ⟨_, _, rfl, rfl, h, fun G => .int _⟩
    · cases e
  · cases e
theorem w_neg {K : PySem.W.Frag} : W1 K (rU fun i => .int (-i)) dNeg := fun x a d sk G H Q l ha e k => by
  unfold dNeg at e
  split at e
  · cases e; exact ⟨_, Dp.int_of ha, k _ G H (.refl l) (.int _)⟩
  · cases e
theorem w_eq {K : PySem.W.Frag} : W2 K (rEqP K) dEq := fun x y a b d sk G H Q l ha hb e k => by
  unfold dEq at e
  split at e
  · rename_i h
    cases e
    exact ⟨a, b, isD_up l ha (okEq_isD h.1), isD_up l hb (okEq_isD h.2), h.1, h.2, k _ G H (.refl l) (.bl _)⟩
  · cases e
theorem w_ne {K : PySem.W.Frag} : W2 K (rNeP K) dNe := fun x y a b d sk G H Q l ha hb e k => by
  unfold dNe at e
  split at e
  · rename_i h
    cases e
    exact ⟨a, b, isD_up l ha (okEq_isD h.1), isD_up l hb (okEq_isD h.2), h.1, h.2, k _ G H (.refl l) (.bl _)⟩
  · cases e
theorem isNone_eq {K : PySem.W.Frag} {sk : Option Addr} {G : Hp} {x : V} {a : D} (h : Dq K sk G x a) (n : isD a = true) : decide (x = .non) = isNone a := by
  have h' := h.dp n
  cases h' <;> first | rfl | exact decide_eq_false (by intro e; cases e)
theorem w_isN {K : PySem.W.Frag} : W2 K (fun x y H Q => y = .non ∧ Q (.bl (decide (x = .non))) H) dIsN := fun x y a b d sk G H Q l ha hb e k => by
  unfold dIsN at e
  split at e
  · split at e
    · rename_i h
      cases e
      have hb' := hb.dp rfl
      cases hb'
      rw [isNone_eq ha h]
      exact ⟨rfl, k _ G H (.refl l) (.bl _)⟩
    · cases e
  · cases e
theorem w_notN {K : PySem.W.Frag} : W2 K (fun x y H Q => y = .non ∧ Q (.bl (!decide (x = .non))) H) dNotN := fun x y a b d sk G H Q l ha hb e k => by
  unfold dNotN at e
  split at e
  · split at e
    · rename_i h
      cases e
      have hb' := hb.dp rfl
      cases hb'
      rw [isNone_eq ha h]
      exact ⟨rfl, k _ G H (.refl l) (.bl _)⟩
    · cases e
  · cases e
theorem w_isB {K : PySem.W.Frag} : W2 K (fun x y H Q => ∃ a b, x = .bl a ∧ y = .bl b ∧ Q (.bl (decide (a = b))) H) dIsB := fun x y a b d sk G H Q l ha hb e k => by
  unfold dIsB at e
  split at e
  · cases e
    exact ⟨_, _, Dp.bl_of ha, Dp.bl_of hb, k _ G H (.refl l) (.bl _)⟩
  · cases e
theorem w_isNB {K : PySem.W.Frag} : W2 K (fun x y H Q => ∃ a b, x = .bl a ∧ y = .bl b ∧ Q (.bl (!decide (a = b))) H) dIsNB := fun x y a b d sk G H Q l ha hb e k => by
  unfold dIsNB at e
  split at e
  · cases e
    exact ⟨_, _, Dp.bl_of ha, Dp.bl_of hb, k _ G H (.refl l) (.bl _)⟩
  · cases e
/-- list + list, each of them any that is read -/
def rCatL (K : PySem.W.Frag) : R2 := fun x y H Q => ∃ l b xs zs, x = .ref l ∧ y = .ref b ∧ SqL K H l xs ∧ SqL K H b zs ∧ xs.length + zs.length ≤ sizeLine ∧ ∀ p, H p = none → Q (.ref p) (upd H p (.lst (xs ++ zs)))
theorem op_catL : OpR X (binaryOp .Add) (rCatL X.K) := by
  intro pins s σ H x y v u Q I rx ry h
  obtain ⟨l, b, xs, zs, rfl, rfl, hH, hB, hz, q⟩ := h
  cases rx
  cases ry
  obtain ⟨its, r, ⟨⟨c1, d1, dt1, sl1⟩, n, e, hc, hd, hdt⟩, _⟩ := I.list hH
  obtain ⟨its2, r2, ⟨⟨c2, d2, dt2, sl2⟩, n2, e2, hc2, hd2, hdt2⟩, _⟩ := I.list hB
  simp only at hc hd hdt hc2 hd2 hdt2
  subst hc hd hdt hc2 hd2 hdt2
  have ee : its.toArray ++ its2.toArray = (its ++ its2).toArray := by simp
  have hsz : its.toArray.size + its2.toArray.size ≤ sizeLine := by rw [List.size_toArray, List.size_toArray, ← r.length, ← r2.length]; exact hz
  refine concat_meets ⟨_, e, rfl⟩ ⟨_, e2, rfl⟩ noFill_list_add seq_list_add PySem.F.slot_list_add PySem.F.entry_list_add (PySem.F.args_list_add_2 _ _) (list_addW l b its.toArray its2.toArray n n2 _ _ sl1 sl2 hsz) ⟨e, e2, ?_⟩
  rw [ee]
  exact ⟨.ref _, _, I.lnew (t' := s.toks) (r.append r2) (by rw [List.length_append]; omega), rfl, q _ I.fresh⟩
def rAdd2 (K : PySem.W.Frag) : R2 := fun x y H Q => rI0 (fun i j => .int (i + j)) x y H Q ∨ rCatA K x y H Q ∨ rCatL K x y H Q ∨ (∃ i j, x = .str i ∧ y = .str j ∧ i.length + j.length ≤ sizeLine ∧ Q (.str (i ++ j)) H)
theorem op_addA : OpR X (binaryOp .Add) (rAdd2 X.K) := OpR.or op_add (OpR.or op_catA (OpR.or op_catL op_add_str))
theorem DpAll.nil_iff {K : PySem.W.Frag} {G : Hp} {vs : List V} {ds : List D} (h : DpAll K G vs ds) : vs = [] ↔ ds = [] := by cases h <;> simp
theorem w_add {K : PySem.W.Frag} : W2 K (rAdd2 K) dAdd := fun x y a b d sk G H Q l ha hb e k => by
  unfold dAdd at e
  split at e
  · cases e
    exact .inl ⟨_, _, Dp.int_of ha, Dp.int_of hb, k _ G H (.refl l) (.int _)⟩
  · split at e
    · rename_i hz
      cases e
      obtain ⟨p, xs, rfl, h1, h2⟩ := Dp.tup_of ha
      obtain ⟨q, ys, rfl, h3, h4⟩ := Dp.tup_of hb
      refine .inr (.inl ⟨p, q, xs, ys, rfl, rfl, SqT.up l h1, SqT.up l h3, by rw [DpAll.length h2, DpAll.length h4]; exact hz, fun z => ?_, fun z1 z2 => ?_, fun z1 z2 r hr => ?_⟩)
      · rw [(DpAll.nil_iff h2).mp z] at k
        exact k _ G H (.refl l) (.tup h3 (by simpa using h4))
      · rw [(DpAll.nil_iff h4).mp z2] at k
        exact k _ G H (.refl l) (.tup h1 (by simpa using h2))
      · have g := Grow.new l hr (.tup (xs ++ ys))
        exact k _ _ _ g (.tup (SqT.of upd_same) (DpAll.up g.gs _ _ (DpAll.app h2 h4)))
    · cases e
  · split at e
    · rename_i hz
      cases e
      obtain ⟨p, xs, rfl, h1, h2⟩ := Dp.lst_of ha
      obtain ⟨q, ys, rfl, h3, h4⟩ := Dp.lst_of hb
      refine .inr (.inr (.inl ⟨p, q, xs, ys, rfl, rfl, SqL.up l h1, SqL.up l h3, by rw [DpAll.length h2, DpAll.length h4]; exact hz, fun r hr => ?_⟩))
      have g := Grow.new l hr (.lst (xs ++ ys))
      exact k _ _ _ g (.lst (SqL.of upd_same) (DpAll.up g.gs _ _ (DpAll.app h2 h4)))
    · cases e
  · split at e
    · rename_i hz
      cases e
      exact .inr (.inr (.inr ⟨_, _, Dp.str_of ha, Dp.str_of hb, hz, k _ G H (.refl l) (.str _)⟩))
    · cases e
  · cases e
/-! ### items, slices -/
def dIx : D → D → Option D
  | .list xs, .int i => atI xs i
  | .tuple xs, .int i => atI xs i
  | .str z, .int i => if z.length ≤ sizeLine then (match atI z.cps.toList i with
    | some c => some (.str ⟨#[c]⟩)
    | none => none) else none
  | _, _ => none
theorem w_ix {K : PySem.W.Frag} : W2 K (rIx K) dIx := fun x y a b d sk G H Q l ha hb e k => by
  unfold dIx at e
  split at e
  · obtain ⟨p, xs, rfl, h1, h2⟩ := Dp.lst_of ha
    obtain ⟨v, h3, h4⟩ := DpAll.atI h2 e
    exact .inl ⟨p, xs, _, v, rfl, Dp.int_of hb, SqL.up l h1, h3, k v G H (.refl l) h4⟩
  · obtain ⟨p, xs, rfl, h1, h2⟩ := Dp.tup_of ha
    obtain ⟨v, h3, h4⟩ := DpAll.atI h2 e
    exact .inr (.inl ⟨p, xs, _, v, rfl, Dp.int_of hb, SqT.up l h1, h3, k v G H (.refl l) h4⟩)
  · split at e
    · rename_i hz
      split at e
      · rename_i c hc
        cases e
        exact .inr (.inr ⟨_, _, c, Dp.str_of ha, Dp.int_of hb, hz, hc, k _ G H (.refl l) (.str _)⟩)
      · cases e
    · cases e
  · cases e
def cutD (xs : List D) (lo hi : Option Int) : List D := (xs.drop (HT.sIx xs.length 0 lo)).take (HT.sIx xs.length xs.length hi - HT.sIx xs.length 0 lo)
theorem DpAll.cut {K : PySem.W.Frag} {G : Hp} {vs : List V} {ds : List D} (h : DpAll K G vs ds) (lo hi : Option Int) : DpAll K G (cutV vs lo hi) (cutD ds lo hi) := by
  unfold cutV cutD
  rw [DpAll.length h]
  exact DpAll.take _ (DpAll.drop _ h)
/-! slices -/
def lOf (x : Option (List D)) : Option (List D) := x
abbrev MO := M (Option Int)
def tOo (K : PySem.W.Frag) (F : MO) : TO := fun σ H Q => ∃ sk G ρ s b s', Vw K sk G H s ∧ ER K sk G H σ ρ ∧ F ρ s = some (b, s') ∧ ∀ G' H', Vw K sk G' H' s' → Ex sk G H G' H' → Q b H'
def oNo : MO := fun _ s => some (none, s)
def oSome (a : M D) : MO := mThen a fun x => mLift (match x with
  | .int i => some (some i)
  | _ => none)
theorem poI {e : Option Expr} {t t' : TO} (h : PO X e t) (i : ∀ σ H Q, t' σ H Q → t σ H Q) : PO X e t' := ⟨fun pins s σ H Q I w => h.run pins s σ H Q I (i _ _ _ w)⟩
theorem P.ono : PO X none (tOo X.K oNo) := poI po_none fun σ H Q ⟨sk, G, ρ, s, b, s', w, r, e, k⟩ => by
  cases e
  exact k G H w .refl
theorem P.osome {e : Expr} {f : M D} (h : PE X e (tP X.K f)) : PO X (some e) (tOo X.K (oSome f)) := poI (po_some h) fun σ H Q ⟨sk, G, ρ, s, b, s', w, r, e, k⟩ => by
  obtain ⟨a, s1, q1, q⟩ := mThen_some e
  obtain ⟨q2, rfl⟩ := mLift_some q
  split at q2
  · cases q2
    exact P.then w r q1 fun v G' H' w' x r' q => ⟨_, Dp.int_of q, k G' H' w' x⟩
  · cases q2
def dSl : D → Option Int → Option Int → Option D
  | .list xs, lo, hi => some (.list (cutD xs lo hi))
  | .tuple xs, lo, hi => some (.tuple (cutD xs lo hi))
  | _, _, _ => none
def mSl (a : M D) (lo hi : MO) : M D := mThen a fun x => mThen lo fun l => mThen hi fun h => mLift (dSl x l h)
theorem cut_all (xs : List V) (lo hi : Option Int) (h : HT.sIx xs.length 0 lo = 0 ∧ HT.sIx xs.length xs.length hi = xs.length) : cutV xs lo hi = xs := by
  unfold cutV
  rw [h.1, h.2]
  simp
theorem P.sl {e : Expr} {lo hi : Option Expr} {f : M D} {fl fh : MO} {p2 pos : Pos} (he : PE X e (tP X.K f)) (hl : PO X lo (tOo X.K fl)) (hu : PO X hi (tOo X.K fh)) : PE X (.Subscript e (.Slice lo hi none p2) pos) (tP X.K (mSl f fl fh)) := by
  refine peI (pe_slice (SlR.or sl_list sl_tupA) he hl hu) fun σ H Q ⟨sk, G, ρ, s, d, s', w, r, e, k⟩ => ?_
  obtain ⟨a, s1, q1, q⟩ := mThen_some e
  obtain ⟨l, s2, q2, q⟩ := mThen_some q
  obtain ⟨u, s3, q3, q⟩ := mThen_some q
  obtain ⟨q4, rfl⟩ := mLift_some q
  refine P.then w r q1 fun v G1 H1 w1 x1 r1 qv => ?_
  refine ⟨sk, G1, ρ, s1, l, s2, w1, r1, q2, fun G2 H2 w2 x2 => ?_⟩
  refine ⟨sk, G2, ρ, s2, u, s', w2, r1.ex x2, q3, fun G3 H3 w3 x3 => ?_⟩
  have x := x2.trans x3
  unfold dSl at q4
  split at q4
  · cases q4
    obtain ⟨p, xs, rfl, h1, h2⟩ := Dp.lst_of qv
    refine .inl ⟨p, xs, rfl, SqL.up w3.sub (SqL.up x.gs h1), fun q hq => ?_⟩
    have g := Grow.new w3.sub hq (.lst (cutV xs l u))
    exact k _ _ _ (g.vw w3) ((x1.trans x).trans (g.ex sk)) (.inl (.lst (SqL.of upd_same) (DpAll.up (x.gs.trans g.gs) _ _ (DpAll.cut h2 l u))))
  · cases q4
    obtain ⟨p, xs, rfl, h1, h2⟩ := Dp.tup_of qv
    refine .inr ⟨p, xs, rfl, SqT.up w3.sub (SqT.up x.gs h1), fun z => ?_, fun z q hq => ?_⟩
    · have c := DpAll.cut h2 l u
      rw [cut_all xs l u z] at c
      exact k _ _ _ w3 (x1.trans x) (.inl (.tup (SqT.up x.gs h1) (DpAll.up x.gs _ _ c)))
    · have g := Grow.new w3.sub hq (.tup (cutV xs l u))
      exact k _ _ _ (g.vw w3) ((x1.trans x).trans (g.ex sk)) (.inl (.tup (SqT.of upd_same) (DpAll.up (x.gs.trans g.gs) _ _ (DpAll.cut h2 l u))))
  · cases q4
/-! displays -/
def isDs (ds : List D) : Bool := ds.all isD
def mTup (a : M (List D)) : M D := mThen a fun ds => mLift (if ds.length ≤ sizeLine ∧ isDs ds = true then some (.tuple ds) else none)
theorem dall_of {K : PySem.W.Frag} {sk : Option Addr} {G : Hp} : ∀ {vs : List V} {ds : List D}, Paired (Dq K sk G) vs ds → isDs ds = true → DpAll K G vs ds
  | _, _, .nil, _ => .nil
  | _, _, .cons h t, e => by
    unfold isDs at e
    rw [List.all_cons, Bool.and_eq_true] at e
    exact .cons (h.dp e.1) (dall_of t e.2)
theorem P.tup {es : List Expr} {f : M (List D)} {x1} {pos : Pos} (h : PA X es (tA X.K f)) : PE X (.Tuple es x1 pos) (tP X.K (mTup f)) :=
  peI (pe_tup h) fun σ H Q ⟨sk, G, ρ, s, d, s', w, r, e, k⟩ => by
    obtain ⟨ds, s1, q1, q⟩ := mThen_some e
    obtain ⟨q2, rfl⟩ := mLift_some q
    split at q2
    · rename_i hc
      cases q2
      refine ⟨sk, G, ρ, s, ds, s', w, r, q1, fun vs G' H' w' x ps => ?_⟩
      have dl := dall_of ps hc.2
      refine ⟨by rw [DpAll.length dl]; exact hc.1, fun p hp => ?_⟩
      have g := Grow.new w'.sub hp (.tup vs)
      exact k _ _ _ (g.vw w') (x.trans (g.ex sk)) (.inl (.tup (SqT.of upd_same) (DpAll.up g.gs _ _ dl)))
    · cases q2
def mLst (a : M (List D)) : M (List D) := mThen a fun ds => mLift (if ds.length ≤ sizeLine ∧ isDs ds = true then some ds else none)
theorem P.list {es : List Expr} {f : M (List D)} {pos : Pos} (h : PA X es (tA X.K f)) : PE X (.List es pos) (tL X.K (mLst f)) := by
  have h2 : PA X es (tA X.K (mLst f)) := paI h fun σ H Q ⟨sk, G, ρ, s, d, s', w, r, e, k⟩ => by
    obtain ⟨ds, s1, q1, q⟩ := mThen_some e
    obtain ⟨q2, rfl⟩ := mLift_some q
    split at q2
    · cases q2
      exact ⟨sk, G, ρ, s, _, s', w, r, q1, k⟩
    · cases q2
  refine P.lst h2 (fun ρ s ds s' e => ?_) fun ρ s ds s' e => ?_
  · obtain ⟨ds1, s1, q1, q⟩ := mThen_some e
    obtain ⟨q2, rfl⟩ := mLift_some q
    split at q2
    · rename_i hc; cases q2; exact hc.1
    · cases q2
  · obtain ⟨ds1, s1, q1, q⟩ := mThen_some e
    obtain ⟨q2, rfl⟩ := mLift_some q
    split at q2
    · rename_i hc; cases q2; exact hc.2
    · cases q2
/-! ### built-ins -/
def bLen : List D → Option D
  | [.list xs] => some (.int xs.length)
  | [.tuple xs] => some (.int xs.length)
  | [.str z] => if z.length ≤ sizeLine then some (.int z.length) else none
  | _ => none
def rLen (K : PySem.W.Frag) : List V → Hp → VK → Prop := fun xs H Q => (∃ p ys, xs = [.ref p] ∧ (SqL K H p ys ∨ SqT K H p ys) ∧ Q (.int ys.length) H) ∨ (∃ z, xs = [.str z] ∧ z.length ≤ sizeLine ∧ Q (.int z.length) H)
theorem call_lenA : CallR X (.builtin "len") (rLen X.K) := CallR.or call_len_seq call_len_str
theorem one_of {α β : Type} {R : α → β → Prop} {xs : List α} {y : β} (h : Paired R xs [y]) : ∃ x, xs = [x] ∧ R x y := by
  cases h with
  | cons a t => cases t; exact ⟨_, rfl, a⟩
theorem two_of {α β : Type} {R : α → β → Prop} {xs : List α} {y z : β} (h : Paired R xs [y, z]) : ∃ x u, xs = [x, u] ∧ R x y ∧ R u z := by
  cases h with
  | cons a t =>
    obtain ⟨u, rfl, b⟩ := one_of t
    exact ⟨_, _, rfl, a, b⟩
theorem three_of {α β : Type} {R : α → β → Prop} {xs : List α} {y z q : β} (h : Paired R xs [y, z, q]) : ∃ x u v, xs = [x, u, v] ∧ R x y ∧ R u z ∧ R v q := by
  cases h with
  | cons a t =>
    obtain ⟨u, v, rfl, b, c⟩ := two_of t
    exact ⟨_, _, _, rfl, a, b, c⟩
theorem w_len {K : PySem.W.Frag} : WC K (rLen K) bLen := fun xs as d sk G H Q l ps e k => by
  unfold bLen at e
  split at e
  · cases e
    obtain ⟨x, rfl, h⟩ := one_of ps
    obtain ⟨p, ys, rfl, h1, h2⟩ := Dp.lst_of h
    rw [← DpAll.length h2] at k
    exact .inl ⟨p, ys, rfl, .inl (SqL.up l h1), k _ G H (.refl l) (.int _)⟩
  · cases e
    obtain ⟨x, rfl, h⟩ := one_of ps
    obtain ⟨p, ys, rfl, h1, h2⟩ := Dp.tup_of h
    rw [← DpAll.length h2] at k
    exact .inl ⟨p, ys, rfl, .inr (SqT.up l h1), k _ G H (.refl l) (.int _)⟩
  · split at e
    · rename_i hz
      cases e
      obtain ⟨x, rfl, h⟩ := one_of ps
      exact .inr ⟨_, by rw [Dp.str_of h], hz, k _ G H (.refl l) (.int _)⟩
    · cases e
  · cases e
def bAbs : List D → Option D
  | [.int i] => some (.int (if i < 0 then -i else i))
  | _ => none
theorem w_abs {K : PySem.W.Frag} : WC K (fun xs H Q => ∃ i, xs = [.int i] ∧ Q (.int (if i < 0 then -i else i)) H) bAbs := fun xs as d sk G H Q l ps e k => by
  unfold bAbs at e
  split at e
  · cases e
    obtain ⟨x, rfl, h⟩ := one_of ps
    exact ⟨_, by rw [Dp.int_of h], k _ G H (.refl l) (.int _)⟩
  · cases e
def bInt : List D → Option D
  | [.int i] => some (.int i)
  | [.bool k] => some (.int (if k then 1 else 0))
  | _ => none
theorem w_int {K : PySem.W.Frag} : WC K (fun xs H Q => (∃ i, xs = [.int i] ∧ Q (.int i) H) ∨ ∃ k, xs = [.bl k] ∧ Q (.int (if k then 1 else 0)) H) bInt := fun xs as d sk G H Q l ps e k => by
  unfold bInt at e
  split at e
  · cases e
    obtain ⟨x, rfl, h⟩ := one_of ps
    exact .inl ⟨_, by rw [Dp.int_of h], k _ G H (.refl l) (.int _)⟩
  · cases e
    obtain ⟨x, rfl, h⟩ := one_of ps
    exact .inr ⟨_, by rw [Dp.bl_of h], k _ G H (.refl l) (.int _)⟩
  · cases e
def bDivmod : List D → Option D
  | [.int i, .int j] => if 0 < j ∧ j < 1073741824 then some (.tuple [.int (i / j), .int (i % j)]) else none
  | _ => none
theorem w_divmod {K : PySem.W.Frag} : WC K (fun xs H Q => ∃ i j, xs = [.int i, .int j] ∧ CDiv i j ∧ ∀ p, H p = none → Q (.ref p) (upd H p (.tup [.int (i / j), .int (i % j)]))) bDivmod := fun xs as d sk G H Q l ps e k => by
  unfold bDivmod at e
  split at e
  · split at e
    · rename_i hc
      cases e
      obtain ⟨x, u, rfl, h, h2⟩ := two_of ps
      refine ⟨_, _, by rw [Dp.int_of h, Dp.int_of h2], hc, fun p hp => ?_⟩
      exact k _ _ _ (Grow.new l hp _) (.tup (SqT.of upd_same) (.cons (.int _) (.cons (.int _) .nil)))
    · cases e
  · cases e
def bMin : List D → Option D
  | [.int i, .int j] => some (.int (if j < i then j else i))
  | _ => none
def bMax : List D → Option D
  | [.int i, .int j] => some (.int (if j > i then j else i))
  | _ => none
theorem w_min {K : PySem.W.Frag} : WC K (fun xs H Q => ∃ i j, xs = [.int i, .int j] ∧ Q (.int (if j < i then j else i)) H) bMin := fun xs as d sk G H Q l ps e k => by
  unfold bMin at e
  split at e
  · cases e
    obtain ⟨x, u, rfl, h, h2⟩ := two_of ps
    exact ⟨_, _, by rw [Dp.int_of h, Dp.int_of h2], k _ G H (.refl l) (.int _)⟩
  · cases e
theorem w_max {K : PySem.W.Frag} : WC K (fun xs H Q => ∃ i j, xs = [.int i, .int j] ∧ Q (.int (if j > i then j else i)) H) bMax := fun xs as d sk G H Q l ps e k => by
  unfold bMax at e
  split at e
  · cases e
    obtain ⟨x, u, rfl, h, h2⟩ := two_of ps
    exact ⟨_, _, by rw [Dp.int_of h, Dp.int_of h2], k _ G H (.refl l) (.int _)⟩
  · cases e
def bMin3 : List D → Option D
  | [.int a, .int b, .int c] => some (.int (if b < a then (if c < b then c else b) else (if c < a then c else a)))
  | _ => none
theorem call_min3 (hc : X.calm = true) : CallR X (.builtin "min") (fun xs H Q => ∃ a b c, xs = [.int a, .int b, .int c] ∧ Q (.int (if b < a then (if c < b then c else b) else (if c < a then c else a))) H) := by
  intro pins s σ H xs us Q I r h
  obtain ⟨a, b, c, rfl, q⟩ := h
  obtain ⟨x, y, z, rfl, ⟨t, rfl⟩, ⟨u, rfl⟩, ⟨v, rfl⟩⟩ : ∃ x y z, us = [x, y, z] ∧ RelV (.int a) x ∧ RelV (.int b) y ∧ RelV (.int c) z := by
    cases r with
    | cons h1 r => cases r with
      | cons h2 r => cases r with
        | cons h3 r => cases r; exact ⟨_, _, _, rfl, h1, h2, h3⟩
  refine min_three_ints (I.ok.hd hc) fun h' tk k => ⟨_, H, I.kept k, ?_, q⟩
  by_cases h1 : b < a
  · rw [if_pos h1, if_pos h1]
    by_cases h2 : c < b
    · rw [if_pos h2, if_pos h2]; exact ⟨_, rfl⟩
    · rw [if_neg h2, if_neg h2]; exact ⟨_, rfl⟩
  · rw [if_neg h1, if_neg h1]
    by_cases h2 : c < a
    · rw [if_pos h2, if_pos h2]; exact ⟨_, rfl⟩
    · rw [if_neg h2, if_neg h2]; exact ⟨_, rfl⟩
theorem w_min3 {K : PySem.W.Frag} : WC K (fun xs H Q => ∃ a b c, xs = [.int a, .int b, .int c] ∧ Q (.int (if b < a then (if c < b then c else b) else (if c < a then c else a))) H) bMin3 := fun xs as d sk G H Q l ps e k => by
  unfold bMin3 at e
  split at e
  · cases e
    obtain ⟨x, u, v, rfl, h, h2, h3⟩ := three_of ps
    exact ⟨_, _, _, by rw [Dp.int_of h, Dp.int_of h2, Dp.int_of h3], k _ G H (.refl l) (.int _)⟩
  · cases e
/-- lists of ints, of bools -/
def intsOf : List D → Option (List Int)
  | [] => some []
  | .int i :: ds => (intsOf ds).map (i :: ·)
  | _ :: _ => none
def boolsOf : List D → Option (List Bool)
  | [] => some []
  | .bool i :: ds => (boolsOf ds).map (i :: ·)
  | _ :: _ => none
theorem ints_of {K : PySem.W.Frag} {G : Hp} : ∀ {vs : List V} {ds : List D} {ns : List Int}, DpAll K G vs ds → intsOf ds = some ns → vs = ns.map V.int
  | _, [], _, h, e => by cases h; cases e; rfl
  | _, d :: ds, ns, h, e => by
    cases h with
    | cons a t =>
      cases d with
      | int i =>
        unfold intsOf at e
        cases q : intsOf ds with
        | none => rw [q] at e; cases e
        | some ms =>
          rw [q] at e
          cases e
          cases a
          rw [ints_of t q]
          rfl
      | _ => cases e
theorem bools_of {K : PySem.W.Frag} {G : Hp} : ∀ {vs : List V} {ds : List D} {ns : List Bool}, DpAll K G vs ds → boolsOf ds = some ns → vs = ns.map V.bl
  | _, [], _, h, e => by cases h; cases e; rfl
  | _, d :: ds, ns, h, e => by
    cases h with
    | cons a t =>
      cases d with
      | bool i =>
        unfold boolsOf at e
        cases q : boolsOf ds with
        | none => rw [q] at e; cases e
        | some ms =>
          rw [q] at e
          cases e
          cases a
          rw [bools_of t q]
          rfl
      | _ => cases e
def bAll : List D → Option D
  | [.list ds] => (boolsOf ds).map fun bs => .bool (bs.all id)
  | _ => none
def bAny : List D → Option D
  | [.list ds] => (boolsOf ds).map fun bs => .bool (bs.any id)
  | _ => none
theorem w_all {K : PySem.W.Frag} : WC K (rAll K) bAll := fun xs as d sk G H Q l ps e k => by
  unfold bAll at e
  split at e
  · rename_i ds
    cases q : boolsOf ds with
    | none => rw [q] at e; cases e
    | some bs =>
      rw [q] at e; cases e
      obtain ⟨x, rfl, h⟩ := one_of ps
      obtain ⟨p, ys, rfl, h1, h2⟩ := Dp.lst_of h
      have e2 := bools_of h2 q
      subst e2
      exact ⟨p, bs, rfl, SqL.up l h1, k _ G H (.refl l) (.bl _)⟩
  · cases e
theorem w_any {K : PySem.W.Frag} : WC K (rAny K) bAny := fun xs as d sk G H Q l ps e k => by
  unfold bAny at e
  split at e
  · rename_i ds
    cases q : boolsOf ds with
    | none => rw [q] at e; cases e
    | some bs =>
      rw [q] at e; cases e
      obtain ⟨x, rfl, h⟩ := one_of ps
      obtain ⟨p, ys, rfl, h1, h2⟩ := Dp.lst_of h
      have e2 := bools_of h2 q
      subst e2
      exact ⟨p, bs, rfl, SqL.up l h1, k _ G H (.refl l) (.bl _)⟩
  · cases e
def bSum : List D → Option D
  | [.list ds] => (intsOf ds).map fun ns => .int ns.sum
  | _ => none
theorem w_sum {K : PySem.W.Frag} : WC K (rSum K) bSum := fun xs as d sk G H Q l ps e k => by
  unfold bSum at e
  split at e
  · rename_i ds
    cases q : intsOf ds with
    | none => rw [q] at e; cases e
    | some bs =>
      rw [q] at e; cases e
      obtain ⟨x, rfl, h⟩ := one_of ps
      obtain ⟨p, ys, rfl, h1, h2⟩ := Dp.lst_of h
      have e2 := ints_of h2 q
      subst e2
      exact ⟨p, bs, rfl, SqL.up l h1, k _ G H (.refl l) (.int _)⟩
  · cases e
def minL : Int → List Int → Int
  | m, [] => m
  | m, x :: xs => minL (if x < m then x else m) xs
theorem minL_spec : ∀ (xs : List Int) (m : Int), (minL m xs = m ∨ minL m xs ∈ xs) ∧ minL m xs ≤ m ∧ ∀ y ∈ xs, minL m xs ≤ y
  | [], m => ⟨.inl rfl, Int.le_refl _, fun y h => by cases h⟩
  | x :: xs, m => by
    obtain ⟨a, b, c⟩ := minL_spec xs (if x < m then x else m)
    unfold minL
    by_cases h : x < m
    · rw [if_pos h] at a b c ⊢
      refine ⟨.inr ?_, by omega, fun y hy => ?_⟩
      · rcases a with a | a
        · rw [a]; exact List.mem_cons_self
        · exact List.mem_cons_of_mem _ a
      · rcases List.mem_cons.mp hy with rfl | hy
        · exact b
        · exact c y hy
    · rw [if_neg h] at a b c ⊢
      refine ⟨?_, b, fun y hy => ?_⟩
      · rcases a with a | a
        · exact .inl a
        · exact .inr (List.mem_cons_of_mem _ a)
      · rcases List.mem_cons.mp hy with rfl | hy
        · omega
        · exact c y hy
def bMinL : List D → Option D
  | [.list ds] => (intsOf ds).bind fun ns => match ns with
    | [] => none
    | m :: xs => some (.int (minL m xs))
  | _ => none
theorem w_minL {K : PySem.W.Frag} : WC K (rMin K) bMinL := fun xs as d sk G H Q l ps e k => by
  unfold bMinL at e
  split at e
  · rename_i ds
    cases q : intsOf ds with
    | none => rw [q] at e; cases e
    | some bs =>
      rw [q] at e
      cases bs with
      | nil => cases e
      | cons m bs =>
        cases e
        obtain ⟨x, rfl, h⟩ := one_of ps
        obtain ⟨p, ys, rfl, h1, h2⟩ := Dp.lst_of h
        have e2 := ints_of h2 q
        subst e2
        refine ⟨p, m :: bs, rfl, SqL.up l h1, by simp, fun z hz hl => ?_⟩
        obtain ⟨a, b, c⟩ := minL_spec bs m
        have e3 : z = minL m bs := by
          have h5 : z ≤ minL m bs := by
            rcases a with a | a
            · rw [a]; exact hl m List.mem_cons_self
            · exact hl _ (List.mem_cons_of_mem _ a)
          have h6 : minL m bs ≤ z := by
            rcases List.mem_cons.mp hz with rfl | hz
            · exact b
            · exact c z hz
          omega
        rw [e3]
        exact k _ G H (.refl l) (.int _)
  · cases e
end
end PL
namespace PySem.W
open PySem PySem.Spec PyProof.Rows
theorem pl_args3 (a b c : Value) : argsOk "math.gcd" ⟨[a, b, c], []⟩ := by unfold argsOk; kernel_rfl
theorem pl_run3 (a : Int) (t : Tok) (b : Int) (u : Tok) (c : Int) (v : Tok) :
    Gives (Builtin.«math.gcd» ⟨[.int a t, .int b u, .int c v], []⟩) (.int (((((Nat.gcd 0 a.natAbs).gcd b.natAbs).gcd c.natAbs : Nat) : Int))) :=
  .of_wp fun M A E s Q h => by obtain ⟨hp, g, d, tk, os⟩ := s; wp_walk; exact ⟨_, rfl, h⟩
theorem pl_gcd3 {prog : Program} {w : World} {A : Around} {E : Value → Shared → Prop} {s : Shared} {Q : Value → Shared → Prop} {a b c : Int} {t u v : Tok}
    (h : Q (.int ((((a.natAbs.gcd b.natAbs).gcd c.natAbs : Nat) : Int)) s.toks) { s with toks := s.toks + 1 }) : wpAny (model prog w) A (call (.builtin "math.gcd") [.int a t, .int b u, .int c v]) Q E s := by
  have g := pl_run3 a t b u c v
  rw [Nat.gcd_zero_left] at g
  exact call_function_meets MGF.kind_gcd MGF.plain_gcd MGF.entry_gcd (pl_args3 _ _ _) g.meets h
end PySem.W
namespace PL
open PySem PySem.Spec PyProof.Rows L2
section
variable {X : Cx} {pos : Pos}
/-! ### isinstance -/
def tyN : D → String
  | .none => "NoneType"
  | .bool _ => "bool"
  | .int _ => "int"
  | .str _ => "str"
  | .list _ => "list"
  | .tuple _ => "tuple"
  | .dict _ => "dict"
def isT (T : String) : D → Bool
  | .none => T == "NoneType"
  | .bool _ => T == "bool" || T == "int"
  | .int _ => T == "int"
  | .str _ => T == "str"
  | .list _ => T == "list"
  | .tuple _ => T == "tuple"
  | .dict _ => T == "dict"
def dIs (T : String) : D → Option D := fun d => if isD d = true then some (.bool (isT T d)) else none
def okT (T : String) : Bool := ["NoneType", "bool", "int", "str", "list", "tuple"].all fun a => kitB a T == some (if a == "bool" then T == "bool" || T == "int" else T == a)
theorem okT_int : okT "int" = true := by decide +kernel
theorem okT_bool : okT "bool" = true := by decide +kernel
theorem okT_tuple : okT "tuple" = true := by decide +kernel
theorem okT_list : okT "list" = true := by decide +kernel
theorem okT_str : okT "str" = true := by decide +kernel
theorem tyx_of {K : PySem.W.Frag} {H : Hp} {v : V} {d : D} (h : Dp K H v d) : TyX K H v (.type (tyN d)) := by
  cases h with
  | non => exact .base .non
  | bl b => exact .base (.bl b)
  | int i => exact .base (.int i)
  | str x => exact .base (.str x)
  | lst hs _ =>
    rcases hs with (h | ⟨o, h⟩) | ⟨o, its, n, hk, hc, _⟩
    · exact .base (.lst h)
    · exact .base (.frz h)
    · exact .kList hk hc
  | tup hs _ =>
    rcases hs with (h | ⟨o, h⟩) | ⟨o, its, n, hk, hc, _⟩
    · exact .base (.tup h)
    · exact .fTuple h
    · exact .kTuple hk hc
theorem kit_isT {T : String} (h : okT T = true) {d : D} (n : isD d = true) : kitB (tyN d) T = some (isT T d) := by
  unfold okT at h
  simp only [List.all_cons, List.all_nil, Bool.and_eq_true, Bool.and_true, beq_iff_eq] at h
  obtain ⟨h1, h2, h3, h4, h5, h6⟩ := h
  cases d with
  | none => exact h1
  | bool b => exact h2
  | int i => exact h3
  | str x => exact h4
  | list x => exact h5
  | tuple x => exact h6
  | dict x => cases n
theorem P.isi {a : Expr} {f : M D} {T : Str} {TT : String} {p p2 : Pos} (hg : Gl X "isinstance") (hm : X.mg "isinstance" = none) (ha : PE X a (tP X.K f)) (hg2 : Gl X T) (hm2 : X.mg T = none) (hv : bootBuiltins T = some (.type TT)) (ok : okT TT = true) (hn : T ≠ "__name__" := by decide) (hd : (T == ("__debug__" : Str)) = false := by decide)
    (hs : starEach [a, .Name T p2] X.env = (false, eval a X.env) :: starEach [.Name T p2] X.env := by rfl) (hpl : (backTo pos (starEach [.Name T p2] X.env)).any (·.1) = false := by rfl) :
    PE X (.Call (.Name "isinstance" p) [a, .Name T p2] [] pos) (tP X.K (m1 (dIs TT) f)) := by
  refine peI (pe_callB call_isi hg hm (by decide +kernel) (pa_cons ha (pa_cons (pe_bltn (v := .ty TT) hg2 hm2 hv rfl hn hd) pa_nil) hs) (he := hs) (hpl := hpl)) fun σ H Q ⟨sk, G, ρ, s, d, s', w, r, e, k⟩ => ?_
  obtain ⟨x, s1, q1, q⟩ := mThen_some e
  obtain ⟨q2, rfl⟩ := mLift_some q
  unfold dIs at q2
  split at q2
  · rename_i hx
    cases q2
    refine P.then w r q1 fun v G' H' w' x' r' q => ?_
    exact ⟨v, .ty TT, .type (tyN x), .type TT, isT TT x, rfl, .ty _, tyx_of (isD_up w'.sub q hx), kit_ty (kit_isT ok hx), k _ G' H' w' x' (.inl (.bl _))⟩
  · cases q2
/-! ### repr -/
def bRepr : List D → Option D
  | [d] => if isD d = true ∧ d.showable = true ∧ d.depth ≤ 60 ∧ d.shown.length ≤ sizeLine then some (.str d.shown) else none
  | _ => none
theorem w_repr {K : PySem.W.Frag} : WC K (rRepr K) bRepr := fun xs as d sk G H Q l ps e k => by
  unfold bRepr at e
  split at e
  · split at e
    · rename_i hc
      cases e
      obtain ⟨x, rfl, h⟩ := one_of ps
      exact ⟨x, _, rfl, .inl (isD_up l h hc.1), hc.2.1, hc.2.2.1, hc.2.2.2, k _ G H (.refl l) (.str _)⟩
    · cases e
  · cases e
/-! ### math -/
def gcdI (a b : Int) : Int := ((a.natAbs.gcd b.natAbs : Nat) : Int)
def gcdI3 (a b c : Int) : Int := (((a.natAbs.gcd b.natAbs).gcd c.natAbs : Nat) : Int)
def bGcd : List D → Option D
  | [.int a, .int b] => some (.int (gcdI a b))
  | [.int a, .int b, .int c] => some (.int (gcdI3 a b c))
  | _ => none
def rGcdA : List V → Hp → VK → Prop := fun vs H Q => rGcd vs H Q ∨ ∃ a b c : Int, vs = [.int a, .int b, .int c] ∧ Q (.int (gcdI3 a b c)) H
theorem cr_gcdA : CallR X (.builtin "math.gcd") rGcdA := CallR.or cr_gcd fun pins s σ H vs us Q I r h => by
  obtain ⟨a, b, c, rfl, q⟩ := h
  cases r with
  | cons r1 r => cases r with
    | cons r2 r => cases r with
      | cons r3 r =>
        cases r
        obtain ⟨t, rfl⟩ := r1
        obtain ⟨u, rfl⟩ := r2
        obtain ⟨v, rfl⟩ := r3
        exact PySem.W.pl_gcd3 ⟨.int _, H, I.tok _, ⟨_, rfl⟩, q⟩
theorem w_gcd {K : PySem.W.Frag} : WC K rGcdA bGcd := fun xs as d sk G H Q l ps e k => by
  unfold bGcd at e
  split at e
  · cases e
    obtain ⟨x, u, rfl, h, h2⟩ := two_of ps
    exact .inl ⟨_, _, by rw [Dp.int_of h, Dp.int_of h2], k _ G H (.refl l) (.int _)⟩
  · cases e
    obtain ⟨x, u, v, rfl, h, h2, h3⟩ := three_of ps
    exact .inr ⟨_, _, _, by rw [Dp.int_of h, Dp.int_of h2, Dp.int_of h3], k _ G H (.refl l) (.int _)⟩
  · cases e
theorem P.callG {id : String} {x : Str} {p : Pos} {e : Expr} {es : List Expr} {r : List V → Hp → VK → Prop} {f : List D → Option D} {fa : M (List D)} (hc : CallR X (.builtin id) r) (h : WC X.K r f) (hg : Gl X x) (hm : X.mg x = some (.builtin id)) (ha : PA X (e :: es) (tA X.K fa)) (hdb : (x == ("__debug__" : Str)) = false := by decide) (he : starEach (e :: es) X.env = (false, eval e X.env) :: starEach es X.env := by rfl) (hpl : (backTo pos (starEach es X.env)).any (·.1) = false := by rfl) :
    PE X (.Call (.Name x p) (e :: es) [] pos) (tP X.K (mCall f fa)) :=
  peI (pe_callBfun hc hg hm ha hdb he hpl) fun _ _ _ t => tCB_of h t
/-! ### list(..), tuple(..) -/
def bTuple : List D → Option D
  | [.list xs] => some (.tuple xs)
  | [.tuple xs] => some (.tuple xs)
  | _ => none
theorem w_tuple {K : PySem.W.Frag} : WC K (fun xs H Q => ∃ p ys, xs = [.ref p] ∧ ((SqL K H p ys ∧ ∀ l, H l = none → Q (.ref l) (upd H l (.tup ys))) ∨ (SqT K H p ys ∧ Q (.ref p) H))) bTuple := fun xs as d sk G H Q l ps e k => by
  unfold bTuple at e
  split at e
  · cases e
    obtain ⟨x, rfl, h⟩ := one_of ps
    obtain ⟨p, ys, rfl, h1, h2⟩ := Dp.lst_of h
    refine ⟨p, ys, rfl, .inl ⟨SqL.up l h1, fun q hq => ?_⟩⟩
    have g := Grow.new l hq (.tup ys)
    exact k _ _ _ g (.tup (SqT.of upd_same) (DpAll.up g.gs _ _ h2))
  · cases e
    obtain ⟨x, rfl, h⟩ := one_of ps
    obtain ⟨p, ys, rfl, h1, h2⟩ := Dp.tup_of h
    exact ⟨p, ys, rfl, .inr ⟨SqT.up l h1, k _ G H (.refl l) (.tup h1 h2)⟩⟩
  · cases e
def bList : List D → Option D
  | [.list xs] => some (.list xs)
  | [.tuple xs] => some (.list xs)
  | _ => none
theorem w_list {K : PySem.W.Frag} : WC K (fun xs H Q => ∃ p ys, xs = [.ref p] ∧ (SqL K H p ys ∨ SqT K H p ys) ∧ ∀ l, H l = none → Q (.ref l) (upd H l (.lst ys))) bList := fun xs as d sk G H Q l ps e k => by
  unfold bList at e
  split at e
  · cases e
    obtain ⟨x, rfl, h⟩ := one_of ps
    obtain ⟨p, ys, rfl, h1, h2⟩ := Dp.lst_of h
    refine ⟨p, ys, rfl, .inl (SqL.up l h1), fun q hq => ?_⟩
    have g := Grow.new l hq (.lst ys)
    exact k _ _ _ g (.lst (SqL.of upd_same) (DpAll.up g.gs _ _ h2))
  · cases e
    obtain ⟨x, rfl, h⟩ := one_of ps
    obtain ⟨p, ys, rfl, h1, h2⟩ := Dp.tup_of h
    refine ⟨p, ys, rfl, .inr (SqT.up l h1), fun q hq => ?_⟩
    have g := Grow.new l hq (.lst ys)
    exact k _ _ _ g (.lst (SqL.of upd_same) (DpAll.up g.gs _ _ h2))
  · cases e
/-! ### a module's constant -/
theorem P.glob {x : Str} {v : V} {u : Value} {d : D} (hg : Gl X x) (hm : X.mg x = some u) (r : RelV v u) (q : ∀ G, Dp X.K G v d) (hd : (x == ("__debug__" : Str)) = false := by decide) : PE X (.Name x pos) (tP X.K (mC d)) :=
  P.c (pe_glob hg hm r hd) q
/-- a module's constant is worth d -/
def Cst (K : PySem.W.Frag) (mg : Str → Option Value) (x : Str) (d : D) : Prop := ∃ v u, mg x = some u ∧ RelV v u ∧ ∀ G, Dp K G v d
theorem P.cst {x : Str} {d : D} (hg : Gl X x) (c : Cst X.K X.mg x d) (hd : (x == ("__debug__" : Str)) = false := by decide) : PE X (.Name x pos) (tP X.K (mC d)) := by
  obtain ⟨v, u, h1, h2, h3⟩ := c
  exact P.glob hg h1 h2 h3 hd
/-! ### in, not in -/
def dIn : D → D → Option D := fun d e => match inOf e with
  | some ds => if okEq d = true ∧ PyData.plainAll ds = true then some (.bool (ds.any fun z => PyData.eqv z d)) else none
  | none => none
def dNotIn : D → D → Option D := fun d e => match inOf e with
  | some ds => if okEq d = true ∧ PyData.plainAll ds = true then some (.bool (!ds.any fun z => PyData.eqv z d)) else none
  | none => none
theorem inOf_isD {e : D} {ds : List D} (h : inOf e = some ds) : isD e = true := by
  cases e <;> first | rfl | cases h
theorem w_in {K : PySem.W.Frag} : W2 K (rInP K) dIn := fun x y a b d sk G H Q l ha hb e k => by
  unfold dIn at e
  split at e
  · rename_i ds hs
    split at e
    · rename_i h
      cases e
      exact ⟨a, b, ds, isD_up l ha (okEq_isD h.1), isD_up l hb (inOf_isD hs), hs, h.1, h.2, k _ G H (.refl l) (.bl _)⟩
    · cases e
  · cases e
theorem w_notIn {K : PySem.W.Frag} : W2 K (rNotInP K) dNotIn := fun x y a b d sk G H Q l ha hb e k => by
  unfold dNotIn at e
  split at e
  · rename_i ds hs
    split at e
    · rename_i h
      cases e
      exact ⟨a, b, ds, isD_up l ha (okEq_isD h.1), isD_up l hb (inOf_isD hs), hs, h.1, h.2, k _ G H (.refl l) (.bl _)⟩
    · cases e
  · cases e
/-! ### a call by names alone -/
/-- the keywords' values -/
def tK (K : PySem.W.Frag) (F : M (List D)) : TA := tA K F
theorem pkI {kws : List Keyword} {t t' : TA} (h : PK X kws t) (i : ∀ σ H Q, t' σ H Q → t σ H Q) : PK X kws t' := ⟨fun pos pins s σ H Q I w => h.run pos pins s σ H Q I (i _ _ _ w)⟩
theorem P.knil : PK X [] (tA X.K aNil) := pkI pk_nil fun σ H Q ⟨sk, G, ρ, s, d, s', w, e, q, k⟩ => by
  cases q
  exact k [] G H w .refl .nil
theorem P.kcons {e : Expr} {nm : Option Str} {kpos : Pos} {kws : List Keyword} {f : M D} {g : M (List D)} (ha : PE X e (tP X.K f)) (hr : PK X kws (tA X.K g)) : PK X (⟨nm, e, kpos⟩ :: kws) (tA X.K (aCons f g)) :=
  pkI (pk_cons ha hr) fun σ H Q ⟨sk, G, ρ, s, d, s', w, e, q, k⟩ => by
    obtain ⟨a, s1, q1, q⟩ := mThen_some q
    obtain ⟨b, s2, q2, q⟩ := mThen_some q
    obtain ⟨q3, rfl⟩ := mLift_some q
    cases q3
    refine P.then w e q1 fun x G1 H1 w1 x1 e1 dx => ?_
    exact ⟨sk, G1, ρ, s1, b, s', w1, e1, q2, fun vs G' H' w' x' ps => k _ G' H' w' (x1.trans x') (.cons (dx.up x'.gs) ps)⟩
/-- values in the order perm -/
def reord {α : Type} (perm : List Nat) (xs : List α) : List α := perm.filterMap fun i => xs[i]?
theorem Paired.reord {α β : Type} {R : α → β → Prop} {xs : List α} {ys : List β} (h : Paired R xs ys) : ∀ perm : List Nat, Paired R (reord perm xs) (reord perm ys)
  | [] => .nil
  | i :: p => by
    have ih := Paired.reord h p
    unfold PL.reord at ih ⊢
    rw [List.filterMap_cons, List.filterMap_cons]
    cases q : ys[i]? with
    | none =>
      have : xs[i]? = none := by
        rw [List.getElem?_eq_none_iff] at q ⊢
        rw [Paired.length h]; exact q
      rw [this]
      exact ih
    | some y =>
      obtain ⟨x, e, r⟩ := Paired.get h q
      rw [e]
      exact .cons r ih
def mFK (F : Fn) (perm : List Nat) (a : M (List D)) : M D := fun ρ s => match a ρ s with
  | some (ds, s1) => F (reord perm ds) s1
  | none => none
theorem P.callK {k : Nat} {f : Addr} {fd : FuncData} {ps ks : List Str} {x : Str} {p : Pos} {kws : List Keyword} {F : Fn} {fa : M (List D)} (perm : List Nat) (hF : FnG X.prog X.w X.K X.mg X.base CX0 k f fd ps (spF X.K F)) (hgd : X.A.guards = some []) (hr : Room k X.A) (hg : Gl X x) (hm : X.mg x = some (.ref f)) (hk : PySem.W.keepIn X.K (.ref f) = true)
    (hb : ∀ (s : Shared) (ws : List Value), ws.length = ks.length → BindsTo s fd ⟨[], ks.zip ws⟩ (ps.zip (reord perm ws)))
    (hkw : PK X kws (tA X.K fa)) (hlen : ∀ ρ s ds s', fa ρ s = some (ds, s') → ds.length = ks.length) (hall : (backToKw pos (keywordEach kws X.env)).all (·.1.isSome) = true := by rfl) (hks : (backToKw pos (keywordEach kws X.env)).filterMap (·.1) = ks := by rfl)
    (hdb : (x == ("__debug__" : Str)) = false := by decide)
    (hpl : ((backTo pos (starEach [] X.env)).any (·.1) || (backToKw pos (keywordEach kws X.env)).any (·.1.isNone)) = false := by rfl) :
    PE X (.Call (.Name x p) [] kws pos) (tP X.K (mFK F perm fa)) := by
  refine ⟨fun pins s σ H Q I ⟨sk, G, ρ, sS, d, s', w, r, e, k⟩ => ?_⟩
  unfold mFK at e
  split at e
  · rename_i ds s1 e1
    have hl := hlen _ _ _ _ e1
    refine wpAny_Call_Name_kw (ld_glob I hg hm ?_ hdb)
    refine PySem.W.callWith_KW0 (first := []) (h₀ := X.base) I.ok.mod.kin hk hall ?_ hpl
    refine thn (hkw.run pos pins s σ H (fun zs H2 => zs.length = ks.length ∧ spF X.K F (reord perm zs) H2 Q E0) I ⟨sk, G, ρ, sS, ds, s1, w, r, e1, fun vs G1 H1 w1 x1 p1 => ⟨by rw [Paired.length p1]; exact hl, ?_⟩⟩) fun ws s2 ⟨zs, H2, I2, rz, hz, q2⟩ => ⟨I2.kIn, ?_⟩
    · exact ⟨sk, G1, _, s1, d, s', w1, Paired.reord p1 perm, e, fun v G2 H2 w2 x2 q => k v G2 H2 w2 (x1.trans x2) q⟩
    · rw [hks]
      have rr : Vals (reord perm zs) (reord perm ws) := Paired.reord rz perm
      refine wpAny_call (codeAny_mono (hF.run X.A X.stack s2 H2 ⟨[], ks.zip ws⟩ (reord perm ws) (reord perm zs) Q E0 hgd hr I2.env0 (hb s2 ws (by rw [← rz.length]; exact hz)) rr q2) fun r s' hq => ?_)
      cases r with
      | error e => exact hq.elim
      | ok fl =>
        cases fl with
        | ret u => exact I2.after hq
        | next => exact hq.elim
        | brk => exact hq.elim
        | cont => exact hq.elim
  · cases e
end
end PL
namespace PL
open PySem PySem.Spec PyProof.Rows L2
abbrev FnP (K : PySem.W.Frag) (x : Str) (st : Stmt) (f : Addr) (fd : FuncData) : Prop := FunD K x x (defArgs st) (defBody st) (defScope st) [] [] f fd
section
variable {X : Cx} {tg : Expr} {pos : Pos}
theorem P.v (i : Nat) {x : Str} (hN : X.N[i]? = some x := by rfl) (hv : Vis X.env.scope x := by first | exact Or.inl rfl | exact Or.inr (Or.inl rfl) | exact Or.inr (Or.inr rfl)) (hd : (x == ("__debug__" : Str)) = false := by decide) (hcd : (x == ("__classdict__" : Str)) = false := by decide) : PE X (.Name x pos) (tP X.K (mVar i)) := P.var hN hv hd hcd
theorem P.lenOv (i : Nat) {x : Str} {p p1 : Pos} (hg : Gl X "len") (hm : X.mg "len" = none) (hN : X.N[i]? = some x := by rfl) (hv : Vis X.env.scope x := by first | exact Or.inl rfl | exact Or.inr (Or.inl rfl) | exact Or.inr (Or.inr rfl)) (hd : (x == ("__debug__" : Str)) = false := by decide) (hcd : (x == ("__classdict__" : Str)) = false := by decide) :
    PE X (.Call (.Name "len" p) [.Name x p1] [] pos) (tP X.K (mLenO i)) := P.lenO hN hv hg hm hd hcd
theorem P.iterOv (i : Nat) {x : Str} {p1 : Pos} (hN : X.N[i]? = some x := by rfl) (hv : Vis X.env.scope x := by first | exact Or.inl rfl | exact Or.inr (Or.inl rfl) | exact Or.inr (Or.inr rfl)) (hd : (x == ("__debug__" : Str)) = false := by decide) (hcd : (x == ("__classdict__" : Str)) = false := by decide) : PI X tg (.Name x p1) (tIE X.K (mItO i)) := P.iterO hN hv hd hcd
theorem P.ixOv (i : Nat) {x : Str} {b : Expr} {f : M D} {p1 : Pos} (hb : PE X b (tP X.K f)) (hN : X.N[i]? = some x := by rfl) (hv : Vis X.env.scope x := by first | exact Or.inl rfl | exact Or.inr (Or.inl rfl) | exact Or.inr (Or.inr rfl)) (hs : PlainIx b := by exact fun _ _ => rfl) (hd : (x == ("__debug__" : Str)) = false := by decide) (hcd : (x == ("__classdict__" : Str)) = false := by decide) :
    PE X (.Subscript (.Name x p1) b pos) (tP X.K (mIxO i f)) := P.ixO hN hv hb hs hd hcd
theorem P.skv (i : Nat) {k : Nat} {x : Str} {j} {p1 p2 : Pos} (hN : X.N[i]? = some x := by rfl) (hv : Vis X.env.scope x := by first | exact Or.inl rfl | exact Or.inr (Or.inl rfl) | exact Or.inr (Or.inr rfl)) (hd : (x == ("__debug__" : Str)) = false := by decide) (hcd : (x == ("__classdict__" : Str)) = false := by decide) (hs : PlainIx (.Constant (.int (k : Nat)) j p2) := by exact fun _ _ => rfl) :
    PE X (.Subscript (.Name x p1) (.Constant (.int (k : Nat)) j p2) pos) (tP X.K (mSk i k)) := P.sk hN hv hd hcd hs
theorem P.gsubv (i : Nat) {k : Nat} {x : Str} {j} {p1 p2 : Pos} (hN : X.N[i]? = some x := by rfl) (hv : Vis X.env.scope x := by first | exact Or.inl rfl | exact Or.inr (Or.inl rfl) | exact Or.inr (Or.inr rfl)) (hd : (x == ("__debug__" : Str)) = false := by decide) (hcd : (x == ("__classdict__" : Str)) = false := by decide)
    (ha : ∀ v, assign (.Subscript (.Name x p1) (.Constant (.int (k : Nat)) j p2) pos) X.env v = (do
      let ov ← holding [v] (eval (.Name x p1) X.env)
      let iv ← holding [v, ov] (eval (.Constant (.int (k : Nat)) j p2) X.env)
      standAt pos
      holding [v, ov, iv] (setItem ov iv v)
      release [v, ov, iv] []) := by intro _; rfl) : PG X (.Subscript (.Name x p1) (.Constant (.int (k : Nat)) j p2) pos) (tG X.K (.sb i k)) := P.gsub hN hv hd hcd ha
theorem P.appv (i : Nat) {x : Str} {e : Expr} {f : M D} {p1 apos cpos : Pos} (he : PE X e (tP X.K f)) (hN : X.N[i]? = some x := by rfl) (hv : Vis X.env.scope x := by first | exact Or.inl rfl | exact Or.inr (Or.inl rfl) | exact Or.inr (Or.inr rfl)) (hd : (x == ("__debug__" : Str)) = false := by decide) (hcd : (x == ("__classdict__" : Str)) = false := by decide)
    (hbase : attributeBase (.Name x p1) "append" X.env (eval (.Name x p1) X.env) = eval (.Name x p1) X.env := by rfl)
    (hfew : ((backTo cpos (starEach [e] X.env)).all (fun x => !x.1) && (backToKw cpos (keywordEach [] X.env)).all (fun x => x.1.isSome)
      && decide (([e] : List Expr).length + ([] : List Keyword).length + (if ([] : List Keyword).isEmpty then 0 else 1) < 30)) = true := by rfl)
    (hline : (apos.endLine == cpos.line) = true := by rfl) (hs : starEach [e] X.env = (false, eval e X.env) :: starEach [] X.env := by rfl) (hplain : (backTo cpos (starEach [] X.env)).any (·.1) = false := by rfl)
    (hsw : swapsWith (.Call (.Attribute (.Name x p1) "append" apos) [e] [] cpos) none pos.line X.env = pure false := by rfl) :
    PS X (.Expr (.Call (.Attribute (.Name x p1) "append" apos) [e] [] cpos) pos) (tS X.K (sApp i f)) := P.app hN hv he hd hcd hbase hfew hline hs hplain hsw
theorem P.popv (i : Nat) {x : Str} {p1 apos cpos : Pos} (hN : X.N[i]? = some x := by rfl) (hv : Vis X.env.scope x := by first | exact Or.inl rfl | exact Or.inr (Or.inl rfl) | exact Or.inr (Or.inr rfl)) (hd : (x == ("__debug__" : Str)) = false := by decide) (hcd : (x == ("__classdict__" : Str)) = false := by decide)
    (hbase : attributeBase (.Name x p1) "pop" X.env (eval (.Name x p1) X.env) = eval (.Name x p1) X.env := by rfl) (hline : (apos.endLine == cpos.line) = true := by rfl)
    (hsw : swapsWith (.Call (.Attribute (.Name x p1) "pop" apos) [] [] cpos) none pos.line X.env = pure false := by rfl) :
    PS X (.Expr (.Call (.Attribute (.Name x p1) "pop" apos) [] [] cpos) pos) (tS X.K (sPop i)) := P.pop hN hv hd hcd hbase hline hsw
end
theorem acs1 {a : M D} {ρ : PL.Env} {s s' : S} {ds : List D} (h : aCons a aNil ρ s = some (ds, s')) : ds.length = 1 := by
  obtain ⟨x, s1, q1, q⟩ := mThen_some h
  obtain ⟨y, s2, q2, q⟩ := mThen_some q
  obtain ⟨q3, rfl⟩ := mLift_some q
  cases q3; cases q2; rfl
theorem acsS {a : M D} {r : M (List D)} {n : Nat} (hr : ∀ {ρ : PL.Env} {s s' : S} {ds : List D}, r ρ s = some (ds, s') → ds.length = n) {ρ : PL.Env} {s s' : S} {ds : List D} (h : aCons a r ρ s = some (ds, s')) : ds.length = n + 1 := by
  obtain ⟨x, s1, q1, q⟩ := mThen_some h
  obtain ⟨y, s2, q2, q⟩ := mThen_some q
  obtain ⟨q3, rfl⟩ := mLift_some q
  cases q3
  simp [hr q2]
theorem acs2 {a b : M D} {ρ : PL.Env} {s s' : S} {ds : List D} (h : aCons a (aCons b aNil) ρ s = some (ds, s')) : ds.length = 2 := acsS acs1 h
theorem acs3 {a b c : M D} {ρ : PL.Env} {s s' : S} {ds : List D} (h : aCons a (aCons b (aCons c aNil)) ρ s = some (ds, s')) : ds.length = 3 := acsS acs2 h
theorem acs4 {a b c d : M D} {ρ : PL.Env} {s s' : S} {ds : List D} (h : aCons a (aCons b (aCons c (aCons d aNil))) ρ s = some (ds, s')) : ds.length = 4 := acsS acs3 h
end PL
namespace PL
open PySem PySem.Spec PyProof.Rows L2
/-! ### constants that the top has left -/
def flatB : Value → D → Bool
  | .none, .none => true
  | .bool a, .bool b => a == b
  | .int i _, .int j => i == j
  | .str x _, .str y => x == y
  | _, _ => false
def flatsB : List Value → List D → Bool
  | [], [] => true
  | v :: vs, d :: ds => flatB v d && flatsB vs ds
  | _, _ => false
/-- a flat value, a tuple of such -/
def cst1 (K : PySem.W.Frag) : Value → D → Bool
  | .ref a, .tuple ds => match K.lookup a with
    | some o => (match o.cls with
      | .type T => T == "tuple"
      | _ => false) && (match o.data with
      | .seq its _ => decide (its.size < 1000) && flatsB its.toList ds
      | _ => false)
    | none => false
  | v, d => flatB v d
def cst2s (K : PySem.W.Frag) : List Value → List D → Bool
  | [], [] => true
  | v :: vs, d :: ds => cst1 K v d && cst2s K vs ds
  | _, _ => false
def cst2 (K : PySem.W.Frag) : Value → D → Bool
  | .ref a, .tuple ds => match K.lookup a with
    | some o => (match o.cls with
      | .type T => T == "tuple"
      | _ => false) && (match o.data with
      | .seq its _ => decide (its.size < 1000) && cst2s K its.toList ds
      | _ => false)
    | none => false
  | v, d => flatB v d
def cstB (K : PySem.W.Frag) (x : Str) (d : D) : Bool := match PySem.W.nsIn K mainGlobals x with
  | some (some u) => cst2 K u d
  | _ => false
theorem flat_ok {K : PySem.W.Frag} : ∀ {u : Value} {d : D}, flatB u d = true → ∃ v, RelV v u ∧ ∀ G, Dp K G v d := by
  intro u d h
  unfold flatB at h
  split at h
  · exact ⟨.non, rfl, fun _ => .non⟩
  · rename_i a b
    have e : a = b := by simpa using h
    subst e
    exact ⟨.bl a, rfl, fun _ => .bl _⟩
  · rename_i i t j
    have e : i = j := by simpa using h
    subst e
    exact ⟨.int i, ⟨t, rfl⟩, fun _ => .int _⟩
  · rename_i x t y
    have e : x = y := eq_of_beq h
    subst e
    exact ⟨.str x, ⟨t, rfl⟩, fun _ => .str _⟩
  · cases h
theorem flats_ok {K : PySem.W.Frag} : ∀ {us : List Value} {ds : List D}, flatsB us ds = true → ∃ vs, Vals vs us ∧ ∀ G, DpAll K G vs ds
  | [], [], _ => ⟨[], .nil, fun _ => .nil⟩
  | u :: us, d :: ds, h => by
    unfold flatsB at h
    rw [Bool.and_eq_true] at h
    obtain ⟨v, r, q⟩ := flat_ok (K := K) h.1
    obtain ⟨vs, rs, qs⟩ := flats_ok (K := K) h.2
    exact ⟨v :: vs, .cons r rs, fun G => .cons (q G) (qs G)⟩
  | [], _ :: _, h => by cases h
  | _ :: _, [], h => by cases h
theorem big1000 {n : Nat} (h : n < 1000) : n ≤ sizeLine := by rw [sizeLine_eq]; omega
theorem tup_at {K : PySem.W.Frag} {a : Addr} {o : Obj} {its : Array Value} {n : Nat} {vs : List V} {ds : List D} (hk : K.lookup a = some o) (hc : (match o.cls with
      | .type T => T == "tuple"
      | _ => false) = true) (hd : o.data = .seq its n) (hz : its.size < 1000) (r : Vals vs its.toList) (q : ∀ G, DpAll K G vs ds) (G : Hp) : Dp K G (.ref a) (.tuple ds) := by
  refine .tup (xs := vs) (.inr ⟨o, its, n, hk, ?_, hd, big1000 hz, r⟩) (q G)
  split at hc
  · rename_i T e
    rw [e]
    rw [eq_of_beq hc]
  · cases hc
theorem cst1_ok {K : PySem.W.Frag} {u : Value} {d : D} (h : cst1 K u d = true) : ∃ v, RelV v u ∧ ∀ G, Dp K G v d := by
  unfold cst1 at h
  split at h
  · rename_i a ds
    split at h
    · rename_i o ho
      rw [Bool.and_eq_true] at h
      obtain ⟨h1, h2⟩ := h
      split at h2
      · rename_i its n hd
        rw [Bool.and_eq_true] at h2
        obtain ⟨vs, r, q⟩ := flats_ok (K := K) h2.2
        exact ⟨.ref a, rfl, tup_at ho h1 hd (of_decide_eq_true h2.1) r q⟩
      · cases h2
    · cases h
  · exact flat_ok h
theorem cst2s_ok {K : PySem.W.Frag} : ∀ {us : List Value} {ds : List D}, cst2s K us ds = true → ∃ vs, Vals vs us ∧ ∀ G, DpAll K G vs ds
  | [], [], _ => ⟨[], .nil, fun _ => .nil⟩
  | u :: us, d :: ds, h => by
    unfold cst2s at h
    rw [Bool.and_eq_true] at h
    obtain ⟨v, r, q⟩ := cst1_ok (K := K) h.1
    obtain ⟨vs, rs, qs⟩ := cst2s_ok (K := K) h.2
    exact ⟨v :: vs, .cons r rs, fun G => .cons (q G) (qs G)⟩
  | [], _ :: _, h => by cases h
  | _ :: _, [], h => by cases h
theorem cst2_ok {K : PySem.W.Frag} {u : Value} {d : D} (h : cst2 K u d = true) : ∃ v, RelV v u ∧ ∀ G, Dp K G v d := by
  unfold cst2 at h
  split at h
  · rename_i a ds
    split at h
    · rename_i o ho
      rw [Bool.and_eq_true] at h
      obtain ⟨h1, h2⟩ := h
      split at h2
      · rename_i its n hd
        rw [Bool.and_eq_true] at h2
        obtain ⟨vs, r, q⟩ := cst2s_ok (K := K) h2.2
        exact ⟨.ref a, rfl, tup_at ho h1 hd (of_decide_eq_true h2.1) r q⟩
      · cases h2
    · cases h
  · exact flat_ok h
theorem cst_ok {K : PySem.W.Frag} {h : Heap} {mg : Str → Option Value} (X : K.In h) (G : h.Ns mainGlobals mg) {x : Str} {d : D} (e : cstB K x d = true) : Cst K mg x d := by
  unfold cstB at e
  split at e
  · rename_i u hu
    obtain ⟨v, r, q⟩ := cst2_ok e
    exact ⟨v, u, PySem.W.mg_of X G hu, r, q⟩
  · cases e
/-- the law's promise: the script is data -/
theorem spF_law {K : PySem.W.Frag} {F : Fn} (hF : ∀ ns : List Int, ns.length ≤ 63 → (∀ z ∈ ns, Builtin.Int.intBits z ≤ 1048576) → ∃ s', F [.list (ns.map PyData.int)] [] = some (.bool true, s')) (H : Hp) (a : Addr) (ns : List Int) (hl : ns.length ≤ 63) (hb : ∀ z ∈ ns, Builtin.Int.intBits z ≤ 1048576) (hS : SqL K H a (ns.map V.int)) :
    spF K F [.ref a] H (fun v _ => v = .bl true) E0 := by
  obtain ⟨s', e⟩ := hF ns hl hb
  refine ⟨none, H, [.list (ns.map PyData.int)], [], _, s', ⟨.refl, fun _ z => by cases z⟩, .cons (.inl (.lst hS ?_)) .nil, e, fun v G' H' w x q => ?_⟩
  · clear hS hb hl e
    induction ns with
    | nil => exact .nil
    | cons n ns ih => exact .cons (.int n) ih
  · exact Dp.bl_of q
end PL
namespace K55
open PySem PySem.Spec PyProof.Rows L2 PL
def top (i : Nat) : Stmt := PySem.Challenge.pw_windfigure_k55_whole_dear_shares_counted.main.body.getD i (.Pass ⟨0, 0, 0, 0⟩)
def nmOf : Nat → Option Str
  | 8 => some "is_whole"
  | 9 => some "are_whole"
  | 10 => some "ratio"
  | 11 => some "ratio_sum"
  | 12 => some "ratio_gap"
  | 13 => some "rounded_up"
  | 14 => some "is_less"
  | 15 => some "lesser"
  | 17 => some "is_fraction"
  | 19 => some "need_form"
  | 20 => some "is_form"
  | 21 => some "runs_by_form"
  | 22 => some "dear_share"
  | 24 => some "_law_sack"
  | 25 => some "_law_draw"
  | 26 => some "_law_gcd"
  | 27 => some "_law_ratio"
  | 28 => some "_law_fewest"
  | 29 => some "_law_right"
  | 30 => some "law"
  | _ => none
structure Pg (K : PySem.W.Frag) (mg : Str → Option Value) (Ad : Nat → Addr) (Dd : Nat → FuncData) : Prop where
  fn : ∀ (i : Nat) (x : Str), nmOf i = some x → FnP K x (top i) (Ad i) (Dd i) ∧ mg x = some (.ref (Ad i))
structure Nm (K : PySem.W.Frag) (mg : Str → Option Value) : Prop where
  n_abs : mg "abs" = none
  n_all : mg "all" = none
  n_bool : mg "bool" = none
  n_divmod : mg "divmod" = none
  n_int : mg "int" = none
  n_isinstance : mg "isinstance" = none
  n_len : mg "len" = none
  n_list : mg "list" = none
  n_max : mg "max" = none
  n_min : mg "min" = none
  n_range : mg "range" = none
  n_repr : mg "repr" = none
  n_tuple : mg "tuple" = none
  g_gcd : mg "gcd" = some (.builtin "math.gcd")
  c_ONE : Cst K mg "ONE" (.tuple [(.int 1), (.int 1)])
  c_ZERO : Cst K mg "ZERO" (.tuple [(.int 0), (.int 1)])
section
variable {Pr : Program} {w : World} {K : PySem.W.Frag} {mg : Str → Option Value} {base : Heap} {Ad : Nat → Addr} {Dd : Nat → FuncData}
theorem kw_dear_share_0 {K : PySem.W.Frag} {f : Addr} {fd : FuncData} (F : FnP K "dear_share" (top 22) f fd) (s : Shared) (ws : List Value) (hl : ws.length = (["form"] : List Str).length) : BindsTo s fd ⟨[], (["form"] : List Str).zip ws⟩ ((["form"] : List Str).zip (reord [0] ws)) := by
  obtain ⟨oc, od, dV, kV, doc, pm, an, cdv, ct, osl, rfl, lk, hcd, hD, hK⟩ := F.ex
  rcases hD with ⟨_, rfl⟩ | ⟨e, _⟩
  · match ws, hl with
    | [_], _ => exact .of_eq rfl
  · exact absurd rfl e
theorem kw_runs_by_form_1_0 {K : PySem.W.Frag} {f : Addr} {fd : FuncData} (F : FnP K "runs_by_form" (top 21) f fd) (s : Shared) (ws : List Value) (hl : ws.length = (["many", "form"] : List Str).length) : BindsTo s fd ⟨[], (["many", "form"] : List Str).zip ws⟩ ((["form", "many"] : List Str).zip (reord [1, 0] ws)) := by
  obtain ⟨oc, od, dV, kV, doc, pm, an, cdv, ct, osl, rfl, lk, hcd, hD, hK⟩ := F.ex
  rcases hD with ⟨_, rfl⟩ | ⟨e, _⟩
  · match ws, hl with
    | [_, _], _ => exact .of_eq rfl
  · exact absurd rfl e
theorem sc_is_whole : FnScope ["value"] ["value"] (defScope (top 8)) := ⟨rfl, rfl, rfl, by decide +kernel, rfl, by decide +kernel, by decide +kernel⟩
theorem b_is_whole {K : PySem.W.Frag} {f : Addr} {fd : FuncData} (F : FnP K "is_whole" (top 8) f fd) : Binds K fd ["value"] [] := F.bindsN fun _ _ _ _ _ _ us hl => match us, hl with | [_], _ => rfl
def g_is_whole : M Out := sRet (mAndV (m1 (dIs "int") (mVar 0)) (m1 dNot (m1 (dIs "bool") (mVar 0))))
def f_is_whole : Fn := fnM 1 1 g_is_whole
theorem ok_is_whole (T : Pg K mg Ad Dd) (N : Nm K mg) : FnG Pr w K mg base CX0 1 (Ad 8) (Dd 8) ["value"] (spF K f_is_whole) :=
  P.fn (T.fn 8 "is_whole" rfl).1 sc_is_whole rfl rfl fun cdv A outer s H E hg hr => by
    have hu := hr.units
    exact (P.last (P.ret (P.andV (P.isi (by rfl) N.n_isinstance (P.v 0) (by rfl) N.n_int (by decide +kernel) okT_int) (P.one (P.notV (P.isi (by rfl) N.n_isinstance (P.v 0) (by rfl) N.n_bool (by decide +kernel) okT_bool))))))
theorem sc_are_whole : FnScope ["value", "many", "part"] ["value", "many"] (defScope (top 9)) := ⟨rfl, rfl, rfl, by decide +kernel, rfl, by decide +kernel, by decide +kernel⟩
theorem b_are_whole {K : PySem.W.Frag} {f : Addr} {fd : FuncData} (F : FnP K "are_whole" (top 9) f fd) : Binds K fd ["value", "many"] [] := F.bindsN fun _ _ _ _ _ _ us hl => match us, hl with | [_, _], _ => rfl
def g_are_whole : M Out := sRet (mAndV (m1 (dIs "tuple") (mVar 0)) (mAndV (m2 (dEq) (mCall bLen (aCons (mVar 0) aNil)) (mVar 1)) (mCall bAll (aCons (mL (mLc (mIt (mVar 0)) [2] (.nm 2) (qC true) (mF f_is_whole (aCons (mVar 2) aNil)))) aNil))))
def f_are_whole : Fn := fnM 2 3 g_are_whole
theorem ok_are_whole (T : Pg K mg Ad Dd) (N : Nm K mg) : FnG Pr w K mg base CX0 2 (Ad 9) (Dd 9) ["value", "many"] (spF K f_are_whole) :=
  P.fn (T.fn 9 "are_whole" rfl).1 sc_are_whole rfl rfl fun cdv A outer s H E hg hr => by
    have hu := hr.units
    exact (P.last (P.ret (P.andV (P.isi (by rfl) N.n_isinstance (P.v 0) (by rfl) N.n_tuple (by decide +kernel) okT_tuple) (P.andV (P.cmp (op_eqP hr.units) w_eq (P.callB call_lenA w_len (by rfl) N.n_len (by decide +kernel) (P.acons (P.v 0) P.anil)) (P.v 1) (nomark _)) (P.one (P.callB (cr_all rfl) w_all (by rfl) N.n_all (by decide +kernel) (P.acons (P.ofL (P.lc rfl sc_are_whole.nd (own := [("part", 2)]) (P.iterE (P.iter (P.v 0))) (blkOk_by (own := [("part", 2)]) (N := ["value", "many", "part"]) (sc := defScope (top 9)) (by decide +kernel)) (by decide) (fun _ _ _ _ _ => (P.gnm sc_are_whole.nd (i := 2) rfl (by first | exact .inl rfl | exact .inr rfl))) (fun _ _ _ _ _ => P.nif) (fun _ _ _ _ _ => (P.call (ok_is_whole T N) hg (hr.mono (by decide)) (by rfl) (T.fn 8 "is_whole" rfl).2 (T.fn 8 "is_whole" rfl).1.kp (b_is_whole (T.fn 8 "is_whole" rfl).1) (P.acons (P.v 2) P.anil))))) P.anil)))))))
theorem sc_ratio : FnScope ["top", "bottom", "common"] ["top", "bottom"] (defScope (top 10)) := ⟨rfl, rfl, rfl, by decide +kernel, rfl, by decide +kernel, by decide +kernel⟩
theorem b_ratio {K : PySem.W.Frag} {f : Addr} {fd : FuncData} (F : FnP K "ratio" (top 10) f fd) : Binds K fd ["top", "bottom"] [] := F.bindsN fun _ _ _ _ _ _ us hl => match us, hl with | [_, _], _ => rfl
def g_ratio : M Out := sSeq (sAsg (.nm 2) (mCall bGcd (aCons (mVar 0) (aCons (mVar 1) aNil)))) (sSeq (mIf (mB (m2 (dCmp fun i j => decide (i < j)) (mVar 1) (mC (.int 0)))) (sAsg (.nm 2) (m1 dNeg (mVar 2))) (sNx)) (sRet (mTup (aCons (m2 dDiv (mVar 0) (mVar 2)) (aCons (m2 dDiv (mVar 1) (mVar 2)) aNil)))))
def f_ratio : Fn := fnM 2 3 g_ratio
theorem ok_ratio (T : Pg K mg Ad Dd) (N : Nm K mg) : FnG Pr w K mg base CX0 1 (Ad 10) (Dd 10) ["top", "bottom"] (spF K f_ratio) :=
  P.fn (T.fn 10 "ratio" rfl).1 sc_ratio rfl rfl fun cdv A outer s H E hg hr => by
    have hu := hr.units
    exact (P.seq (P.set (i := 2) sc_ratio.nd rfl (by first | exact .inl rfl | exact .inr rfl) (P.callG cr_gcdA w_gcd (by rfl) N.g_gcd (P.acons (P.v 0) (P.acons (P.v 1) P.anil)))) (P.seq (P.iff (P.cmpT op_lt w2_cmp (P.v 1) P.int (nomark _)) (P.last (P.set (i := 2) sc_ratio.nd rfl (by first | exact .inl rfl | exact .inr rfl) (P.un un_neg w_neg (P.v 2)))) P.nil) (P.last (P.ret (P.tup (P.acons (P.op op_fdivW w_div (P.v 0) (P.v 2)) (P.acons (P.op op_fdivW w_div (P.v 1) (P.v 2)) P.anil)))))))
theorem sc_ratio_sum : FnScope ["one", "two"] ["one", "two"] (defScope (top 11)) := ⟨rfl, rfl, rfl, by decide +kernel, rfl, by decide +kernel, by decide +kernel⟩
theorem b_ratio_sum {K : PySem.W.Frag} {f : Addr} {fd : FuncData} (F : FnP K "ratio_sum" (top 11) f fd) : Binds K fd ["one", "two"] [] := F.bindsN fun _ _ _ _ _ _ us hl => match us, hl with | [_, _], _ => rfl
def g_ratio_sum : M Out := sRet (mF f_ratio (aCons (m2 dAdd (m2 dMul (m2 dIx (mVar 0) (mC (.int 0))) (m2 dIx (mVar 1) (mC (.int 1)))) (m2 dMul (m2 dIx (mVar 1) (mC (.int 0))) (m2 dIx (mVar 0) (mC (.int 1))))) (aCons (m2 dMul (m2 dIx (mVar 0) (mC (.int 1))) (m2 dIx (mVar 1) (mC (.int 1)))) aNil)))
def f_ratio_sum : Fn := fnM 2 2 g_ratio_sum
theorem ok_ratio_sum (T : Pg K mg Ad Dd) (N : Nm K mg) : FnG Pr w K mg base CX0 2 (Ad 11) (Dd 11) ["one", "two"] (spF K f_ratio_sum) :=
  P.fn (T.fn 11 "ratio_sum" rfl).1 sc_ratio_sum rfl rfl fun cdv A outer s H E hg hr => by
    have hu := hr.units
    exact (P.last (P.ret (P.call (ok_ratio T N) hg (hr.mono (by decide)) (by rfl) (T.fn 10 "ratio" rfl).2 (T.fn 10 "ratio" rfl).1.kp (b_ratio (T.fn 10 "ratio" rfl).1) (P.acons (P.op op_addA w_add (P.op op_mulW w_mul (P.ix ix_seq w_ix (P.v 0) P.int (fun _ _ => rfl)) (P.ix ix_seq w_ix (P.v 1) P.int (fun _ _ => rfl))) (P.op op_mulW w_mul (P.ix ix_seq w_ix (P.v 1) P.int (fun _ _ => rfl)) (P.ix ix_seq w_ix (P.v 0) P.int (fun _ _ => rfl)))) (P.acons (P.op op_mulW w_mul (P.ix ix_seq w_ix (P.v 0) P.int (fun _ _ => rfl)) (P.ix ix_seq w_ix (P.v 1) P.int (fun _ _ => rfl))) P.anil)))))
theorem sc_ratio_gap : FnScope ["one", "two"] ["one", "two"] (defScope (top 12)) := ⟨rfl, rfl, rfl, by decide +kernel, rfl, by decide +kernel, by decide +kernel⟩
theorem b_ratio_gap {K : PySem.W.Frag} {f : Addr} {fd : FuncData} (F : FnP K "ratio_gap" (top 12) f fd) : Binds K fd ["one", "two"] [] := F.bindsN fun _ _ _ _ _ _ us hl => match us, hl with | [_, _], _ => rfl
def g_ratio_gap : M Out := sRet (mF f_ratio (aCons (m2 dSub (m2 dMul (m2 dIx (mVar 0) (mC (.int 0))) (m2 dIx (mVar 1) (mC (.int 1)))) (m2 dMul (m2 dIx (mVar 1) (mC (.int 0))) (m2 dIx (mVar 0) (mC (.int 1))))) (aCons (m2 dMul (m2 dIx (mVar 0) (mC (.int 1))) (m2 dIx (mVar 1) (mC (.int 1)))) aNil)))
def f_ratio_gap : Fn := fnM 2 2 g_ratio_gap
theorem ok_ratio_gap (T : Pg K mg Ad Dd) (N : Nm K mg) : FnG Pr w K mg base CX0 2 (Ad 12) (Dd 12) ["one", "two"] (spF K f_ratio_gap) :=
  P.fn (T.fn 12 "ratio_gap" rfl).1 sc_ratio_gap rfl rfl fun cdv A outer s H E hg hr => by
    have hu := hr.units
    exact (P.last (P.ret (P.call (ok_ratio T N) hg (hr.mono (by decide)) (by rfl) (T.fn 10 "ratio" rfl).2 (T.fn 10 "ratio" rfl).1.kp (b_ratio (T.fn 10 "ratio" rfl).1) (P.acons (P.op op_sub w_sub (P.op op_mulW w_mul (P.ix ix_seq w_ix (P.v 0) P.int (fun _ _ => rfl)) (P.ix ix_seq w_ix (P.v 1) P.int (fun _ _ => rfl))) (P.op op_mulW w_mul (P.ix ix_seq w_ix (P.v 1) P.int (fun _ _ => rfl)) (P.ix ix_seq w_ix (P.v 0) P.int (fun _ _ => rfl)))) (P.acons (P.op op_mulW w_mul (P.ix ix_seq w_ix (P.v 0) P.int (fun _ _ => rfl)) (P.ix ix_seq w_ix (P.v 1) P.int (fun _ _ => rfl))) P.anil)))))
theorem sc_rounded_up : FnScope ["fraction"] ["fraction"] (defScope (top 13)) := ⟨rfl, rfl, rfl, by decide +kernel, rfl, by decide +kernel, by decide +kernel⟩
theorem b_rounded_up {K : PySem.W.Frag} {f : Addr} {fd : FuncData} (F : FnP K "rounded_up" (top 13) f fd) : Binds K fd ["fraction"] [] := F.bindsN fun _ _ _ _ _ _ us hl => match us, hl with | [_], _ => rfl
def g_rounded_up : M Out := sRet (m1 dNeg (m2 dDiv (m1 dNeg (m2 dIx (mVar 0) (mC (.int 0)))) (m2 dIx (mVar 0) (mC (.int 1)))))
def f_rounded_up : Fn := fnM 1 1 g_rounded_up
theorem ok_rounded_up (T : Pg K mg Ad Dd) (N : Nm K mg) : FnG Pr w K mg base CX0 1 (Ad 13) (Dd 13) ["fraction"] (spF K f_rounded_up) :=
  P.fn (T.fn 13 "rounded_up" rfl).1 sc_rounded_up rfl rfl fun cdv A outer s H E hg hr => by
    have hu := hr.units
    exact (P.last (P.ret (P.un un_neg w_neg (P.op op_fdivW w_div (P.un un_neg w_neg (P.ix ix_seq w_ix (P.v 0) P.int (fun _ _ => rfl))) (P.ix ix_seq w_ix (P.v 0) P.int (fun _ _ => rfl))))))
theorem sc_is_less : FnScope ["one", "two"] ["one", "two"] (defScope (top 14)) := ⟨rfl, rfl, rfl, by decide +kernel, rfl, by decide +kernel, by decide +kernel⟩
theorem b_is_less {K : PySem.W.Frag} {f : Addr} {fd : FuncData} (F : FnP K "is_less" (top 14) f fd) : Binds K fd ["one", "two"] [] := F.bindsN fun _ _ _ _ _ _ us hl => match us, hl with | [_, _], _ => rfl
def g_is_less : M Out := sRet (m2 (dCmp fun i j => decide (i < j)) (m2 dMul (m2 dIx (mVar 0) (mC (.int 0))) (m2 dIx (mVar 1) (mC (.int 1)))) (m2 dMul (m2 dIx (mVar 1) (mC (.int 0))) (m2 dIx (mVar 0) (mC (.int 1)))))
def f_is_less : Fn := fnM 2 2 g_is_less
theorem ok_is_less (T : Pg K mg Ad Dd) (N : Nm K mg) : FnG Pr w K mg base CX0 1 (Ad 14) (Dd 14) ["one", "two"] (spF K f_is_less) :=
  P.fn (T.fn 14 "is_less" rfl).1 sc_is_less rfl rfl fun cdv A outer s H E hg hr => by
    have hu := hr.units
    exact (P.last (P.ret (P.cmp op_lt w2_cmp (P.op op_mulW w_mul (P.ix ix_seq w_ix (P.v 0) P.int (fun _ _ => rfl)) (P.ix ix_seq w_ix (P.v 1) P.int (fun _ _ => rfl))) (P.op op_mulW w_mul (P.ix ix_seq w_ix (P.v 1) P.int (fun _ _ => rfl)) (P.ix ix_seq w_ix (P.v 0) P.int (fun _ _ => rfl))) (nomark _))))
theorem sc_lesser : FnScope ["one", "two"] ["one", "two"] (defScope (top 15)) := ⟨rfl, rfl, rfl, by decide +kernel, rfl, by decide +kernel, by decide +kernel⟩
theorem b_lesser {K : PySem.W.Frag} {f : Addr} {fd : FuncData} (F : FnP K "lesser" (top 15) f fd) : Binds K fd ["one", "two"] [] := F.bindsN fun _ _ _ _ _ _ us hl => match us, hl with | [_, _], _ => rfl
def g_lesser : M Out := sSeq (mIf (mB (mF f_is_less (aCons (mVar 1) (aCons (mVar 0) aNil)))) (sRet (mVar 1)) (sNx)) (sRet (mVar 0))
def f_lesser : Fn := fnM 2 2 g_lesser
theorem ok_lesser (T : Pg K mg Ad Dd) (N : Nm K mg) : FnG Pr w K mg base CX0 2 (Ad 15) (Dd 15) ["one", "two"] (spF K f_lesser) :=
  P.fn (T.fn 15 "lesser" rfl).1 sc_lesser rfl rfl fun cdv A outer s H E hg hr => by
    have hu := hr.units
    exact (P.seq (P.iff (P.tval (P.call (ok_is_less T N) hg (hr.mono (by decide)) (by rfl) (T.fn 14 "is_less" rfl).2 (T.fn 14 "is_less" rfl).1.kp (b_is_less (T.fn 14 "is_less" rfl).1) (P.acons (P.v 1) (P.acons (P.v 0) P.anil)))) (P.last (P.ret (P.v 1))) P.nil) (P.last (P.ret (P.v 0))))
theorem sc_is_fraction : FnScope ["value"] ["value"] (defScope (top 17)) := ⟨rfl, rfl, rfl, by decide +kernel, rfl, by decide +kernel, by decide +kernel⟩
theorem b_is_fraction {K : PySem.W.Frag} {f : Addr} {fd : FuncData} (F : FnP K "is_fraction" (top 17) f fd) : Binds K fd ["value"] [] := F.bindsN fun _ _ _ _ _ _ us hl => match us, hl with | [_], _ => rfl
def g_is_fraction : M Out := sRet (mAndV (mF f_are_whole (aCons (mVar 0) (aCons (mC (.int 2)) aNil))) (mAndV (m2 (dCmp fun i j => decide (j < i)) (m2 dIx (mVar 0) (mC (.int 1))) (mC (.int 0))) (m2 (dEq) (mCall bGcd (aCons (m2 dIx (mVar 0) (mC (.int 0))) (aCons (m2 dIx (mVar 0) (mC (.int 1))) aNil))) (mC (.int 1)))))
def f_is_fraction : Fn := fnM 1 1 g_is_fraction
theorem ok_is_fraction (T : Pg K mg Ad Dd) (N : Nm K mg) : FnG Pr w K mg base CX0 3 (Ad 17) (Dd 17) ["value"] (spF K f_is_fraction) :=
  P.fn (T.fn 17 "is_fraction" rfl).1 sc_is_fraction rfl rfl fun cdv A outer s H E hg hr => by
    have hu := hr.units
    exact (P.last (P.ret (P.andV (P.call (ok_are_whole T N) hg (hr.mono (by decide)) (by rfl) (T.fn 9 "are_whole" rfl).2 (T.fn 9 "are_whole" rfl).1.kp (b_are_whole (T.fn 9 "are_whole" rfl).1) (P.acons (P.v 0) (P.acons P.int P.anil))) (P.andV (P.cmp op_gt w2_cmp (P.ix ix_seq w_ix (P.v 0) P.int (fun _ _ => rfl)) P.int (nomark _)) (P.one (P.cmp (op_eqP hr.units) w_eq (P.callG cr_gcdA w_gcd (by rfl) N.g_gcd (P.acons (P.ix ix_seq w_ix (P.v 0) P.int (fun _ _ => rfl)) (P.acons (P.ix ix_seq w_ix (P.v 0) P.int (fun _ _ => rfl)) P.anil))) P.int (nomark _)))))))
theorem sc_is_form : FnScope ["value"] ["value"] (defScope (top 20)) := ⟨rfl, rfl, rfl, by decide +kernel, rfl, by decide +kernel, by decide +kernel⟩
theorem b_is_form {K : PySem.W.Frag} {f : Addr} {fd : FuncData} (F : FnP K "is_form" (top 20) f fd) : Binds K fd ["value"] [] := F.bindsN fun _ _ _ _ _ _ us hl => match us, hl with | [_], _ => rfl
def g_is_form : M Out := sSeq (mIf (mOr (mNot (mB (m1 (dIs "tuple") (mVar 0)))) (mOr (mB (m2 (dNe) (mCall bLen (aCons (mVar 0) aNil)) (mC (.int 2)))) (mOr (mNot (mB (mF f_is_fraction (aCons (m2 dIx (mVar 0) (mC (.int 0))) aNil)))) (mNot (mB (mF f_is_fraction (aCons (m2 dIx (mVar 0) (mC (.int 1))) aNil))))))) (sRet (mC (.bool false))) (sNx)) (sRet (mAndV (mF f_is_less (aCons (mC (.tuple [(.int 0), (.int 1)])) (aCons (m2 dIx (mVar 0) (mC (.int 0))) aNil))) (mAndV (m1 dNot (mF f_is_less (aCons (m2 dIx (mVar 0) (mC (.int 1))) (aCons (mC (.tuple [(.int 0), (.int 1)])) aNil)))) (m1 dNot (mF f_is_less (aCons (mC (.tuple [(.int 1), (.int 1)])) (aCons (m2 dIx (mVar 0) (mC (.int 1))) aNil)))))))
def f_is_form : Fn := fnM 1 1 g_is_form
theorem ok_is_form (T : Pg K mg Ad Dd) (N : Nm K mg) : FnG Pr w K mg base CX0 4 (Ad 20) (Dd 20) ["value"] (spF K f_is_form) :=
  P.fn (T.fn 20 "is_form" rfl).1 sc_is_form rfl rfl fun cdv A outer s H E hg hr => by
    have hu := hr.units
    exact (P.seq (P.iff (PW.pt (P.or (P.not (P.tval (P.isi (by rfl) N.n_isinstance (P.v 0) (by rfl) N.n_tuple (by decide +kernel) okT_tuple))) (P.or (P.cmpT (op_neP hr.units) w_ne (P.callB call_lenA w_len (by rfl) N.n_len (by decide +kernel) (P.acons (P.v 0) P.anil)) P.int (nomark _)) (P.or (P.not (P.tval (P.call (ok_is_fraction T N) hg (hr.mono (by decide)) (by rfl) (T.fn 17 "is_fraction" rfl).2 (T.fn 17 "is_fraction" rfl).1.kp (b_is_fraction (T.fn 17 "is_fraction" rfl).1) (P.acons (P.ix ix_seq w_ix (P.v 0) P.int (fun _ _ => rfl)) P.anil)))) (P.or1 (P.not (P.tval (P.call (ok_is_fraction T N) hg (hr.mono (by decide)) (by rfl) (T.fn 17 "is_fraction" rfl).2 (T.fn 17 "is_fraction" rfl).1.kp (b_is_fraction (T.fn 17 "is_fraction" rfl).1) (P.acons (P.ix ix_seq w_ix (P.v 0) P.int (fun _ _ => rfl)) P.anil))))))))) (P.last (P.ret P.bl)) P.nil) (P.last (P.ret (P.andV (P.call (ok_is_less T N) hg (hr.mono (by decide)) (by rfl) (T.fn 14 "is_less" rfl).2 (T.fn 14 "is_less" rfl).1.kp (b_is_less (T.fn 14 "is_less" rfl).1) (P.acons (P.cst (by rfl) N.c_ZERO) (P.acons (P.ix ix_seq w_ix (P.v 0) P.int (fun _ _ => rfl)) P.anil))) (P.andV (P.notV (P.call (ok_is_less T N) hg (hr.mono (by decide)) (by rfl) (T.fn 14 "is_less" rfl).2 (T.fn 14 "is_less" rfl).1.kp (b_is_less (T.fn 14 "is_less" rfl).1) (P.acons (P.ix ix_seq w_ix (P.v 0) P.int (fun _ _ => rfl)) (P.acons (P.cst (by rfl) N.c_ZERO) P.anil)))) (P.one (P.notV (P.call (ok_is_less T N) hg (hr.mono (by decide)) (by rfl) (T.fn 14 "is_less" rfl).2 (T.fn 14 "is_less" rfl).1.kp (b_is_less (T.fn 14 "is_less" rfl).1) (P.acons (P.cst (by rfl) N.c_ONE) (P.acons (P.ix ix_seq w_ix (P.v 0) P.int (fun _ _ => rfl)) P.anil))))))))))
theorem sc_need_form : FnScope ["value"] ["value"] (defScope (top 19)) := ⟨rfl, rfl, rfl, by decide +kernel, rfl, by decide +kernel, by decide +kernel⟩
theorem b_need_form {K : PySem.W.Frag} {f : Addr} {fd : FuncData} (F : FnP K "need_form" (top 19) f fd) : Binds K fd ["value"] [] := F.bindsN fun _ _ _ _ _ _ us hl => match us, hl with | [_], _ => rfl
def g_need_form : M Out := mIf (mNot (mB (mF f_is_form (aCons (mVar 0) aNil)))) (sNo) (sNx)
def f_need_form : Fn := fnM 1 1 g_need_form
theorem ok_need_form (T : Pg K mg Ad Dd) (N : Nm K mg) : FnG Pr w K mg base CX0 5 (Ad 19) (Dd 19) ["value"] (spF K f_need_form) :=
  P.fn (T.fn 19 "need_form" rfl).1 sc_need_form rfl rfl fun cdv A outer s H E hg hr => by
    have hu := hr.units
    exact (P.last (P.iff (P.not (P.tval (P.call (ok_is_form T N) hg (hr.mono (by decide)) (by rfl) (T.fn 20 "is_form" rfl).2 (T.fn 20 "is_form" rfl).1.kp (b_is_form (T.fn 20 "is_form" rfl).1) (P.acons (P.v 0) P.anil)))) (P.last P.no) P.nil))
theorem sc_runs_by_form : FnScope ["form", "many", "share", "start", "rise"] ["form", "many"] (defScope (top 21)) := ⟨rfl, rfl, rfl, by decide +kernel, rfl, by decide +kernel, by decide +kernel⟩
theorem b_runs_by_form {K : PySem.W.Frag} {f : Addr} {fd : FuncData} (F : FnP K "runs_by_form" (top 21) f fd) : Binds K fd ["form", "many"] [] := F.bindsN fun _ _ _ _ _ _ us hl => match us, hl with | [_, _], _ => rfl
def g_runs_by_form : M Out := sSeq (sEx (mF f_need_form (aCons (mVar 0) aNil))) (sSeq (mIf (mOr (mNot (mB (mF f_is_whole (aCons (mVar 1) aNil)))) (mB (m2 (dCmp fun i j => decide (i < j)) (mVar 1) (mC (.int 1))))) (sNo) (sNx)) (sSeq (sAsg (.tp [.nm 2, .nm 3]) (mVar 0)) (sSeq (sAsg (.nm 4) (mF f_ratio (aCons (m2 dMul (mVar 1) (m2 dIx (mVar 2) (mC (.int 0)))) (aCons (m2 dIx (mVar 2) (mC (.int 1))) aNil)))) (sRet (mCall bMin3 (aCons (m2 dAdd (m2 dMul (mC (.int 2)) (mF f_rounded_up (aCons (mVar 4) aNil))) (mC (.int 1))) (aCons (m2 dMul (mC (.int 2)) (mF f_rounded_up (aCons (mF f_ratio_sum (aCons (mVar 4) (aCons (mVar 3) aNil))) aNil))) (aCons (m2 dAdd (m2 dMul (mC (.int 2)) (mF f_rounded_up (aCons (mF f_ratio_gap (aCons (mVar 4) (aCons (mVar 3) aNil))) aNil))) (mC (.int 2))) aNil))))))))
def f_runs_by_form : Fn := fnM 2 5 g_runs_by_form
theorem ok_runs_by_form (T : Pg K mg Ad Dd) (N : Nm K mg) : FnG Pr w K mg base CX0 6 (Ad 21) (Dd 21) ["form", "many"] (spF K f_runs_by_form) :=
  P.fn (T.fn 21 "runs_by_form" rfl).1 sc_runs_by_form rfl rfl fun cdv A outer s H E hg hr => by
    have hu := hr.units
    exact (P.seq (P.expr (P.call (ok_need_form T N) hg (hr.mono (by decide)) (by rfl) (T.fn 19 "need_form" rfl).2 (T.fn 19 "need_form" rfl).1.kp (b_need_form (T.fn 19 "need_form" rfl).1) (P.acons (P.v 0) P.anil))) (P.seq (P.iff (PW.pt (P.or (P.not (P.tval (P.call (ok_is_whole T N) hg (hr.mono (by decide)) (by rfl) (T.fn 8 "is_whole" rfl).2 (T.fn 8 "is_whole" rfl).1.kp (b_is_whole (T.fn 8 "is_whole" rfl).1) (P.acons (P.v 1) P.anil)))) (P.or1 (P.cmpT op_lt w2_cmp (P.v 1) P.int (nomark _))))) (P.last P.no) P.nil) (P.seq (P.asg (P.v 0) (P.gtup (n := 2) rfl (P.gcons (P.gnm sc_runs_by_form.nd (i := 2) rfl (by first | exact .inl rfl | exact .inr rfl)) (P.gcons (P.gnm sc_runs_by_form.nd (i := 3) rfl (by first | exact .inl rfl | exact .inr rfl)) P.gnil)))) (P.seq (P.set (i := 4) sc_runs_by_form.nd rfl (by first | exact .inl rfl | exact .inr rfl) (P.call (ok_ratio T N) hg (hr.mono (by decide)) (by rfl) (T.fn 10 "ratio" rfl).2 (T.fn 10 "ratio" rfl).1.kp (b_ratio (T.fn 10 "ratio" rfl).1) (P.acons (P.op op_mulW w_mul (P.v 1) (P.ix ix_seq w_ix (P.v 2) P.int (fun _ _ => rfl))) (P.acons (P.ix ix_seq w_ix (P.v 2) P.int (fun _ _ => rfl)) P.anil)))) (P.last (P.ret (P.callB (call_min3 rfl) w_min3 (by rfl) N.n_min (by decide +kernel) (P.acons (P.op op_addA w_add (P.op op_mulW w_mul P.int (P.call (ok_rounded_up T N) hg (hr.mono (by decide)) (by rfl) (T.fn 13 "rounded_up" rfl).2 (T.fn 13 "rounded_up" rfl).1.kp (b_rounded_up (T.fn 13 "rounded_up" rfl).1) (P.acons (P.v 4) P.anil))) P.int) (P.acons (P.op op_mulW w_mul P.int (P.call (ok_rounded_up T N) hg (hr.mono (by decide)) (by rfl) (T.fn 13 "rounded_up" rfl).2 (T.fn 13 "rounded_up" rfl).1.kp (b_rounded_up (T.fn 13 "rounded_up" rfl).1) (P.acons (P.call (ok_ratio_sum T N) hg (hr.mono (by decide)) (by rfl) (T.fn 11 "ratio_sum" rfl).2 (T.fn 11 "ratio_sum" rfl).1.kp (b_ratio_sum (T.fn 11 "ratio_sum" rfl).1) (P.acons (P.v 4) (P.acons (P.v 3) P.anil))) P.anil))) (P.acons (P.op op_addA w_add (P.op op_mulW w_mul P.int (P.call (ok_rounded_up T N) hg (hr.mono (by decide)) (by rfl) (T.fn 13 "rounded_up" rfl).2 (T.fn 13 "rounded_up" rfl).1.kp (b_rounded_up (T.fn 13 "rounded_up" rfl).1) (P.acons (P.call (ok_ratio_gap T N) hg (hr.mono (by decide)) (by rfl) (T.fn 12 "ratio_gap" rfl).2 (T.fn 12 "ratio_gap" rfl).1.kp (b_ratio_gap (T.fn 12 "ratio_gap" rfl).1) (P.acons (P.v 4) (P.acons (P.v 3) P.anil))) P.anil))) P.int) P.anil))))))))))
theorem sc_dear_share : FnScope ["form", "share", "start", "nearer", "turns"] ["form"] (defScope (top 22)) := ⟨rfl, rfl, rfl, by decide +kernel, rfl, by decide +kernel, by decide +kernel⟩
theorem b_dear_share {K : PySem.W.Frag} {f : Addr} {fd : FuncData} (F : FnP K "dear_share" (top 22) f fd) : Binds K fd ["form"] [] := F.bindsN fun _ _ _ _ _ _ us hl => match us, hl with | [_], _ => rfl
def g_dear_share : M Out := sSeq (sEx (mF f_need_form (aCons (mVar 0) aNil))) (sSeq (sAsg (.tp [.nm 1, .nm 2]) (mVar 0)) (sSeq (sAsg (.nm 3) (mF f_lesser (aCons (mVar 2) (aCons (mF f_ratio_gap (aCons (mC (.tuple [(.int 1), (.int 1)])) (aCons (mVar 2) aNil))) aNil)))) (sSeq (sAsg (.nm 4) (m2 dIx (mVar 1) (mC (.int 1)))) (sRet (mF f_ratio (aCons (mF f_rounded_up (aCons (mF f_ratio (aCons (m2 dMul (mVar 4) (m2 dIx (mVar 3) (mC (.int 0)))) (aCons (m2 dIx (mVar 3) (mC (.int 1))) aNil))) aNil)) (aCons (mVar 4) aNil)))))))
def f_dear_share : Fn := fnM 1 5 g_dear_share
theorem ok_dear_share (T : Pg K mg Ad Dd) (N : Nm K mg) : FnG Pr w K mg base CX0 6 (Ad 22) (Dd 22) ["form"] (spF K f_dear_share) :=
  P.fn (T.fn 22 "dear_share" rfl).1 sc_dear_share rfl rfl fun cdv A outer s H E hg hr => by
    have hu := hr.units
    exact (P.seq (P.expr (P.call (ok_need_form T N) hg (hr.mono (by decide)) (by rfl) (T.fn 19 "need_form" rfl).2 (T.fn 19 "need_form" rfl).1.kp (b_need_form (T.fn 19 "need_form" rfl).1) (P.acons (P.v 0) P.anil))) (P.seq (P.asg (P.v 0) (P.gtup (n := 2) rfl (P.gcons (P.gnm sc_dear_share.nd (i := 1) rfl (by first | exact .inl rfl | exact .inr rfl)) (P.gcons (P.gnm sc_dear_share.nd (i := 2) rfl (by first | exact .inl rfl | exact .inr rfl)) P.gnil)))) (P.seq (P.set (i := 3) sc_dear_share.nd rfl (by first | exact .inl rfl | exact .inr rfl) (P.call (ok_lesser T N) hg (hr.mono (by decide)) (by rfl) (T.fn 15 "lesser" rfl).2 (T.fn 15 "lesser" rfl).1.kp (b_lesser (T.fn 15 "lesser" rfl).1) (P.acons (P.v 2) (P.acons (P.call (ok_ratio_gap T N) hg (hr.mono (by decide)) (by rfl) (T.fn 12 "ratio_gap" rfl).2 (T.fn 12 "ratio_gap" rfl).1.kp (b_ratio_gap (T.fn 12 "ratio_gap" rfl).1) (P.acons (P.cst (by rfl) N.c_ONE) (P.acons (P.v 2) P.anil))) P.anil)))) (P.seq (P.set (i := 4) sc_dear_share.nd rfl (by first | exact .inl rfl | exact .inr rfl) (P.ix ix_seq w_ix (P.v 1) P.int (fun _ _ => rfl))) (P.last (P.ret (P.call (ok_ratio T N) hg (hr.mono (by decide)) (by rfl) (T.fn 10 "ratio" rfl).2 (T.fn 10 "ratio" rfl).1.kp (b_ratio (T.fn 10 "ratio" rfl).1) (P.acons (P.call (ok_rounded_up T N) hg (hr.mono (by decide)) (by rfl) (T.fn 13 "rounded_up" rfl).2 (T.fn 13 "rounded_up" rfl).1.kp (b_rounded_up (T.fn 13 "rounded_up" rfl).1) (P.acons (P.call (ok_ratio T N) hg (hr.mono (by decide)) (by rfl) (T.fn 10 "ratio" rfl).2 (T.fn 10 "ratio" rfl).1.kp (b_ratio (T.fn 10 "ratio" rfl).1) (P.acons (P.op op_mulW w_mul (P.v 4) (P.ix ix_seq w_ix (P.v 3) P.int (fun _ _ => rfl))) (P.acons (P.ix ix_seq w_ix (P.v 3) P.int (fun _ _ => rfl)) P.anil))) P.anil)) (P.acons (P.v 4) P.anil)))))))))
theorem sc__law_sack : FnScope ["_law_script", "_law_turn", "_law_cell", "_law_stir", "_law_each"] ["_law_script", "_law_turn"] (defScope (top 24)) := ⟨rfl, rfl, rfl, by decide +kernel, rfl, by decide +kernel, by decide +kernel⟩
theorem b__law_sack {K : PySem.W.Frag} {f : Addr} {fd : FuncData} (F : FnP K "_law_sack" (top 24) f fd) : Binds K fd ["_law_script", "_law_turn"] [] := F.bindsN fun _ _ _ _ _ _ us hl => match us, hl with | [_, _], _ => rfl
def lb__law_sack_0 : M Out := sAsg (.nm 3) (m2 dMod (mCall bInt (aCons (m2 dAdd (m2 dAdd (m2 dMul (mVar 3) (mC (.int 69069))) (m2 dMod (mCall bInt (aCons (mVar 4) aNil)) (mC (.int 2147483543)))) (mC (.int 13))) aNil)) (mC (.int 2147483543)))
def g__law_sack : M Out := sSeq (sAsg (.nm 2) (mIf (mB (m2 (dCmp fun i j => decide (i < j)) (mVar 1) (mCall bLen (aCons (mVar 0) aNil)))) (mCall bInt (aCons (m2 dIx (mVar 0) (mVar 1)) aNil)) (m2 dAdd (m2 dMul (mC (.int 7919)) (mVar 1)) (mC (.int 101))))) (sSeq (sAsg (.nm 3) (m2 dAdd (mC (.int 30011)) (m2 dMul (mC (.int 1709)) (mVar 1)))) (sSeq (sFor (mIt (m2 dAdd (mCall bList (aCons (mSl (mVar 0) oNo (oSome (mC (.int 7)))) aNil)) (mL (mLst (aCons (mVar 2) aNil))))) (.nm 4) lb__law_sack_0) (sRetL (mLst (aCons (mIf (mOr (mB (m2 (dCmp fun i j => decide (i < j)) (mVar 2) (mC (.int 0)))) (mB (m2 (dCmp fun i j => decide (j ≤ i)) (mVar 2) (m2 dPow (mC (.int 10)) (mC (.int 18)))))) (mCall bAbs (aCons (mVar 2) aNil)) (mC (.int 0))) (aCons (mVar 3) (aCons (mC (.int 0)) aNil)))))))
def f__law_sack : FnL := fnL 2 5 g__law_sack
theorem ok__law_sack (T : Pg K mg Ad Dd) (N : Nm K mg) : FnG Pr w K mg base CX0 1 (Ad 24) (Dd 24) ["_law_script", "_law_turn"] (spL K f__law_sack) :=
  P.fnl (T.fn 24 "_law_sack" rfl).1 sc__law_sack rfl rfl fun cdv A outer s H E hg hr => by
    have hu := hr.units
    exact (P.seq (P.set (i := 2) sc__law_sack.nd rfl (by first | exact .inl rfl | exact .inr rfl) (P.ifE (P.cmpT op_lt w2_cmp (P.v 1) (P.callB call_lenA w_len (by rfl) N.n_len (by decide +kernel) (P.acons (P.v 0) P.anil)) (nomark _)) (P.callTy call_int1 w_int (by rfl) N.n_int (by decide +kernel) (P.acons (P.ix ix_seq w_ix (P.v 0) (P.v 1) (fun _ _ => rfl)) P.anil)) (P.op op_addA w_add (P.op op_mulW w_mul P.int (P.v 1)) P.int))) (P.seq (P.set (i := 3) sc__law_sack.nd rfl (by first | exact .inl rfl | exact .inr rfl) (P.op op_addA w_add P.int (P.op op_mulW w_mul P.int (P.v 1)))) (P.seq (P.for PassesOwn.never rfl (P.iter (P.op op_addA w_add (P.callTy call_list_of w_list (by rfl) N.n_list (by decide +kernel) (P.acons (P.sl (P.v 0) P.ono (P.osome P.int)) P.anil)) (P.ofL (P.list (P.acons (P.v 2) P.anil))))) (P.gnm sc__law_sack.nd (i := 4) rfl (by first | exact .inl rfl | exact .inr rfl)) (P.last (P.set (i := 3) sc__law_sack.nd rfl (by first | exact .inl rfl | exact .inr rfl) (P.op op_mod w_mod (P.callTy call_int1 w_int (by rfl) N.n_int (by decide +kernel) (P.acons (P.op op_addA w_add (P.op op_addA w_add (P.op op_mulW w_mul (P.v 3) P.int) (P.op op_mod w_mod (P.callTy call_int1 w_int (by rfl) N.n_int (by decide +kernel) (P.acons (P.v 4) P.anil)) P.int)) P.int) P.anil)) P.int)))) (P.last (P.retL (P.list (P.acons (P.ifE (PW.pt (P.or (P.cmpT op_lt w2_cmp (P.v 2) P.int (nomark _)) (P.or1 (P.cmpT op_ge w2_cmp (P.v 2) (P.op op_pow w_pow P.int P.int) (nomark _))))) (P.callB call_abs w_abs (by rfl) N.n_abs (by decide +kernel) (P.acons (P.v 2) P.anil)) P.int) (P.acons (P.v 3) (P.acons P.int P.anil)))))))))
theorem sc__law_draw : FnScope ["_law_sack_here", "_law_size", "_law_digit", "_law_blend"] ["_law_sack_here", "_law_size"] (defScope (top 25)) := ⟨rfl, rfl, rfl, by decide +kernel, rfl, by decide +kernel, by decide +kernel⟩
theorem b__law_draw {K : PySem.W.Frag} {f : Addr} {fd : FuncData} (F : FnP K "_law_draw" (top 25) f fd) : Binds K fd ["_law_sack_here", "_law_size"] [] := F.bindsN fun _ _ _ _ _ _ us hl => match us, hl with | [_, _], _ => rfl
def g__law_draw : M Out := sSeq (mIf (mB (m2 (dCmp fun i j => decide (j < i)) (mSk 0 0) (mC (.int 0)))) (sSeq (sAsg (.tp [.sb 0 0, .nm 2]) (mCall bDivmod (aCons (mSk 0 0) (aCons (mVar 1) aNil)))) (sRet (mVar 2))) (sNx)) (sSeq (sAsg (.sb 0 2) (m2 dAdd (mSk 0 2) (mC (.int 1)))) (sSeq (sAsg (.nm 3) (m2 dMod (mCall bInt (aCons (m2 dAdd (m2 dMul (mSk 0 1) (mC (.int 16807))) (m2 dMul (mSk 0 2) (mC (.int 48611)))) aNil)) (mC (.int 2147483543)))) (sSeq (sAsg (.sb 0 1) (m2 dMod (mCall bInt (aCons (m2 dAdd (m2 dMul (mVar 3) (m2 dAdd (m2 dMod (mCall bInt (aCons (m2 dDiv (mVar 3) (mC (.int 11))) aNil)) (mC (.int 3001))) (mC (.int 10007)))) (mC (.int 29))) aNil)) (mC (.int 2147483543)))) (sRet (m2 dMod (mCall bInt (aCons (m2 dDiv (mSk 0 1) (mC (.int 523))) aNil)) (mVar 1))))))
def f__law_draw : Fn := fnM 2 4 g__law_draw
theorem ok__law_draw (T : Pg K mg Ad Dd) (N : Nm K mg) : FnG Pr w K mg base CX0 1 (Ad 25) (Dd 25) ["_law_sack_here", "_law_size"] (spF K f__law_draw) :=
  P.fn (T.fn 25 "_law_draw" rfl).1 sc__law_draw rfl rfl fun cdv A outer s H E hg hr => by
    have hu := hr.units
    exact (P.seq (P.iff (P.cmpT op_gt w2_cmp (P.skv 0) P.int (nomark _)) (P.seq (P.asg (P.callB call_divmod w_divmod (by rfl) N.n_divmod (by decide +kernel) (P.acons (P.skv 0) (P.acons (P.v 1) P.anil))) (P.gtup (n := 2) rfl (P.gcons (P.gsubv 0) (P.gcons (P.gnm sc__law_draw.nd (i := 2) rfl (by first | exact .inl rfl | exact .inr rfl)) P.gnil)))) (P.last (P.ret (P.v 2)))) P.nil) (P.seq (P.asg (P.op op_addA w_add (P.skv 0) P.int) (P.gsubv 0)) (P.seq (P.set (i := 3) sc__law_draw.nd rfl (by first | exact .inl rfl | exact .inr rfl) (P.op op_mod w_mod (P.callTy call_int1 w_int (by rfl) N.n_int (by decide +kernel) (P.acons (P.op op_addA w_add (P.op op_mulW w_mul (P.skv 0) P.int) (P.op op_mulW w_mul (P.skv 0) P.int)) P.anil)) P.int)) (P.seq (P.asg (P.op op_mod w_mod (P.callTy call_int1 w_int (by rfl) N.n_int (by decide +kernel) (P.acons (P.op op_addA w_add (P.op op_mulW w_mul (P.v 3) (P.op op_addA w_add (P.op op_mod w_mod (P.callTy call_int1 w_int (by rfl) N.n_int (by decide +kernel) (P.acons (P.op op_fdivW w_div (P.v 3) P.int) P.anil)) P.int) P.int)) P.int) P.anil)) P.int) (P.gsubv 0)) (P.last (P.ret (P.op op_mod w_mod (P.callTy call_int1 w_int (by rfl) N.n_int (by decide +kernel) (P.acons (P.op op_fdivW w_div (P.skv 0) P.int) P.anil)) (P.v 1))))))))
theorem sc__law_gcd : FnScope ["_law_one", "_law_two"] ["_law_one", "_law_two"] (defScope (top 26)) := ⟨rfl, rfl, rfl, by decide +kernel, rfl, by decide +kernel, by decide +kernel⟩
theorem b__law_gcd {K : PySem.W.Frag} {f : Addr} {fd : FuncData} (F : FnP K "_law_gcd" (top 26) f fd) : Binds K fd ["_law_one", "_law_two"] [] := F.bindsN fun _ _ _ _ _ _ us hl => match us, hl with | [_, _], _ => rfl
def t__law_gcd_0 : PL.Env → S → Nat := fun ρ _ => match ρ[1]? with
  | some (some (Cell.fz (.int b))) => b.natAbs + 1
  | _ => 0
def lc__law_gcd_0 : M Bool := mB (m2 (dNe) (mVar 1) (mC (.int 0)))
def lb__law_gcd_0 : M Out := sPar 0 1 (aCons (mVar 1) (aCons (m2 dMod (mCall bInt (aCons (mVar 0) aNil)) (mVar 1)) aNil))
def g__law_gcd : M Out := sSeq (sPar 0 1 (aCons (mCall bAbs (aCons (mVar 0) aNil)) (aCons (mCall bAbs (aCons (mVar 1) aNil)) aNil))) (sSeq (sWh t__law_gcd_0 lc__law_gcd_0 lb__law_gcd_0) (sRet (mVar 0)))
def f__law_gcd : Fn := fnM 2 2 g__law_gcd
theorem ok__law_gcd (T : Pg K mg Ad Dd) (N : Nm K mg) : FnG Pr w K mg base CX0 1 (Ad 26) (Dd 26) ["_law_one", "_law_two"] (spF K f__law_gcd) :=
  P.fn (T.fn 26 "_law_gcd" rfl).1 sc__law_gcd rfl rfl fun cdv A outer s H E hg hr => by
    have hu := hr.units
    exact (P.seq (P.par (i := 0) (j := 1) rfl sc__law_gcd.nd rfl rfl (by decide) rfl rfl (P.acons (P.callB call_abs w_abs (by rfl) N.n_abs (by decide +kernel) (P.acons (P.v 0) P.anil)) (P.acons (P.callB call_abs w_abs (by rfl) N.n_abs (by decide +kernel) (P.acons (P.v 1) P.anil)) P.anil)) (by rfl)) (P.seq (P.while t__law_gcd_0 PassesOwn.never (P.cmpT (op_neP hr.units) w_ne (P.v 1) P.int (nomark _)) (P.last (P.par (i := 0) (j := 1) rfl sc__law_gcd.nd rfl rfl (by decide) rfl rfl (P.acons (P.v 1) (P.acons (P.op op_mod w_mod (P.callTy call_int1 w_int (by rfl) N.n_int (by decide +kernel) (P.acons (P.v 0) P.anil)) (P.v 1)) P.anil)) (by rfl)))) (P.last (P.ret (P.v 0)))))
theorem sc__law_ratio : FnScope ["_law_n", "_law_m", "_law_low"] ["_law_n", "_law_m"] (defScope (top 27)) := ⟨rfl, rfl, rfl, by decide +kernel, rfl, by decide +kernel, by decide +kernel⟩
theorem b__law_ratio {K : PySem.W.Frag} {f : Addr} {fd : FuncData} (F : FnP K "_law_ratio" (top 27) f fd) : Binds K fd ["_law_n", "_law_m"] [] := F.bindsN fun _ _ _ _ _ _ us hl => match us, hl with | [_, _], _ => rfl
def g__law_ratio : M Out := sSeq (sAsg (.nm 2) (mF f__law_gcd (aCons (mVar 0) (aCons (mVar 1) aNil)))) (sRet (mIf (mB (m2 (dCmp fun i j => decide (j < i)) (mVar 1) (mC (.int 0)))) (mTup (aCons (m2 dDiv (mVar 0) (mVar 2)) (aCons (m2 dDiv (mVar 1) (mVar 2)) aNil))) (mTup (aCons (m2 dSub (mC (.int 0)) (m2 dDiv (mVar 0) (mVar 2))) (aCons (m2 dSub (mC (.int 0)) (m2 dDiv (mVar 1) (mVar 2))) aNil)))))
def f__law_ratio : Fn := fnM 2 3 g__law_ratio
theorem ok__law_ratio (T : Pg K mg Ad Dd) (N : Nm K mg) : FnG Pr w K mg base CX0 2 (Ad 27) (Dd 27) ["_law_n", "_law_m"] (spF K f__law_ratio) :=
  P.fn (T.fn 27 "_law_ratio" rfl).1 sc__law_ratio rfl rfl fun cdv A outer s H E hg hr => by
    have hu := hr.units
    exact (P.seq (P.set (i := 2) sc__law_ratio.nd rfl (by first | exact .inl rfl | exact .inr rfl) (P.call (ok__law_gcd T N) hg (hr.mono (by decide)) (by rfl) (T.fn 26 "_law_gcd" rfl).2 (T.fn 26 "_law_gcd" rfl).1.kp (b__law_gcd (T.fn 26 "_law_gcd" rfl).1) (P.acons (P.v 0) (P.acons (P.v 1) P.anil)))) (P.last (P.ret (P.ifE (P.cmpT op_gt w2_cmp (P.v 1) P.int (nomark _)) (P.tup (P.acons (P.op op_fdivW w_div (P.v 0) (P.v 2)) (P.acons (P.op op_fdivW w_div (P.v 1) (P.v 2)) P.anil))) (P.tup (P.acons (P.op op_sub w_sub P.int (P.op op_fdivW w_div (P.v 0) (P.v 2))) (P.acons (P.op op_sub w_sub P.int (P.op op_fdivW w_div (P.v 1) (P.v 2))) P.anil)))))))
theorem sc__law_fewest : FnScope ["_law_up", "_law_here", "_law_there", "_law_wide", "_law_base", "_law_found", "_law_goal", "_law_near", "_law_far", "_law_high", "_law_each", "_law_is_first", "_law_spot", "_law_whole", "_law_is_up", "_law_often"] ["_law_up", "_law_here", "_law_there", "_law_wide"] (defScope (top 28)) := ⟨rfl, rfl, rfl, by decide +kernel, rfl, by decide +kernel, by decide +kernel⟩
theorem b__law_fewest {K : PySem.W.Frag} {f : Addr} {fd : FuncData} (F : FnP K "_law_fewest" (top 28) f fd) : Binds K fd ["_law_up", "_law_here", "_law_there", "_law_wide"] [] := F.bindsN fun _ _ _ _ _ _ us hl => match us, hl with | [_, _, _, _], _ => rfl
def lb__law_fewest_0 : M Out := sSeq (mIf (mAnd (mB (m2 (dCmp fun i j => decide (j < i)) (mVar 15) (mC (.int 1)))) (mB (m2 (dCmp fun i j => decide (j ≤ i)) (mIf (mB (mVar 14)) (m2 dSub (m2 dAdd (mVar 13) (mVar 8)) (mVar 12)) (mVar 13)) (mVar 6)))) (sSeq (sApp 5 (mVar 15)) (sBk)) (sNx)) (sSeq (sAsg (.nm 13) (mIf (mB (mVar 14)) (m2 dSub (m2 dAdd (mVar 13) (mVar 9)) (mVar 12)) (mVar 13))) (sPar 12 14 (aCons (mIf (mB (mVar 14)) (mVar 9) (mC (.int 0))) (aCons (m1 dNot (mVar 14)) aNil))))
def lb__law_fewest_1 : M Out := sSeq (sPar3 12 13 14 (aCons (mVar 7) (aCons (mC (.int 0)) (aCons (mVar 11) aNil)))) (sFor (mA rg2 (aCons (mC (.int 1)) (aCons (mC (.int 1000000)) aNil))) (.nm 15) lb__law_fewest_0)
def g__law_fewest : M Out := sSeq (sParFO 4 5 (m2 dMul (m2 dMul (m2 dMul (m2 dIx (mVar 0) (mC (.int 1))) (m2 dIx (mVar 1) (mC (.int 1)))) (m2 dIx (mVar 2) (mC (.int 1)))) (m2 dIx (mVar 3) (mC (.int 1)))) (mLst aNil)) (sSeq (sAsg (.tp [.nm 6, .nm 7, .nm 8, .nm 9]) (mL (mLc (mIt (mTup (aCons (mVar 0) (aCons (mVar 1) (aCons (mVar 2) (aCons (mVar 3) aNil)))))) [10] (.nm 10) (qC true) (m2 dMul (m2 dIx (mVar 10) (mC (.int 0))) (m2 dDiv (mVar 4) (m2 dIx (mVar 10) (mC (.int 1)))))))) (sSeq (sFor (mIt (mTup (aCons (mC (.bool true)) (aCons (mC (.bool false)) aNil)))) (.nm 11) lb__law_fewest_1) (sFrz 5 (sRet (mIf (mB (m2 (dNe) (mVar 5) (mL (mLst aNil)))) (mCall bMinL (aCons (mVar 5) aNil)) (mC (.int 0)))))))
def f__law_fewest : Fn := fnM 4 16 g__law_fewest
theorem ok__law_fewest (T : Pg K mg Ad Dd) (N : Nm K mg) : FnG Pr w K mg base CX0 1 (Ad 28) (Dd 28) ["_law_up", "_law_here", "_law_there", "_law_wide"] (spF K f__law_fewest) :=
  P.fn (T.fn 28 "_law_fewest" rfl).1 sc__law_fewest rfl rfl fun cdv A outer s H E hg hr => by
    have hu := hr.units
    exact (P.seq (P.asgFO (i := 4) (j := 5) rfl sc__law_fewest.nd rfl rfl (by first | exact .inl rfl | exact .inr rfl) (by first | exact .inl rfl | exact .inr rfl) (P.op op_mulW w_mul (P.op op_mulW w_mul (P.op op_mulW w_mul (P.ix ix_seq w_ix (P.v 0) P.int (fun _ _ => rfl)) (P.ix ix_seq w_ix (P.v 1) P.int (fun _ _ => rfl))) (P.ix ix_seq w_ix (P.v 2) P.int (fun _ _ => rfl))) (P.ix ix_seq w_ix (P.v 3) P.int (fun _ _ => rfl))) (P.list P.anil)) (P.seq (P.asg (P.ofL (P.lc rfl sc__law_fewest.nd (own := [("_law_each", 10)]) (P.iterE (P.iter (P.tup (P.acons (P.v 0) (P.acons (P.v 1) (P.acons (P.v 2) (P.acons (P.v 3) P.anil))))))) (blkOk_by (own := [("_law_each", 10)]) (N := ["_law_up", "_law_here", "_law_there", "_law_wide", "_law_base", "_law_found", "_law_goal", "_law_near", "_law_far", "_law_high", "_law_each", "_law_is_first", "_law_spot", "_law_whole", "_law_is_up", "_law_often"]) (sc := defScope (top 28)) (by decide +kernel)) (by decide) (fun _ _ _ _ _ => (P.gnm sc__law_fewest.nd (i := 10) rfl (by first | exact .inl rfl | exact .inr rfl))) (fun _ _ _ _ _ => P.nif) (fun _ _ _ _ _ => (P.op op_mulW w_mul (P.ix ix_seq w_ix (P.v 10) P.int (fun _ _ => rfl)) (P.op op_fdivW w_div (P.v 4) (P.ix ix_seq w_ix (P.v 10) P.int (fun _ _ => rfl))))))) (P.gtup (n := 4) rfl (P.gcons (P.gnm sc__law_fewest.nd (i := 6) rfl (by first | exact .inl rfl | exact .inr rfl)) (P.gcons (P.gnm sc__law_fewest.nd (i := 7) rfl (by first | exact .inl rfl | exact .inr rfl)) (P.gcons (P.gnm sc__law_fewest.nd (i := 8) rfl (by first | exact .inl rfl | exact .inr rfl)) (P.gcons (P.gnm sc__law_fewest.nd (i := 9) rfl (by first | exact .inl rfl | exact .inr rfl)) P.gnil)))))) (P.seq (P.for PassesOwn.never rfl (P.iter (P.tup (P.acons P.bl (P.acons P.bl P.anil)))) (P.gnm sc__law_fewest.nd (i := 11) rfl (by first | exact .inl rfl | exact .inr rfl)) (P.seq (P.par3 (i := 12) (j := 13) (l := 14) rfl sc__law_fewest.nd rfl rfl rfl (by decide) (by decide) (by decide) rfl rfl rfl (P.acons (P.v 7) (P.acons P.int (P.acons (P.v 11) P.anil))) (by rfl)) (P.last (P.for PassesOwn.never rfl (P.rng2 (by rfl) N.n_range (P.acons P.int (P.acons P.int P.anil))) (P.gnm sc__law_fewest.nd (i := 15) rfl (by first | exact .inl rfl | exact .inr rfl)) (P.seq (P.iff (PW.pt (P.and (P.cmpT op_gt w2_cmp (P.v 15) P.int (nomark _)) (P.and1 (P.cmpT op_ge w2_cmp (P.ifE (P.tval (P.v 14)) (P.op op_sub w_sub (P.op op_addA w_add (P.v 13) (P.v 8)) (P.v 12)) (P.v 13)) (P.v 6) (nomark _))))) (P.seq (P.appv 5 (P.v 15)) (P.last P.brk)) P.nil) (P.seq (P.set (i := 13) sc__law_fewest.nd rfl (by first | exact .inl rfl | exact .inr rfl) (P.ifE (P.tval (P.v 14)) (P.op op_sub w_sub (P.op op_addA w_add (P.v 13) (P.v 9)) (P.v 12)) (P.v 13))) (P.last (P.par (i := 12) (j := 14) rfl sc__law_fewest.nd rfl rfl (by decide) rfl rfl (P.acons (P.ifE (P.tval (P.v 14)) (P.v 9) P.int) (P.acons (P.notV (P.v 14)) P.anil)) (by rfl))))))))) (P.frzs 5 (P.last (P.ret (P.ifE (P.cmpT (op_neP hr.units) w_ne (P.v 5) (P.ofL (P.list P.anil)) (nomark _)) (P.callB (cr_min rfl) w_minL (by rfl) N.n_min (by decide +kernel) (P.acons (P.v 5) P.anil)) P.int)))))))
theorem sc__law_right : FnScope ["_law_sack_here", "_law_turn", "_law_slow", "_law_often", "_law_off", "_law_dear", "_law_first", "_law_k", "_law_up", "_law_here", "_law_shut", "_law_due"] ["_law_sack_here"] (defScope (top 29)) := ⟨rfl, rfl, rfl, by decide +kernel, rfl, by decide +kernel, by decide +kernel⟩
theorem b__law_right {K : PySem.W.Frag} {f : Addr} {fd : FuncData} (F : FnP K "_law_right" (top 29) f fd) : Binds K fd ["_law_sack_here"] [] := F.bindsN fun _ _ _ _ _ _ us hl => match us, hl with | [_], _ => rfl
def lb__law_right_0 : M Out := sSeq (sAsg (.nm 8) (mF f__law_ratio (aCons (m2 dMul (m2 dIx (mVar 2) (mC (.int 0))) (mVar 7)) (aCons (m2 dIx (mVar 2) (mC (.int 1))) aNil)))) (sSeq (sPar 9 10 (aCons (mF f__law_fewest (aCons (mVar 8) (aCons (mVar 4) (aCons (mVar 4) (aCons (mTup (aCons (mC (.int 1)) (aCons (mC (.int 1)) aNil))) aNil))))) (aCons (mF f__law_fewest (aCons (mVar 8) (aCons (mTup (aCons (mC (.int 0)) (aCons (mC (.int 1)) aNil))) (aCons (mTup (aCons (mC (.int 0)) (aCons (mC (.int 1)) aNil))) (aCons (mTup (aCons (mC (.int 1)) (aCons (mC (.int 1)) aNil))) aNil))))) aNil))) (sSeq (sAsg (.nm 5) (m2 dSub (m2 dAdd (mVar 5) (mVar 9)) (mVar 10))) (sSeq (mIf (mAnd (mB (m2 (dCmp fun i j => decide (i < j)) (mVar 7) (m2 dAdd (mVar 6) (mC (.int 3))))) (mB (m2 (dNe) (mCall bRepr (aCons (mF f_runs_by_form (aCons (mTup (aCons (mVar 2) (aCons (mVar 4) aNil))) (aCons (mVar 7) aNil))) aNil)) (mCall bRepr (aCons (mVar 9) aNil))))) (sRet (mC (.bool false))) (sNx)) (mIf (mAnd (mB (m2 (dEq) (mVar 7) (mVar 6))) (mB (m2 (dNe) (mCall bRepr (aCons (mFK f_runs_by_form [1, 0] (aCons (mVar 7) (aCons (mTup (aCons (mVar 2) (aCons (mTup (aCons (mC (.int 0)) (aCons (mC (.int 1)) aNil))) aNil))) aNil))) aNil)) (mCall bRepr (aCons (mVar 10) aNil))))) (sRet (mC (.bool false))) (sNx)))))
def lb__law_right_1 : M Out := sSeq (sAsg (.nm 2) (mF f__law_ratio (aCons (m2 dAdd (mC (.int 1)) (mF f__law_draw (aCons (mVar 0) (aCons (mC (.int 29)) aNil)))) (aCons (m2 dAdd (mC (.int 1)) (mF f__law_draw (aCons (mVar 0) (aCons (mC (.int 9)) aNil)))) aNil)))) (sSeq (sAsg (.nm 3) (m2 dAdd (mC (.int 1)) (mF f__law_draw (aCons (mVar 0) (aCons (mC (.int 8)) aNil))))) (sSeq (sPar3 4 5 6 (aCons (mF f__law_ratio (aCons (mF f__law_draw (aCons (mVar 0) (aCons (m2 dAdd (mVar 3) (mC (.int 1))) aNil))) (aCons (mVar 3) aNil))) (aCons (mC (.int 0)) (aCons (m2 dAdd (mC (.int 1)) (mF f__law_draw (aCons (mVar 0) (aCons (mC (.int 12)) aNil)))) aNil)))) (sSeq (sFor (mA rg2 (aCons (mVar 6) (aCons (m2 dAdd (mVar 6) (m2 dIx (mVar 2) (mC (.int 1)))) aNil))) (.nm 7) lb__law_right_0) (sSeq (sAsg (.nm 11) (mCall bRepr (aCons (mF f__law_ratio (aCons (mVar 5) (aCons (m2 dIx (mVar 2) (mC (.int 1))) aNil))) aNil))) (mIf (mOr (mB (m2 (dNe) (mCall bRepr (aCons (mF f_dear_share (aCons (mTup (aCons (mVar 2) (aCons (mVar 4) aNil))) aNil)) aNil)) (mVar 11))) (mB (m2 (dNe) (mCall bRepr (aCons (mFK f_dear_share [0] (aCons (mTup (aCons (mVar 2) (aCons (mVar 4) aNil))) aNil)) aNil)) (mVar 11)))) (sRet (mC (.bool false))) (sNx))))))
def g__law_right : M Out := sSeq (sFor (mA rg1 (aCons (mC (.int 3)) aNil)) (.nm 1) lb__law_right_1) (sRet (mC (.bool true)))
def f__law_right : Fn := fnM 1 12 g__law_right
theorem ok__law_right (T : Pg K mg Ad Dd) (N : Nm K mg) : FnG Pr w K mg base CX0 7 (Ad 29) (Dd 29) ["_law_sack_here"] (spF K f__law_right) :=
  P.fn (T.fn 29 "_law_right" rfl).1 sc__law_right rfl rfl fun cdv A outer s H E hg hr => by
    have hu := hr.units
    exact (P.seq (P.for PassesOwn.never rfl (P.rng1 (by rfl) N.n_range (P.acons P.int P.anil)) (P.gnm sc__law_right.nd (i := 1) rfl (by first | exact .inl rfl | exact .inr rfl)) (P.seq (P.set (i := 2) sc__law_right.nd rfl (by first | exact .inl rfl | exact .inr rfl) (P.call (ok__law_ratio T N) hg (hr.mono (by decide)) (by rfl) (T.fn 27 "_law_ratio" rfl).2 (T.fn 27 "_law_ratio" rfl).1.kp (b__law_ratio (T.fn 27 "_law_ratio" rfl).1) (P.acons (P.op op_addA w_add P.int (P.call (ok__law_draw T N) hg (hr.mono (by decide)) (by rfl) (T.fn 25 "_law_draw" rfl).2 (T.fn 25 "_law_draw" rfl).1.kp (b__law_draw (T.fn 25 "_law_draw" rfl).1) (P.acons (P.v 0) (P.acons P.int P.anil)))) (P.acons (P.op op_addA w_add P.int (P.call (ok__law_draw T N) hg (hr.mono (by decide)) (by rfl) (T.fn 25 "_law_draw" rfl).2 (T.fn 25 "_law_draw" rfl).1.kp (b__law_draw (T.fn 25 "_law_draw" rfl).1) (P.acons (P.v 0) (P.acons P.int P.anil)))) P.anil)))) (P.seq (P.set (i := 3) sc__law_right.nd rfl (by first | exact .inl rfl | exact .inr rfl) (P.op op_addA w_add P.int (P.call (ok__law_draw T N) hg (hr.mono (by decide)) (by rfl) (T.fn 25 "_law_draw" rfl).2 (T.fn 25 "_law_draw" rfl).1.kp (b__law_draw (T.fn 25 "_law_draw" rfl).1) (P.acons (P.v 0) (P.acons P.int P.anil))))) (P.seq (P.par3 (i := 4) (j := 5) (l := 6) rfl sc__law_right.nd rfl rfl rfl (by decide) (by decide) (by decide) rfl rfl rfl (P.acons (P.call (ok__law_ratio T N) hg (hr.mono (by decide)) (by rfl) (T.fn 27 "_law_ratio" rfl).2 (T.fn 27 "_law_ratio" rfl).1.kp (b__law_ratio (T.fn 27 "_law_ratio" rfl).1) (P.acons (P.call (ok__law_draw T N) hg (hr.mono (by decide)) (by rfl) (T.fn 25 "_law_draw" rfl).2 (T.fn 25 "_law_draw" rfl).1.kp (b__law_draw (T.fn 25 "_law_draw" rfl).1) (P.acons (P.v 0) (P.acons (P.op op_addA w_add (P.v 3) P.int) P.anil))) (P.acons (P.v 3) P.anil))) (P.acons P.int (P.acons (P.op op_addA w_add P.int (P.call (ok__law_draw T N) hg (hr.mono (by decide)) (by rfl) (T.fn 25 "_law_draw" rfl).2 (T.fn 25 "_law_draw" rfl).1.kp (b__law_draw (T.fn 25 "_law_draw" rfl).1) (P.acons (P.v 0) (P.acons P.int P.anil)))) P.anil))) (by rfl)) (P.seq (P.for PassesOwn.never rfl (P.rng2 (by rfl) N.n_range (P.acons (P.v 6) (P.acons (P.op op_addA w_add (P.v 6) (P.ix ix_seq w_ix (P.v 2) P.int (fun _ _ => rfl))) P.anil))) (P.gnm sc__law_right.nd (i := 7) rfl (by first | exact .inl rfl | exact .inr rfl)) (P.seq (P.set (i := 8) sc__law_right.nd rfl (by first | exact .inl rfl | exact .inr rfl) (P.call (ok__law_ratio T N) hg (hr.mono (by decide)) (by rfl) (T.fn 27 "_law_ratio" rfl).2 (T.fn 27 "_law_ratio" rfl).1.kp (b__law_ratio (T.fn 27 "_law_ratio" rfl).1) (P.acons (P.op op_mulW w_mul (P.ix ix_seq w_ix (P.v 2) P.int (fun _ _ => rfl)) (P.v 7)) (P.acons (P.ix ix_seq w_ix (P.v 2) P.int (fun _ _ => rfl)) P.anil)))) (P.seq (P.par (i := 9) (j := 10) rfl sc__law_right.nd rfl rfl (by decide) rfl rfl (P.acons (P.call (ok__law_fewest T N) hg (hr.mono (by decide)) (by rfl) (T.fn 28 "_law_fewest" rfl).2 (T.fn 28 "_law_fewest" rfl).1.kp (b__law_fewest (T.fn 28 "_law_fewest" rfl).1) (P.acons (P.v 8) (P.acons (P.v 4) (P.acons (P.v 4) (P.acons (P.tup (P.acons P.int (P.acons P.int P.anil))) P.anil))))) (P.acons (P.call (ok__law_fewest T N) hg (hr.mono (by decide)) (by rfl) (T.fn 28 "_law_fewest" rfl).2 (T.fn 28 "_law_fewest" rfl).1.kp (b__law_fewest (T.fn 28 "_law_fewest" rfl).1) (P.acons (P.v 8) (P.acons (P.tup (P.acons P.int (P.acons P.int P.anil))) (P.acons (P.tup (P.acons P.int (P.acons P.int P.anil))) (P.acons (P.tup (P.acons P.int (P.acons P.int P.anil))) P.anil))))) P.anil)) (by rfl)) (P.seq (P.set (i := 5) sc__law_right.nd rfl (by first | exact .inl rfl | exact .inr rfl) (P.op op_sub w_sub (P.op op_addA w_add (P.v 5) (P.v 9)) (P.v 10))) (P.seq (P.iff (PW.pt (P.and (P.cmpT op_lt w2_cmp (P.v 7) (P.op op_addA w_add (P.v 6) P.int) (nomark _)) (P.and1 (P.cmpT (op_neP hr.units) w_ne (P.callB (call_reprD hg hr.units) w_repr (by rfl) N.n_repr (by decide +kernel) (P.acons (P.call (ok_runs_by_form T N) hg (hr.mono (by decide)) (by rfl) (T.fn 21 "runs_by_form" rfl).2 (T.fn 21 "runs_by_form" rfl).1.kp (b_runs_by_form (T.fn 21 "runs_by_form" rfl).1) (P.acons (P.tup (P.acons (P.v 2) (P.acons (P.v 4) P.anil))) (P.acons (P.v 7) P.anil))) P.anil)) (P.callB (call_reprD hg hr.units) w_repr (by rfl) N.n_repr (by decide +kernel) (P.acons (P.v 9) P.anil)) (nomark _))))) (P.last (P.ret P.bl)) P.nil) (P.last (P.iff (PW.pt (P.and (P.cmpT (op_eqP hr.units) w_eq (P.v 7) (P.v 6) (nomark _)) (P.and1 (P.cmpT (op_neP hr.units) w_ne (P.callB (call_reprD hg hr.units) w_repr (by rfl) N.n_repr (by decide +kernel) (P.acons (P.callK (ks := ["many", "form"]) [1, 0] (ok_runs_by_form T N) hg (hr.mono (by decide)) (by rfl) (T.fn 21 "runs_by_form" rfl).2 (T.fn 21 "runs_by_form" rfl).1.kp (kw_runs_by_form_1_0 (T.fn 21 "runs_by_form" rfl).1) (P.kcons (P.v 7) (P.kcons (P.tup (P.acons (P.v 2) (P.acons (P.tup (P.acons P.int (P.acons P.int P.anil))) P.anil))) P.knil)) (fun _ _ _ _ h => acs2 h)) P.anil)) (P.callB (call_reprD hg hr.units) w_repr (by rfl) N.n_repr (by decide +kernel) (P.acons (P.v 10) P.anil)) (nomark _))))) (P.last (P.ret P.bl)) P.nil))))))) (P.seq (P.set (i := 11) sc__law_right.nd rfl (by first | exact .inl rfl | exact .inr rfl) (P.callB (call_reprD hg hr.units) w_repr (by rfl) N.n_repr (by decide +kernel) (P.acons (P.call (ok__law_ratio T N) hg (hr.mono (by decide)) (by rfl) (T.fn 27 "_law_ratio" rfl).2 (T.fn 27 "_law_ratio" rfl).1.kp (b__law_ratio (T.fn 27 "_law_ratio" rfl).1) (P.acons (P.v 5) (P.acons (P.ix ix_seq w_ix (P.v 2) P.int (fun _ _ => rfl)) P.anil))) P.anil))) (P.last (P.iff (PW.pt (P.or (P.cmpT (op_neP hr.units) w_ne (P.callB (call_reprD hg hr.units) w_repr (by rfl) N.n_repr (by decide +kernel) (P.acons (P.call (ok_dear_share T N) hg (hr.mono (by decide)) (by rfl) (T.fn 22 "dear_share" rfl).2 (T.fn 22 "dear_share" rfl).1.kp (b_dear_share (T.fn 22 "dear_share" rfl).1) (P.acons (P.tup (P.acons (P.v 2) (P.acons (P.v 4) P.anil))) P.anil)) P.anil)) (P.v 11) (nomark _)) (P.or1 (P.cmpT (op_neP hr.units) w_ne (P.callB (call_reprD hg hr.units) w_repr (by rfl) N.n_repr (by decide +kernel) (P.acons (P.callK (ks := ["form"]) [0] (ok_dear_share T N) hg (hr.mono (by decide)) (by rfl) (T.fn 22 "dear_share" rfl).2 (T.fn 22 "dear_share" rfl).1.kp (kw_dear_share_0 (T.fn 22 "dear_share" rfl).1) (P.kcons (P.tup (P.acons (P.v 2) (P.acons (P.v 4) P.anil))) P.knil) (fun _ _ _ _ h => acs1 h)) P.anil)) (P.v 11) (nomark _))))) (P.last (P.ret P.bl)) P.nil)))))))) (P.last (P.ret P.bl)))
theorem sc_law : FnScope ["_law_script", "_law_turn"] ["_law_script"] (defScope (top 30)) := ⟨rfl, rfl, rfl, by decide +kernel, rfl, by decide +kernel, by decide +kernel⟩
theorem b_law {K : PySem.W.Frag} {f : Addr} {fd : FuncData} (F : FnP K "law" (top 30) f fd) : Binds K fd ["_law_script"] [] := F.bindsN fun _ _ _ _ _ _ us hl => match us, hl with | [_], _ => rfl
def g_law : M Out := sRet (mCall bAll (aCons (mL (mLc (mA rg1 (aCons (mCall bMax (aCons (mC (.int 2)) (aCons (mCall bMin (aCons (mCall bLen (aCons (mVar 0) aNil)) (aCons (mC (.int 3)) aNil))) aNil))) aNil)) [1] (.nm 1) (qC true) (mSack f__law_right (mFL f__law_sack (aCons (mVar 0) (aCons (mVar 1) aNil)))))) aNil))
def f_law : Fn := fnM 1 2 g_law
theorem ok_law (T : Pg K mg Ad Dd) (N : Nm K mg) : FnG Pr w K mg base CX0 8 (Ad 30) (Dd 30) ["_law_script"] (spF K f_law) :=
  P.fn (T.fn 30 "law" rfl).1 sc_law rfl rfl fun cdv A outer s H E hg hr => by
    have hu := hr.units
    exact (P.last (P.ret (P.callB (cr_all rfl) w_all (by rfl) N.n_all (by decide +kernel) (P.acons (P.ofL (P.lc rfl sc_law.nd (own := [("_law_turn", 1)]) (P.iterE (P.rng1 (by rfl) N.n_range (P.acons (P.callB (call_max2 rfl) w_max (by rfl) N.n_max (by decide +kernel) (P.acons P.int (P.acons (P.callB (call_min2 rfl) w_min (by rfl) N.n_min (by decide +kernel) (P.acons (P.callB call_lenA w_len (by rfl) N.n_len (by decide +kernel) (P.acons (P.v 0) P.anil)) (P.acons P.int P.anil))) P.anil))) P.anil))) (blkOk_by (own := [("_law_turn", 1)]) (N := ["_law_script", "_law_turn"]) (sc := defScope (top 30)) (by decide +kernel)) (by decide) (fun _ _ _ _ _ => (P.gnm sc_law.nd (i := 1) rfl (by first | exact .inl rfl | exact .inr rfl))) (fun _ _ _ _ _ => P.nif) (fun _ _ _ _ _ => (P.callS (ok__law_right T N) hg (hr.mono (by decide)) (by rfl) (T.fn 29 "_law_right" rfl).2 (T.fn 29 "_law_right" rfl).1.kp (b__law_right (T.fn 29 "_law_right" rfl).1) (P.callL (ok__law_sack T N) hg (hr.mono (by decide)) (by rfl) (T.fn 24 "_law_sack" rfl).2 (T.fn 24 "_law_sack" rfl).1.kp (b__law_sack (T.fn 24 "_law_sack" rfl).1) (P.acons (P.v 0) (P.acons (P.v 1) P.anil))))))) P.anil))))
end
end K55
namespace K55
open PySem PySem.Spec PyProof.Rows L2 PL
abbrev R : PySem.W.OpenRow := PySem.W.OpenLaw.row PySem.Challenge.rw_windfigure_k55_whole_dear_shares_counted
def lo0 : List PySem.Str := ["WindError", "InvalidNumber", "InvalidForm", "is_whole", "are_whole", "ratio", "ratio_sum", "ratio_gap", "rounded_up", "is_less", "lesser", "is_fraction", "need_form", "is_form", "runs_by_form", "dear_share"]
def lo1 : List PySem.Str := ["_law_sack", "_law_draw", "_law_gcd", "_law_ratio", "_law_fewest", "_law_right", "ONE", "ZERO"]
def loose : List PySem.Str := lo0 ++ (lo1)
def dDef (i : Nat) (x : Str) : He.DefD := ⟨(x, none), x, x, defArgs (top i), defBody (top i), defScope (top i), [], []⟩
def fn0 : List He.DefD := [dDef 8 "is_whole", dDef 9 "are_whole", dDef 10 "ratio", dDef 11 "ratio_sum", dDef 12 "ratio_gap", dDef 13 "rounded_up", dDef 14 "is_less", dDef 15 "lesser", dDef 17 "is_fraction", dDef 19 "need_form", dDef 20 "is_form", dDef 21 "runs_by_form"]
def fn1 : List He.DefD := [dDef 22 "dear_share", dDef 24 "_law_sack", dDef 25 "_law_draw", dDef 26 "_law_gcd", dDef 27 "_law_ratio", dDef 28 "_law_fewest", dDef 29 "_law_right", dDef 30 "law"]
def fn : List He.DefD := fn0 ++ (fn1)
def fa0 : List He.Fa := [.glo "is_whole", .glo "are_whole", .glo "ratio", .glo "ratio_sum", .glo "ratio_gap", .glo "rounded_up", .glo "is_less", .glo "lesser", .glo "is_fraction", .glo "need_form", .glo "is_form", .glo "runs_by_form"]
def fa1 : List He.Fa := [.glo "dear_share", .glo "_law_sack", .glo "_law_draw", .glo "_law_gcd", .glo "_law_ratio", .glo "_law_fewest", .glo "_law_right", .glo "law", .free "abs", .free "all", .free "bool", .free "divmod"]
def fa2 : List He.Fa := [.free "int", .free "isinstance", .free "len", .free "list", .free "max", .free "min", .free "range", .free "repr", .free "tuple"]
def fa : List He.Fa := fa0 ++ (fa1 ++ (fa2))
def exs (K : PySem.W.Frag) : List Bool := [He.eqO (PySem.W.nsIn K mainGlobals "gcd") (some (some (.builtin "math.gcd"))), cstB K "ONE" (.tuple [(.int 1), (.int 1)]), cstB K "ZERO" (.tuple [(.int 0), (.int 1)])]
def ex (K : PySem.W.Frag) : Bool := (exs K).all id
def ob (s : PySem.W.SharedT) : K1.AlQ := K1.obsQ fa fn ex (HandSHeadRun.getT s)
theorem ob_eq (s : PySem.W.SharedT) : ob s = (K1.hookQ fa fn ex).obs s.abs := K1.obsQ_eq (HandSHeadRun.getT_eq s)
theorem run (w : World) : HandSHeadRun.RunEqI R (PySem.W.view R.prog [0, 30]) (K1.hookQ fa fn ex) ob 8000 loose w := by
  unfold HandSHeadRun.RunEqI
  kernel_rfl
end K55
namespace K55
open PySem PySem.Spec PyProof.Rows L2 PL
def Bd (n : Nat) (x : Int) : Prop := x.natAbs < 2 ^ n
theorem Bd.log {n : Nat} {x : Int} (h : Bd n x) (h0 : 0 < n) : x.natAbs.log2 < n := PySem.Flt.log2_lt_of h0 h
theorem Bd.mul {a b : Nat} {x y : Int} (hx : Bd a x) (hy : Bd b y) : Bd (a + b) (x * y) := wide_lt hx hy
theorem Bd.mono {a b : Nat} {x : Int} (hx : Bd a x) (h : a ≤ b) : Bd b x := Nat.lt_of_lt_of_le hx (Nat.pow_le_pow_right (by decide) h)
theorem Bd.add {a : Nat} {x y : Int} (hx : Bd a x) (hy : Bd a y) : Bd (a + 1) (x + y) := by
  unfold Bd at *
  rw [Nat.pow_succ]
  omega
theorem Bd.sub {a : Nat} {x y : Int} (hx : Bd a x) (hy : Bd a y) : Bd (a + 1) (x - y) := by
  unfold Bd at *
  rw [Nat.pow_succ]
  omega
theorem Bd.neg {a : Nat} {x : Int} (hx : Bd a x) : Bd a (-x) := by
  unfold Bd at *
  omega
theorem bd30 {x : Int} (h : x.natAbs < 1073741824) : Bd 30 x := h
theorem mul_ok {i j : Int} (hi : Bd 400 i) (hj : Bd 400 j) : dMul (.int i) (.int j) = some (.int (i * j)) := by
  simp only [dMul]
  have h1 := hi.log (by decide)
  have h2 := hj.log (by decide)
  rw [if_pos (by omega)]
theorem div_ok {i j : Int} (h0 : 0 < j) (hj : Bd 900 j) : dDiv (.int i) (.int j) = some (.int (i / j)) := by
  simp only [dDiv]
  have h2 := hj.log (by decide)
  rw [if_pos ⟨h0, by omega⟩]
theorem mod_ok {i j : Int} (h0 : 0 < j) : dMod (.int i) (.int j) = some (.int (i % j)) := by
  simp only [dMod]
  rw [if_pos h0]
theorem eq_int {i j : Int} : dEq (.int i) (.int j) = some (.bool (i == j)) := by
  unfold dEq
  rw [if_pos ⟨rfl, rfl⟩]
  rfl
theorem ne_int {i j : Int} : dNe (.int i) (.int j) = some (.bool (!(i == j))) := by
  unfold dNe
  rw [if_pos ⟨rfl, rfl⟩]
  rfl
theorem gcdI_pos {a b : Int} (h : 0 < b) : 0 < gcdI a b := by
  unfold gcdI
  have : 0 < a.natAbs.gcd b.natAbs := Nat.gcd_pos_of_pos_right _ (by omega)
  omega
theorem gcdI_le {a b : Int} (h : 0 < b) : gcdI a b ≤ b := by
  unfold gcdI
  have : a.natAbs.gcd b.natAbs ≤ b.natAbs := Nat.le_of_dvd (by omega) (Nat.gcd_dvd_right _ _)
  omega
theorem Bd.gcd {n : Nat} {a b : Int} (h : 0 < b) (hb : Bd n b) : Bd n (gcdI a b) := by
  have h1 := gcdI_pos (a := a) h
  have h2 := gcdI_le (a := a) h
  unfold Bd at *
  omega
theorem e_ratio {a b : Int} {s : S} (hb : 0 < b) (hl : Bd 400 b) : f_ratio [.int a, .int b] s = some (.tuple [.int (a / gcdI a b), .int (b / gcdI a b)], s) := by
  have h1 : ¬ b < 0 := by omega
  have h2 := gcdI_pos (a := a) hb
  have h3 : dDiv (.int a) (.int (gcdI a b)) = _ := div_ok h2 ((Bd.gcd hb hl).mono (by decide))
  have h4 : dDiv (.int b) (.int (gcdI a b)) = _ := div_ok h2 ((Bd.gcd hb hl).mono (by decide))
  simp [f_ratio, fnM, g_ratio, startE, sSeq, sAsg, mCall, aCons, aNil, mThen, mLift, mVar, bGcd, bnd, mIf, mB, m2, mC, dCmp, bOf, sNx, sRet, mTup, isDs, isD, h3, h4, h1, sizeLine_eq]
theorem e_up {a b : Int} {s : S} (hb : 0 < b) (hl : Bd 400 b) : f_rounded_up [.tuple [.int a, .int b]] s = some (.int (-(-a / b)), s) := by
  have h3 : dDiv (.int (-a)) (.int b) = _ := div_ok hb (hl.mono (by decide))
  simp [f_rounded_up, fnM, g_rounded_up, startE, m1, mThen, mLift, mVar, m2, mC, sRet, dIx, atI, ixN, dNeg, h3]
theorem e_sum {a b c d : Int} {s : S} (ha : Bd 400 a) (hb : Bd 400 b) (hc : Bd 400 c) (hd : Bd 400 d) : f_ratio_sum [.tuple [.int a, .int b], .tuple [.int c, .int d]] s = f_ratio [.int (a * d + c * b), .int (b * d)] s := by
  have h1 : dMul (.int a) (.int d) = _ := mul_ok ha hd
  have h2 : dMul (.int c) (.int b) = _ := mul_ok hc hb
  have h3 : dMul (.int b) (.int d) = _ := mul_ok hb hd
  cases q : f_ratio [.int (a * d + c * b), .int (b * d)] s with
  | none => simp [f_ratio_sum, fnM, g_ratio_sum, startE, mThen, mLift, mVar, m2, mC, sRet, dIx, atI, ixN, mF, aCons, aNil, dAdd, h1, h2, h3, q]
  | some r => simp [f_ratio_sum, fnM, g_ratio_sum, startE, mThen, mLift, mVar, m2, mC, sRet, dIx, atI, ixN, mF, aCons, aNil, dAdd, h1, h2, h3, q]
theorem e_gap {a b c d : Int} {s : S} (ha : Bd 400 a) (hb : Bd 400 b) (hc : Bd 400 c) (hd : Bd 400 d) : f_ratio_gap [.tuple [.int a, .int b], .tuple [.int c, .int d]] s = f_ratio [.int (a * d - c * b), .int (b * d)] s := by
  have h1 : dMul (.int a) (.int d) = _ := mul_ok ha hd
  have h2 : dMul (.int c) (.int b) = _ := mul_ok hc hb
  have h3 : dMul (.int b) (.int d) = _ := mul_ok hb hd
  cases q : f_ratio [.int (a * d - c * b), .int (b * d)] s with
  | none => simp [f_ratio_gap, fnM, g_ratio_gap, startE, mThen, mLift, mVar, m2, mC, sRet, dIx, atI, ixN, mF, aCons, aNil, dSub, h1, h2, h3, q]
  | some r => simp [f_ratio_gap, fnM, g_ratio_gap, startE, mThen, mLift, mVar, m2, mC, sRet, dIx, atI, ixN, mF, aCons, aNil, dSub, h1, h2, h3, q]
theorem e_less {a b c d : Int} {s : S} (ha : Bd 400 a) (hb : Bd 400 b) (hc : Bd 400 c) (hd : Bd 400 d) : f_is_less [.tuple [.int a, .int b], .tuple [.int c, .int d]] s = some (.bool (decide (a * d < c * b)), s) := by
  have h1 : dMul (.int a) (.int d) = _ := mul_ok ha hd
  have h2 : dMul (.int c) (.int b) = _ := mul_ok hc hb
  simp [f_is_less, fnM, g_is_less, startE, mThen, mLift, mVar, m2, mC, sRet, dIx, atI, ixN, dCmp, h1, h2]
theorem e_whole {a : Int} {s : S} : f_is_whole [.int a] s = some (.bool true, s) := by
  simp [f_is_whole, fnM, g_is_whole, startE, mThen, mLift, mVar, m1, mAndV, mIf, mB, bOf, sRet, dIs, isD, isT, dNot]
theorem e_wholes2 {a b : Int} {s : S} : f_are_whole [.tuple [.int a, .int b], .int 2] s = some (.bool true, s) := by
  simp [f_are_whole, fnM, g_are_whole, startE, mThen, mLift, mVar, m1, m2, mC, mAndV, mIf, mB, bOf, sRet, dIs, isD, isT, dNot, mCall, bLen, aCons, aNil, eq_int, mL, mLc, mIt, itOf, sizeLine_eq, lcGo, bnd, wipeE, qC, mF, e_whole, bAll, boolsOf]
theorem e_fraction {a b : Int} {s : S} (hb : 0 < b) (hg : gcdI a b = 1) : f_is_fraction [.tuple [.int a, .int b]] s = some (.bool true, s) := by
  simp [f_is_fraction, fnM, g_is_fraction, startE, mThen, mLift, mVar, m1, m2, mC, mAndV, mIf, mB, bOf, sRet, dIx, atI, ixN, dCmp, mF, aCons, aNil, e_wholes2, hb, hg, mCall, bGcd, eq_int]
/-- a form that is one -/
structure Fm (n m p q : Int) : Prop where
  n0 : 0 < n
  m0 : 0 < m
  p0 : 0 ≤ p
  q0 : 0 < q
  pq : p ≤ q
  g1 : gcdI n m = 1
  g2 : gcdI p q = 1
  bn : Bd 30 n
  bm : Bd 30 m
  bp : Bd 30 p
  bq : Bd 30 q
abbrev frD (a b : Int) : D := .tuple [.int a, .int b]
theorem bd0 : Bd 400 0 := Nat.two_pow_pos 400
theorem bd1 : Bd 400 1 := show (1 : Nat) < 2 ^ 400 from Nat.one_lt_two_pow (by omega)
theorem e_is_form {n m p q : Int} {s : S} (F : Fm n m p q) : f_is_form [.tuple [frD n m, frD p q]] s = some (.bool true, s) := by
  have h1 := e_less (s := s) bd0 bd1 (F.bn.mono (by decide)) (F.bm.mono (by decide))
  have h2 := e_less (s := s) (F.bp.mono (by decide)) (F.bq.mono (by decide)) bd0 bd1
  have h3 := e_less (s := s) bd1 bd1 (F.bp.mono (by decide)) (F.bq.mono (by decide))
  have f1 := e_fraction (s := s) F.m0 F.g1
  have f2 := e_fraction (s := s) F.q0 F.g2
  have c1 : (0 * m < n * 1) := by have := F.n0; omega
  have c2 : ¬ (p * 1 < 0 * q) := by have := F.p0; omega
  have c3 : ¬ (1 * q < p * 1) := by have := F.pq; omega
  simp only [c1, c2, c3, decide_true, decide_false] at h1 h2 h3
  simp [f_is_form, fnM, g_is_form, startE, sSeq, mThen, mLift, mVar, m1, m2, mC, mAndV, mIf, mB, bOf, mNot, mOr, qC, sRet, sNx, dIs, isD, isT, dNot, dIx, atI, ixN, mF, aCons, aNil, mCall, bLen, ne_int, h1, h2, h3, f1, f2]
theorem e_need {n m p q : Int} {s : S} (F : Fm n m p q) : f_need_form [.tuple [frD n m, frD p q]] s = some (.none, s) := by
  simp [f_need_form, fnM, g_need_form, startE, mThen, mLift, mVar, mIf, mB, bOf, mNot, sNx, mF, aCons, aNil, e_is_form F]
/-! the defs asked -/
def up (a b : Int) : Int := -(-a / b)
def nmN (a b : Int) : Int := a / gcdI a b
def nmD (a b : Int) : Int := b / gcdI a b
theorem gcdI_dvd1 {a b : Int} : gcdI a b ∣ a := by
  unfold gcdI
  exact Int.ofNat_dvd_left.mpr (Nat.gcd_dvd_left _ _)
theorem gcdI_dvd2 {a b : Int} : gcdI a b ∣ b := by
  unfold gcdI
  exact Int.ofNat_dvd_left.mpr (Nat.gcd_dvd_right _ _)
theorem nmD_pos {a b : Int} (h : 0 < b) : 0 < nmD a b := by
  have h1 := gcdI_pos (a := a) h
  exact Int.ediv_pos_of_pos_of_dvd h (by omega) gcdI_dvd2
theorem Bd.div {n : Nat} {a g : Int} (ha : Bd n a) (hg : 0 < g) (hd : g ∣ a) : Bd n (a / g) := by
  obtain ⟨c, rfl⟩ := hd
  rw [Int.mul_ediv_cancel_left _ (by omega)]
  unfold Bd at *
  rw [Int.natAbs_mul] at ha
  have : c.natAbs ≤ g.natAbs * c.natAbs := Nat.le_mul_of_pos_left _ (by omega)
  omega
/-- a quotient rounded up does not see common parts -/
theorem up_scale {a b g : Int} (hg : 0 < g) (h1 : g ∣ a) (h2 : g ∣ b) : up (a / g) (b / g) = up a b := by
  obtain ⟨x, rfl⟩ := h1
  obtain ⟨y, rfl⟩ := h2
  rw [Int.mul_ediv_cancel_left _ (by omega), Int.mul_ediv_cancel_left _ (by omega)]
  unfold up
  rw [← Int.mul_neg, Int.mul_ediv_mul_of_pos _ _ hg]
theorem up_nm {a b : Int} (hb : 0 < b) : up (nmN a b) (nmD a b) = up a b := up_scale (gcdI_pos hb) gcdI_dvd1 gcdI_dvd2
theorem nm_eq {a b : Int} (hb : 0 < b) : nmN a b * b = a * nmD a b := by
  unfold nmN nmD
  have hg := gcdI_pos (a := a) hb
  obtain ⟨x, hx⟩ := gcdI_dvd1 (a := a) (b := b)
  obtain ⟨y, hy⟩ := gcdI_dvd2 (a := a) (b := b)
  generalize gcdI a b = g at *
  subst hx; subst hy
  rw [Int.mul_ediv_cancel_left _ (by omega), Int.mul_ediv_cancel_left _ (by omega)]
  grind
def runsI (n m p q k : Int) : Int :=
  let r := k * n
  let a := 2 * up r m + 1
  let b := 2 * up (r * q + p * m) (m * q)
  let c := 2 * up (r * q - p * m) (m * q) + 2
  if b < a then (if c < b then c else b) else (if c < a then c else a)
theorem up_cross {a b c d : Int} (hb : 0 < b) (hd : 0 < d) (h : a * d = c * b) : up a b = up c d := by
  have e1 : up (a * d) (b * d) = up a b := by
    unfold up
    rw [← Int.neg_mul, Int.mul_ediv_mul_of_pos_left _ _ hd]
  have e2 : up (c * b) (d * b) = up c d := by
    unfold up
    rw [← Int.neg_mul, Int.mul_ediv_mul_of_pos_left _ _ hb]
  rw [← e1, ← e2, h, Int.mul_comm b d]
theorem Bd.up {n : Nat} {a b : Int} (h : Bd n a) : Bd n (up a b) := by
  unfold K55.up Bd at *
  have := Int.natAbs_ediv_le_natAbs (-a) b
  omega
theorem e_runs {n m p q k : Int} {s : S} (F : Fm n m p q) (hk : 1 ≤ k) (bk : Bd 30 k) : f_runs_by_form [.tuple [frD n m, frD p q], .int k] s = some (.int (runsI n m p q k), s) := by
  have m0 := F.m0
  have q0 := F.q0
  have b1 : Bd 60 (k * n) := bk.mul F.bn
  have h1 : dMul (.int k) (.int n) = _ := mul_ok (bk.mono (by decide)) (F.bn.mono (by decide))
  have h2 := e_ratio (a := k * n) (s := s) m0 (F.bm.mono (by decide))
  have d0 := nmD_pos (a := k * n) m0
  have bN : Bd 60 (nmN (k * n) m) := b1.div (gcdI_pos m0) gcdI_dvd1
  have bD : Bd 60 (nmD (k * n) m) := (F.bm.mono (by decide)).div (gcdI_pos m0) gcdI_dvd2
  have eq1 := nm_eq (a := k * n) m0
  have h3 := e_up (a := nmN (k * n) m) (s := s) d0 (bD.mono (by decide))
  have h4 := e_sum (s := s) (bN.mono (by decide : 60 ≤ 400)) (bD.mono (by decide)) (F.bp.mono (by decide)) (F.bq.mono (by decide))
  have h5 := e_gap (s := s) (bN.mono (by decide : 60 ≤ 400)) (bD.mono (by decide)) (F.bp.mono (by decide)) (F.bq.mono (by decide))
  have dq : 0 < nmD (k * n) m * q := Int.mul_pos d0 q0
  have bdq : Bd 400 (nmD (k * n) m * q) := (bD.mul F.bq).mono (by decide)
  rw [e_ratio dq bdq] at h4 h5
  have hs := nmD_pos (a := nmN (k * n) m * q + p * nmD (k * n) m) dq
  have hg := nmD_pos (a := nmN (k * n) m * q - p * nmD (k * n) m) dq
  have h6 := e_up (a := nmN (nmN (k * n) m * q + p * nmD (k * n) m) (nmD (k * n) m * q)) (s := s) hs (bdq.div (gcdI_pos dq) gcdI_dvd2)
  have h7 := e_up (a := nmN (nmN (k * n) m * q - p * nmD (k * n) m) (nmD (k * n) m * q)) (s := s) hg (bdq.div (gcdI_pos dq) gcdI_dvd2)
  have u1 : -(-nmN (k * n) m / nmD (k * n) m) = up (k * n) m := up_nm m0
  have u2 : -(-nmN (nmN (k * n) m * q + p * nmD (k * n) m) (nmD (k * n) m * q) / nmD (nmN (k * n) m * q + p * nmD (k * n) m) (nmD (k * n) m * q)) = up (k * n * q + p * m) (m * q) :=
    (up_nm dq).trans (up_cross dq (Int.mul_pos m0 q0) (by grind))
  have u3 : -(-nmN (nmN (k * n) m * q - p * nmD (k * n) m) (nmD (k * n) m * q) / nmD (nmN (k * n) m * q - p * nmD (k * n) m) (nmD (k * n) m * q)) = up (k * n * q - p * m) (m * q) :=
    (up_nm dq).trans (up_cross dq (Int.mul_pos m0 q0) (by grind))
  rw [u1] at h3
  rw [u2] at h6
  rw [u3] at h7
  have hn : ¬ k < 1 := by omega
  have b2 : Bd 400 2 := (show Bd 2 2 by unfold Bd; decide).mono (by decide)
  have z1 : dMul (.int 2) (.int (up (k * n) m)) = _ := mul_ok b2 ((Bd.up b1).mono (by decide))
  have z2 : dMul (.int 2) (.int (up (k * n * q + p * m) (m * q))) = _ := mul_ok b2 ((Bd.up (((b1.mul F.bq).mono (by decide : 60 + 30 ≤ 90)).add ((F.bp.mul F.bm).mono (by decide)))).mono (by decide))
  have z3 : dMul (.int 2) (.int (up (k * n * q - p * m) (m * q))) = _ := mul_ok b2 ((Bd.up (((b1.mul F.bq).mono (by decide : 60 + 30 ≤ 90)).sub ((F.bp.mul F.bm).mono (by decide)))).mono (by decide))
  unfold nmN nmD at *
  simp [f_runs_by_form, fnM, g_runs_by_form, startE, sSeq, sEx, sAsg, bnd, bnds, mThen, mLift, mVar, mIf, mB, bOf, mNot, mOr, qC, sNx, mF, aCons, aNil, e_need F, e_whole, m2, mC, dCmp, hn, dIx, atI, ixN, h1, h2, sRet, mCall, bMin3, h3, h4, h5, h6, h7, z1, z2, z3, dAdd]
  rfl
theorem e_lesser {a b c d : Int} {s : S} (ha : Bd 400 a) (hb : Bd 400 b) (hc : Bd 400 c) (hd : Bd 400 d) : f_lesser [frD a b, frD c d] s = some (if c * b < a * d then frD c d else frD a b, s) := by
  have h1 := e_less (s := s) hc hd ha hb
  by_cases h : c * b < a * d
  · simp [f_lesser, fnM, g_lesser, startE, sSeq, mThen, mLift, mVar, mIf, mB, bOf, sNx, mF, aCons, aNil, h1, sRet, h]
  · simp [f_lesser, fnM, g_lesser, startE, sSeq, mThen, mLift, mVar, mIf, mB, bOf, sNx, mF, aCons, aNil, h1, sRet, h]
/-- the share that is dear, by the least of both distances -/
def dearN (m p q : Int) : Int := if (q - p) * q < p * q then up (m * (q - p)) q else up (m * p) q
theorem e_dear {n m p q : Int} {s : S} (F : Fm n m p q) : f_dear_share [.tuple [frD n m, frD p q]] s = some (frD (nmN (dearN m p q) m) (nmD (dearN m p q) m), s) := by
  have m0 := F.m0
  have q0 := F.q0
  have bq4 : Bd 400 q := F.bq.mono (by decide)
  have h1 := e_gap (s := s) bd1 bd1 (F.bp.mono (by decide : 30 ≤ 400)) bq4
  have eqq : (1 : Int) * q - p * 1 = q - p := by omega
  have eq2 : (1 : Int) * q = q := by omega
  rw [eqq, eq2, e_ratio q0 bq4] at h1
  have g1 : gcdI (q - p) q = 1 := by
    have := F.g2
    unfold gcdI at *
    have e : (q - p).natAbs.gcd q.natAbs = p.natAbs.gcd q.natAbs := by
      have a : (q - p).natAbs.gcd q.natAbs ∣ p.natAbs := by
        have d1 : (((q - p).natAbs.gcd q.natAbs : Nat) : Int) ∣ (q - p) := Int.ofNat_dvd_left.mpr (Nat.gcd_dvd_left _ _)
        have d2 : (((q - p).natAbs.gcd q.natAbs : Nat) : Int) ∣ q := Int.ofNat_dvd_left.mpr (Nat.gcd_dvd_right _ _)
        have d3 := Int.dvd_sub d2 d1
        rw [show q - (q - p) = p by omega] at d3
        exact Int.ofNat_dvd_left.mp d3
      have b : p.natAbs.gcd q.natAbs ∣ (q - p).natAbs := by
        have d1 : ((p.natAbs.gcd q.natAbs : Nat) : Int) ∣ p := Int.ofNat_dvd_left.mpr (Nat.gcd_dvd_left _ _)
        have d2 : ((p.natAbs.gcd q.natAbs : Nat) : Int) ∣ q := Int.ofNat_dvd_left.mpr (Nat.gcd_dvd_right _ _)
        exact Int.ofNat_dvd_left.mp (Int.dvd_sub d2 d1)
      exact Nat.dvd_antisymm (Nat.dvd_gcd a (Nat.gcd_dvd_right _ _)) (Nat.dvd_gcd b (Nat.gcd_dvd_right _ _))
    rw [e]
    exact this
  rw [g1, Int.ediv_one, Int.ediv_one] at h1
  have bqp : Bd 31 (q - p) := F.bq.sub F.bp
  have h2 := e_lesser (s := s) (F.bp.mono (by decide : 30 ≤ 400)) bq4 (bqp.mono (by decide)) bq4
  have fin : ∀ x : Int, Bd 31 x → (nr : D) → nr = frD x q → f_lesser [frD p q, frD (q - p) q] s = some (nr, s) → dearN m p q = up (m * x) q → f_dear_share [.tuple [frD n m, frD p q]] s = some (frD (nmN (dearN m p q) m) (nmD (dearN m p q) m), s) := by
    intro x bx nr hnr hl hd
    subst hnr
    have k1 : dMul (.int m) (.int x) = _ := mul_ok (F.bm.mono (by decide)) (bx.mono (by decide))
    have k2 := e_ratio (a := m * x) (s := s) q0 bq4
    have d0 := nmD_pos (a := m * x) q0
    have k3 := e_up (a := nmN (m * x) q) (s := s) d0 (bq4.div (gcdI_pos q0) gcdI_dvd2)
    have u1 : -(-nmN (m * x) q / nmD (m * x) q) = up (m * x) q := up_nm q0
    rw [u1] at k3
    have k4 := e_ratio (a := up (m * x) q) (s := s) m0 (F.bm.mono (by decide))
    rw [hd]
    unfold nmN nmD at *
    simp [f_dear_share, fnM, g_dear_share, startE, sSeq, sEx, sAsg, bnd, bnds, mThen, mLift, mVar, mF, aCons, aNil, e_need F, m2, mC, dIx, atI, ixN, h1, hl, k1, k2, k3, k4, sRet]
  by_cases h : (q - p) * q < p * q
  · rw [if_pos h] at h2
    exact fin (q - p) bqp _ rfl h2 (by unfold dearN; rw [if_pos h])
  · rw [if_neg h] at h2
    exact fin p (F.bp.mono (by decide)) _ rfl h2 (by unfold dearN; rw [if_neg h])
end K55
namespace K55
open PySem PySem.Spec PyProof.Rows L2 PL
/-- the sack, after at most n draws -/
def Sk (n : Nat) (s : S) : Prop := ∃ a b c : Int, s = [.int a, .int b, .int c] ∧ 0 ≤ a ∧ 0 ≤ b ∧ b < 2147483543 ∧ 0 ≤ c ∧ c ≤ n
theorem bd31 {x : Int} (h0 : 0 ≤ x) (h : x < 2147483648) : Bd 31 x := by
  unfold Bd
  omega
theorem e_draw {n : Nat} {s : S} {z : Int} (h : Sk n s) (hn : n ≤ 1000000) (z0 : 0 < z) (z1 : z < 1073741824) : ∃ i s', f__law_draw [SACK, .int z] s = some (.int i, s') ∧ 0 ≤ i ∧ i < z ∧ Sk (n + 1) s' := by
  obtain ⟨a, b, c, rfl, ha, hb, hb2, hc, hc2⟩ := h
  by_cases h0 : 0 < a
  · refine ⟨a % z, [.int (a / z), .int b, .int c], ?_, Int.emod_nonneg _ (by omega), Int.emod_lt_of_pos _ z0, a / z, b, c, rfl, Int.ediv_nonneg ha (by omega), hb, hb2, hc, by omega⟩
    simp [f__law_draw, fnM, g__law_draw, startE, sSeq, mIf, mB, m2, mThen, mLift, mSk, SACK, mC, dCmp, bOf, h0, sAsg, mCall, aCons, aNil, mVar, bDivmod, z0, z1, bnd, bnds, isD, sRet]
  · have b16 : Bd 31 16807 := by unfold Bd; decide
    have b48 : Bd 31 48611 := by unfold Bd; decide
    have m1' : dMul (.int b) (.int 16807) = _ := mul_ok ((bd31 hb (by omega)).mono (by decide)) (b16.mono (by decide))
    have m2' : dMul (.int (c + 1)) (.int 48611) = _ := mul_ok ((bd31 (by omega : 0 ≤ c + 1) (by omega)).mono (by decide)) (b48.mono (by decide))
    have md1 : dMod (.int (b * 16807 + (c + 1) * 48611)) (.int 2147483543) = _ := mod_ok (by decide)
    generalize hx : (b * 16807 + (c + 1) * 48611) % 2147483543 = x at md1
    have hx0 : 0 ≤ x := by rw [← hx]; exact Int.emod_nonneg _ (by decide)
    have hx1 : x < 2147483543 := by rw [← hx]; exact Int.emod_lt_of_pos _ (by decide)
    have dv : dDiv (.int x) (.int 11) = _ := div_ok (by decide) (by unfold Bd; exact Nat.lt_of_lt_of_le (by decide : 11 < 2 ^ 4) (Nat.pow_le_pow_right (by decide) (by decide)))
    have md2 : dMod (.int (x / 11)) (.int 3001) = _ := mod_ok (by decide)
    generalize hy : x / 11 % 3001 = y at md2
    have hy0 : 0 ≤ y := by rw [← hy]; exact Int.emod_nonneg _ (by decide)
    have hy1 : y < 3001 := by rw [← hy]; exact Int.emod_lt_of_pos _ (by decide)
    have m3 : dMul (.int x) (.int (y + 10007)) = _ := mul_ok ((bd31 hx0 (by omega)).mono (by decide)) ((bd31 (by omega) (by omega)).mono (by decide))
    have md3 : dMod (.int (x * (y + 10007) + 29)) (.int 2147483543) = _ := mod_ok (by decide)
    generalize hw : (x * (y + 10007) + 29) % 2147483543 = w at md3
    have hw0 : 0 ≤ w := by rw [← hw]; exact Int.emod_nonneg _ (by decide)
    have hw1 : w < 2147483543 := by rw [← hw]; exact Int.emod_lt_of_pos _ (by decide)
    have dv2 : dDiv (.int w) (.int 523) = _ := div_ok (by decide) (by unfold Bd; exact Nat.lt_of_lt_of_le (by decide : 523 < 2 ^ 10) (Nat.pow_le_pow_right (by decide) (by decide)))
    have md4 : dMod (.int (w / 523)) (.int z) = _ := mod_ok z0
    refine ⟨w / 523 % z, [.int a, .int w, .int (c + 1)], ?_, Int.emod_nonneg _ (by omega), Int.emod_lt_of_pos _ z0, a, w, c + 1, rfl, ha, hw0, hw1, by omega, by omega⟩
    simp [f__law_draw, fnM, g__law_draw, startE, sSeq, mIf, mB, m2, mThen, mLift, mSk, SACK, mC, dCmp, bOf, h0, sNx, sAsg, mCall, aCons, aNil, mVar, bnd, bnds, isD, sRet, dAdd, m1', m2', md1, bInt, dv, md2, m3, md3, dv2, md4]
/-! Euclid -/
theorem gcdI_step {a b : Int} (ha : 0 ≤ a) (hb : 0 < b) : gcdI b (a % b) = gcdI a b := by
  unfold gcdI
  congr 1
  rw [Int.natAbs_emod_of_nonneg ha, Nat.gcd_comm a.natAbs b.natAbs]
  rw [Nat.gcd_comm b.natAbs (a.natAbs % b.natAbs), ← Nat.gcd_rec]
theorem gcd_loop (s : S) : ∀ (n : Nat) (a b : Int), 0 ≤ a → 0 ≤ b → b < n → whL lc__law_gcd_0 lb__law_gcd_0 n [some (.fz (.int a)), some (.fz (.int b))] s = some (.nx [some (.fz (.int (gcdI a b))), some (.fz (.int 0))], s)
  | 0, a, b, _, hb, hn => by omega
  | n + 1, a, b, ha, hb, hn => by
    by_cases h0 : b = 0
    · subst h0
      have e : gcdI a 0 = a := by
        unfold gcdI
        simp
        omega
      simp [whL, lc__law_gcd_0, mB, m2, mThen, mLift, mVar, mC, ne_int, bOf, e]
    · have hb1 : 0 < b := by omega
      have md : dMod (.int a) (.int b) = _ := mod_ok hb1
      have ih := gcd_loop s n b (a % b) hb (Int.emod_nonneg _ h0) (by have := Int.emod_lt_of_pos a hb1; omega)
      rw [gcdI_step ha hb1] at ih
      have hb0 : (b == 0) = false := by simp [h0]
      have c1 : lc__law_gcd_0 [some (.fz (.int a)), some (.fz (.int b))] s = some (true, s) := by simp [lc__law_gcd_0, mB, m2, mThen, mLift, mVar, mC, ne_int, bOf, hb0]
      have c2 : lb__law_gcd_0 [some (.fz (.int a)), some (.fz (.int b))] s = some (.nx [some (.fz (.int b)), some (.fz (.int (a % b)))], s) := by simp [lb__law_gcd_0, m2, mThen, mLift, mVar, sPar, aCons, aNil, mCall, bInt, md]
      simp only [whL, c1, c2]
      exact ih
theorem abs_eq {a : Int} : (if a < 0 then -a else a) = ((a.natAbs : Nat) : Int) := by
  split <;> omega
theorem e_gcd {a b : Int} {s : S} : f__law_gcd [.int a, .int b] s = some (.int (gcdI a b), s) := by
  have h := gcd_loop s (b.natAbs + 1) ((a.natAbs : Nat) : Int) ((b.natAbs : Nat) : Int) (by omega) (by omega) (by omega)
  have e : gcdI ((a.natAbs : Nat) : Int) ((b.natAbs : Nat) : Int) = gcdI a b := by
    unfold gcdI
    simp
  rw [e] at h
  simp [f__law_gcd, fnM, g__law_gcd, startE, sSeq, sPar, aCons, aNil, mCall, mThen, mLift, mVar, bAbs, abs_eq, sWh, t__law_gcd_0, h, sRet]
theorem e_lratio {a b : Int} {s : S} (hb : 0 < b) (bb : Bd 400 b) : f__law_ratio [.int a, .int b] s = some (frD (nmN a b) (nmD a b), s) := by
  have hg := gcdI_pos (a := a) hb
  have h3 : dDiv (.int a) (.int (gcdI a b)) = _ := div_ok hg ((Bd.gcd hb bb).mono (by decide))
  have h4 : dDiv (.int b) (.int (gcdI a b)) = _ := div_ok hg ((Bd.gcd hb bb).mono (by decide))
  unfold nmN nmD
  simp [f__law_ratio, fnM, g__law_ratio, startE, sSeq, sAsg, bnd, mThen, mLift, mVar, mF, aCons, aNil, e_gcd, sRet, mIf, mB, m2, mC, dCmp, bOf, hb, mTup, isDs, isD, sizeLine_eq, h3, h4]
/-! the fewest runs, run by run -/
def st (o W : Int) (f : Bool) : Nat → Int × Int × Bool
  | 0 => (o, 0, f)
  | i + 1 => (if (st o W f i).2.2 = true then W else 0, if (st o W f i).2.2 = true then (st o W f i).2.1 + W - (st o W f i).1 else (st o W f i).2.1, !(st o W f i).2.2)
def chk (o W G : Int) (f : Bool) (i : Nat) : Prop := G ≤ if (st o W f i).2.2 = true then (st o W f i).2.1 + o - (st o W f i).1 else (st o W f i).2.1
theorem st_true (o W : Int) : ∀ j : Nat, st o W true (2 * j + 1) = (W, (j + 1) * W - o, false) ∧ st o W true (2 * j + 2) = (0, (j + 1) * W - o, true)
  | 0 => by
    refine ⟨?_, ?_⟩ <;> simp [st] <;> omega
  | j + 1 => by
    obtain ⟨h1, h2⟩ := st_true o W j
    have a : st o W true (2 * (j + 1) + 1) = (W, ((j + 1 : Nat) + 1) * W - o, false) := by
      show st o W true (2 * j + 2 + 1) = _
      unfold st
      rw [h2]
      simp
      grind
    refine ⟨a, ?_⟩
    show st o W true (2 * (j + 1) + 1 + 1) = _
    unfold st
    rw [a]
    simp
theorem st_false (o W : Int) : ∀ j : Nat, st o W false (2 * j + 1) = (0, j * W, true) ∧ st o W false (2 * j + 2) = (W, (j + 1) * W, false)
  | 0 => by
    refine ⟨?_, ?_⟩ <;> simp [st] <;> omega
  | j + 1 => by
    obtain ⟨h1, h2⟩ := st_false o W j
    have a : st o W false (2 * (j + 1) + 1) = (0, ((j + 1 : Nat) : Int) * W, true) := by
      show st o W false (2 * j + 2 + 1) = _
      unfold st
      rw [h2]
      simp
    refine ⟨a, ?_⟩
    show st o W false (2 * (j + 1) + 1 + 1) = _
    unfold st
    rw [a]
    simp
    grind
theorem up_le {a b j : Int} (hb : 0 < b) : up a b ≤ j ↔ a ≤ j * b := by
  unfold up
  have h := Int.le_ediv_iff_mul_le hb (a := -j) (b := -a)
  rw [Int.neg_mul] at h
  constructor
  · intro e
    have := h.mp (by omega)
    omega
  · intro e
    have := h.mpr (by omega)
    omega
theorem chk_t1 {o W G : Int} (hW : 0 < W) (j : Nat) : chk o W G true (2 * j + 1) ↔ up (G + o) W ≤ j + 1 := by
  unfold chk
  rw [(st_true o W j).1, up_le hW]
  simp
  omega
theorem chk_t2 {o W G : Int} (hW : 0 < W) (j : Nat) : chk o W G true (2 * j + 2) ↔ up G W ≤ j + 1 := by
  unfold chk
  rw [(st_true o W j).2, up_le hW]
  simp
  try omega
theorem chk_f1 {o W G : Int} (hW : 0 < W) (j : Nat) : chk o W G false (2 * j + 1) ↔ up (G - o) W ≤ j := by
  unfold chk
  rw [(st_false o W j).1, up_le hW]
  simp
  try omega
theorem chk_f2 {o W G : Int} (hW : 0 < W) (j : Nat) : chk o W G false (2 * j + 2) ↔ up G W ≤ j + 1 := by
  unfold chk
  rw [(st_false o W j).2, up_le hW]
  simp
/-- the first run at which it is enough -/
def fst1 (o W G : Int) (f : Bool) : Int := if f = true then min (2 * up (G + o) W) (2 * up G W + 1) else min (2 * up (G - o) W + 2) (2 * up G W + 1)
theorem first_is {o W G : Int} (hW : 0 < W) (hG : 0 < G) (o0 : 0 ≤ o) (oW : o ≤ W) (f : Bool) : ∃ N : Nat, 1 ≤ N ∧ (N : Int) + 1 = fst1 o W G f ∧ chk o W G f N ∧ ∀ i : Nat, 1 ≤ i → i < N → ¬ chk o W G f i := by
  have hC : 1 ≤ up G W := by
    have h2 : ¬ up G W ≤ 0 := fun z => by have := (up_le (a := G) (j := 0) hW).mp z; omega
    omega
  have par : ∀ i : Nat, 1 ≤ i → (∃ j : Nat, i = 2 * j + 1) ∨ ∃ j : Nat, i = 2 * j + 2 := fun i h => by
    rcases Nat.mod_two_eq_zero_or_one i with e | e
    · exact .inr ⟨i / 2 - 1, by omega⟩
    · exact .inl ⟨i / 2, by omega⟩
  cases f with
  | true =>
    have hA : 1 ≤ up (G + o) W := by
      have h2 : ¬ up (G + o) W ≤ 0 := fun z => by have := (up_le (a := G + o) (j := 0) hW).mp z; omega
      omega
    refine ⟨(fst1 o W G true - 1).toNat, ?_, ?_, ?_, ?_⟩
    · unfold fst1; rw [if_pos rfl]; omega
    · unfold fst1; rw [if_pos rfl]; omega
    · by_cases h : up (G + o) W ≤ up G W
      · have e : (fst1 o W G true - 1).toNat = 2 * (up (G + o) W - 1).toNat + 1 := by unfold fst1; rw [if_pos rfl]; omega
        rw [e, chk_t1 hW]
        omega
      · have e : (fst1 o W G true - 1).toNat = 2 * (up G W - 1).toNat + 2 := by unfold fst1; rw [if_pos rfl]; omega
        rw [e, chk_t2 hW]
        omega
    · intro i h1 h2
      have h3 : (i : Int) + 1 < fst1 o W G true := by omega
      unfold fst1 at h3
      rw [if_pos rfl] at h3
      rcases par i h1 with ⟨j, rfl⟩ | ⟨j, rfl⟩
      · rw [chk_t1 hW]; omega
      · rw [chk_t2 hW]; omega
  | false =>
    have hB : 0 ≤ up (G - o) W := by
      have h2 : ¬ up (G - o) W ≤ -1 := fun z => by have := (up_le (a := G - o) (j := -1) hW).mp z; omega
      omega
    refine ⟨(fst1 o W G false - 1).toNat, ?_, ?_, ?_, ?_⟩
    · unfold fst1; rw [if_neg (by decide)]; omega
    · unfold fst1; rw [if_neg (by decide)]; omega
    · by_cases h : up (G - o) W + 1 ≤ up G W
      · have e : (fst1 o W G false - 1).toNat = 2 * (up (G - o) W).toNat + 1 := by unfold fst1; rw [if_neg (by decide)]; omega
        rw [e, chk_f1 hW]
        omega
      · have e : (fst1 o W G false - 1).toNat = 2 * (up G W - 1).toNat + 2 := by unfold fst1; rw [if_neg (by decide)]; omega
        rw [e, chk_f2 hW]
        omega
    · intro i h1 h2
      have h3 : (i : Int) + 1 < fst1 o W G false := by omega
      unfold fst1 at h3
      rw [if_neg (by decide)] at h3
      rcases par i h1 with ⟨j, rfl⟩ | ⟨j, rfl⟩
      · rw [chk_f1 hW]; omega
      · rw [chk_f2 hW]; omega
theorem forL_break {p : Pat} {body : M Out} {s : S} {ρN : PL.Env} : ∀ (N : Nat) (xs : List D) (ρ : Nat → PL.Env), (∀ i, i < N → ∃ d ρ1, xs[i]? = some d ∧ bnd p d (ρ i) s = some (ρ1, s) ∧ body ρ1 s = some (.nx (ρ (i + 1)), s)) →
    (∃ d ρ1, xs[N]? = some d ∧ bnd p d (ρ N) s = some (ρ1, s) ∧ body ρ1 s = some (.bk ρN, s)) → forL p body xs (ρ 0) s = some (.nx ρN, s)
  | 0, xs, ρ, _, hN => by
    obtain ⟨d, ρ1, h1, h2, h3⟩ := hN
    cases xs with
    | nil => cases h1
    | cons x xs =>
      simp at h1
      subst h1
      unfold forL
      rw [h2]
      simp only [h3]
  | N + 1, xs, ρ, hs, hN => by
    obtain ⟨d, ρ1, h1, h2, h3⟩ := hs 0 (by omega)
    cases xs with
    | nil => cases h1
    | cons x xs =>
      simp at h1
      subst h1
      unfold forL
      rw [h2]
      simp only [h3]
      exact forL_break N xs (fun i => ρ (i + 1)) (fun i hi => by
        obtain ⟨d, ρ1, h1, h2, h3⟩ := hs (i + 1) (by omega)
        exact ⟨d, ρ1, by simpa using h1, h2, h3⟩) (by
        obtain ⟨d, ρ1, h1, h2, h3⟩ := hN
        exact ⟨d, ρ1, by simpa using h1, h2, h3⟩)
end K55
namespace K55
open PySem PySem.Spec PyProof.Rows L2 PL
abbrev cI (x : Int) : Option Cell := some (.fz (.int x))
abbrev cB (x : Bool) : Option Cell := some (.fz (.bool x))
def EN (u h t w b : D) (fo : List D) (G o W : Int) (c10 c11 c12 c13 c14 c15 : Option Cell) : PL.Env := [some (.fz u), some (.fz h), some (.fz t), some (.fz w), some (.fz b), some (.ow fo), cI G, cI o, cI o, cI W, c10, c11, c12, c13, c14, c15]
theorem rgD_get {lo : Int} {n i : Nat} (h : i < n) : (rgD lo n)[i]? = some (.int (lo + (i : Int))) := by
  unfold rgD
  simp [h]
theorem forL_nx {p : Pat} {body : M Out} {x : D} {xs : List D} {ρ ρ1 ρ2 : PL.Env} {s s1 s2 : S} (h1 : bnd p x ρ s = some (ρ1, s1)) (h2 : body ρ1 s1 = some (.nx ρ2, s2)) : forL p body (x :: xs) ρ s = forL p body xs ρ2 s2 := by
  conv => lhs; unfold forL
  rw [h1]
  simp only [h2]
theorem sSeq_nx {a b : M Out} {ρ ρ1 : PL.Env} {s s1 : S} (h : a ρ s = some (.nx ρ1, s1)) : sSeq a b ρ s = b ρ1 s1 := by
  unfold sSeq
  rw [h]
theorem sFor_at {it : M (List D)} {p : Pat} {body : M Out} {ρ : PL.Env} {s s1 : S} {xs : List D} (h : it ρ s = some (xs, s1)) : sFor it p body ρ s = forL p body xs ρ s1 := by
  unfold sFor
  rw [h]
theorem mA_rg2 {i j : Int} {xs : List D} {ρ : PL.Env} {s : S} (h : rg2 [.int i, .int j] = some xs) : mA rg2 (aCons (mC (.int i)) (aCons (mC (.int j)) aNil)) ρ s = some (xs, s) := by
  simp [mA, mThen, aCons, mC, aNil, mLift, h]
theorem fnM_rt {n N : Nat} {body : M Out} {ds : List D} {s s' : S} {d : D} (hl : ds.length = n) (h : body (startE N ds) s = some (.rt d, s')) : fnM n N body ds s = some (d, s') := by
  unfold fnM
  rw [if_pos hl, h]
theorem few_step {u h t w b : D} {fo : List D} {G o W x y k : Int} {f : Bool} {c10 c11 : Option Cell} {s : S} (hl : fo.length < 5) : lb__law_fewest_0 (EN u h t w b fo G o W c10 c11 (cI x) (cI y) (cB f) (cI k)) s =
    if 1 < k ∧ G ≤ (if f = true then y + o - x else y) then some (.bk (EN u h t w b (fo ++ [.int k]) G o W c10 c11 (cI x) (cI y) (cB f) (cI k)), s)
    else some (.nx (EN u h t w b fo G o W c10 c11 (cI (if f = true then W else 0)) (cI (if f = true then y + W - x else y)) (cB (!f)) (cI k)), s) := by
  have hz : fo.length < sizeLine := by rw [sizeLine_eq]; omega
  by_cases h1 : 1 < k
  · cases f with
    | true =>
      by_cases h2 : G ≤ y + o - x
      · simp [lb__law_fewest_0, EN, sSeq, mIf, mAnd, mB, m2, mThen, mLift, mVar, mC, dCmp, bOf, h1, h2, dSub, dAdd, sApp, owAt, hz, isD, sBk, qC]
      · simp [lb__law_fewest_0, EN, sSeq, mIf, mAnd, mB, m2, mThen, mLift, mVar, mC, dCmp, bOf, h1, h2, dSub, dAdd, sNx, sAsg, bnd, sPar, aCons, aNil, m1, dNot, isD, qC]
    | false =>
      by_cases h2 : G ≤ y
      · simp [lb__law_fewest_0, EN, sSeq, mIf, mAnd, mB, m2, mThen, mLift, mVar, mC, dCmp, bOf, h1, h2, dSub, dAdd, sApp, owAt, hz, isD, sBk, qC]
      · simp [lb__law_fewest_0, EN, sSeq, mIf, mAnd, mB, m2, mThen, mLift, mVar, mC, dCmp, bOf, h1, h2, dSub, dAdd, sNx, sAsg, bnd, sPar, aCons, aNil, m1, dNot, isD, qC]
  · cases f with
    | true => simp [lb__law_fewest_0, EN, sSeq, mIf, mAnd, mB, m2, mThen, mLift, mVar, mC, dCmp, bOf, h1, dSub, dAdd, sNx, sAsg, bnd, sPar, aCons, aNil, m1, dNot, isD, qC]
    | false => simp [lb__law_fewest_0, EN, sSeq, mIf, mAnd, mB, m2, mThen, mLift, mVar, mC, dCmp, bOf, h1, dSub, dAdd, sNx, sAsg, bnd, sPar, aCons, aNil, m1, dNot, isD, qC]
theorem few_one {u h t w b : D} {fo : List D} {G o W : Int} {f : Bool} {c10 c12 c13 c14 c15 : Option Cell} {s : S} (hl : fo.length < 5) (hW : 0 < W) (hG : 0 < G) (o0 : 0 ≤ o) (oW : o ≤ W) (hB : up G W ≤ 400000) :
    ∃ c12' c13' c14' c15', lb__law_fewest_1 (EN u h t w b fo G o W c10 (cB f) c12 c13 c14 c15) s = some (.nx (EN u h t w b (fo ++ [.int (fst1 o W G f)]) G o W c10 (cB f) c12' c13' c14' c15'), s) := by
  obtain ⟨N, h1, h2, h3, h4⟩ := first_is hW hG o0 oW f
  have hN : N < 999999 := by
    have : fst1 o W G f ≤ 2 * up G W + 1 := by
      unfold fst1
      split <;> omega
    omega
  have hr : rg2 [.int 1, .int 1000000] = some (rgD 1 999999) := by
    have e0 : ((1000000 : Int) - 1).toNat = 999999 := by decide
    simp [rg2, okRg, e0]
  have hg : ∀ i : Nat, i < 999999 → (rgD 1 999999)[i]? = some (.int (1 + (i : Int))) := fun i h => rgD_get h
  generalize rgD 1 999999 = xs at hr hg
  have e : forL (.nm 15) lb__law_fewest_0 xs (EN u h t w b fo G o W c10 (cB f) (cI o) (cI 0) (cB f) c15) s = some (.nx (EN u h t w b (fo ++ [.int (fst1 o W G f)]) G o W c10 (cB f) (cI (st o W f N).1) (cI (st o W f N).2.1) (cB (st o W f N).2.2) (cI ((N : Int) + 1))), s) := by
    refine forL_break N _ (fun i => EN u h t w b fo G o W c10 (cB f) (cI (st o W f i).1) (cI (st o W f i).2.1) (cB (st o W f i).2.2) (if i = 0 then c15 else cI i)) (fun i hi => ?_) ?_
    · refine ⟨.int (1 + (i : Int)), EN u h t w b fo G o W c10 (cB f) (cI (st o W f i).1) (cI (st o W f i).2.1) (cB (st o W f i).2.2) (cI (1 + (i : Int))), hg i (by omega), rfl, ?_⟩
      rw [few_step hl]
      have hn : ¬ (1 < 1 + (i : Int) ∧ G ≤ (if (st o W f i).2.2 = true then (st o W f i).2.1 + o - (st o W f i).1 else (st o W f i).2.1)) := fun z => h4 i (by omega) hi z.2
      rw [if_neg hn]
      have e1 : (1 + (i : Int)) = ((i + 1 : Nat) : Int) := by omega
      rw [e1]
      rfl
    · refine ⟨.int (1 + (N : Int)), EN u h t w b fo G o W c10 (cB f) (cI (st o W f N).1) (cI (st o W f N).2.1) (cB (st o W f N).2.2) (cI (1 + (N : Int))), hg N hN, rfl, ?_⟩
      rw [few_step hl, if_pos ⟨by omega, h3⟩]
      have e1 : (1 + (N : Int)) = (N : Int) + 1 := by omega
      rw [e1, h2]
  have e2 : lb__law_fewest_1 (EN u h t w b fo G o W c10 (cB f) c12 c13 c14 c15) s = forL (.nm 15) lb__law_fewest_0 xs (EN u h t w b fo G o W c10 (cB f) (cI o) (cI 0) (cB f) c15) s := by
    have e3 : sPar3 12 13 14 (aCons (mVar 7) (aCons (mC (.int 0)) (aCons (mVar 11) aNil))) (EN u h t w b fo G o W c10 (cB f) c12 c13 c14 c15) s = some (.nx (EN u h t w b fo G o W c10 (cB f) (cI o) (cI 0) (cB f) c15), s) := rfl
    unfold lb__law_fewest_1
    rw [sSeq_nx e3]
    exact sFor_at (mA_rg2 hr)
  exact ⟨_, _, _, _, e2.trans e⟩
theorem ne_ll {x y : Int} : dNe (.list [.int x, .int y]) (.list []) = some (.bool true) := by
  unfold dNe
  rw [if_pos ⟨rfl, rfl⟩]
  rfl
theorem e_fewest {a b p q : Int} {s : S} (a0 : 0 < a) (b0 : 0 < b) (p0 : 0 ≤ p) (q0 : 0 < q) (pq : p ≤ q) (ba : Bd 60 a) (bb : Bd 60 b) (bp : Bd 30 p) (bq : Bd 30 q) (hB : up a b ≤ 400000) :
    f__law_fewest [frD a b, frD p q, frD p q, frD 1 1] s = some (.int (min (fst1 (p * (b * q)) (b * q * q) (a * (q * q)) true) (fst1 (p * (b * q)) (b * q * q) (a * (q * q)) false)), s) := by
  have k1 : dMul (.int b) (.int q) = _ := mul_ok (bb.mono (by decide)) (bq.mono (by decide))
  have k2 : dMul (.int (b * q)) (.int q) = _ := mul_ok ((bb.mul bq).mono (by decide)) (bq.mono (by decide))
  have k3 : dMul (.int (b * q * q)) (.int 1) = _ := mul_ok (((bb.mul bq).mul bq).mono (by decide)) bd1
  rw [Int.mul_one] at k3
  have d1 : dDiv (.int (b * q * q)) (.int b) = _ := div_ok b0 (bb.mono (by decide))
  have d2 : dDiv (.int (b * q * q)) (.int q) = _ := div_ok q0 (bq.mono (by decide))
  have d3 : dDiv (.int (b * q * q)) (.int 1) = _ := div_ok (by decide) (bd1.mono (by decide))
  have g1 : b * q * q / b = q * q := by rw [Int.mul_assoc, Int.mul_ediv_cancel_left _ (by omega)]
  have g2 : b * q * q / q = b * q := Int.mul_ediv_cancel _ (by omega)
  rw [g1] at d1
  rw [g2] at d2
  rw [Int.ediv_one] at d3
  have k4 : dMul (.int a) (.int (q * q)) = _ := mul_ok (ba.mono (by decide)) ((bq.mul bq).mono (by decide))
  have k5 : dMul (.int p) (.int (b * q)) = _ := mul_ok (bp.mono (by decide)) ((bb.mul bq).mono (by decide))
  have k6 : dMul (.int 1) (.int (b * q * q)) = _ := mul_ok bd1 (((bb.mul bq).mul bq).mono (by decide))
  rw [Int.one_mul] at k6
  have W0 : 0 < b * q * q := Int.mul_pos (Int.mul_pos b0 q0) q0
  have G0 : 0 < a * (q * q) := Int.mul_pos a0 (Int.mul_pos q0 q0)
  have o0 : 0 ≤ p * (b * q) := Int.mul_nonneg p0 (Int.le_of_lt (Int.mul_pos b0 q0))
  have oW : p * (b * q) ≤ b * q * q := by
    rw [Int.mul_comm (b * q) q]
    exact Int.mul_le_mul_of_nonneg_right pq (Int.le_of_lt (Int.mul_pos b0 q0))
  have hB' : up (a * (q * q)) (b * q * q) ≤ 400000 := by
    have : up (a * (q * q)) (b * q * q) = up a b := up_cross W0 b0 (by grind)
    rw [this]
    exact hB
  obtain ⟨x1, x2, x3, x4, e1⟩ := few_one (u := frD a b) (h := frD p q) (t := frD p q) (w := frD 1 1) (b := .int (b * q * q)) (fo := []) (f := true) (c10 := none) (c12 := none) (c13 := none) (c14 := none) (c15 := none) (s := s) (by decide) W0 G0 o0 oW hB'
  obtain ⟨y1, y2, y3, y4, e2⟩ := few_one (u := frD a b) (h := frD p q) (t := frD p q) (w := frD 1 1) (b := .int (b * q * q)) (fo := [.int (fst1 (p * (b * q)) (b * q * q) (a * (q * q)) true)]) (f := false) (c10 := none) (c12 := x1) (c13 := x2) (c14 := x3) (c15 := x4) (s := s) (by simp) W0 G0 o0 oW hB'
  have E : forL (.nm 11) lb__law_fewest_1 [.bool true, .bool false] (EN (frD a b) (frD p q) (frD p q) (frD 1 1) (.int (b * q * q)) [] (a * (q * q)) (p * (b * q)) (b * q * q) none none none none none none) s = some (.nx (EN (frD a b) (frD p q) (frD p q) (frD 1 1) (.int (b * q * q)) [.int (fst1 (p * (b * q)) (b * q * q) (a * (q * q)) true), .int (fst1 (p * (b * q)) (b * q * q) (a * (q * q)) false)] (a * (q * q)) (p * (b * q)) (b * q * q) none (cB false) y1 y2 y3 y4), s) := by
    rw [List.nil_append] at e1
    rw [List.singleton_append] at e2
    exact (forL_nx (ρ1 := EN (frD a b) (frD p q) (frD p q) (frD 1 1) (.int (b * q * q)) [] (a * (q * q)) (p * (b * q)) (b * q * q) none (cB true) none none none none) rfl e1).trans ((forL_nx (ρ1 := EN (frD a b) (frD p q) (frD p q) (frD 1 1) (.int (b * q * q)) [.int (fst1 (p * (b * q)) (b * q * q) (a * (q * q)) true)] (a * (q * q)) (p * (b * q)) (b * q * q) none (cB false) x1 x2 x3 x4) rfl e2).trans rfl)
  clear e1 e2
  have t1 : sParFO 4 5 (m2 dMul (m2 dMul (m2 dMul (m2 dIx (mVar 0) (mC (.int 1))) (m2 dIx (mVar 1) (mC (.int 1)))) (m2 dIx (mVar 2) (mC (.int 1)))) (m2 dIx (mVar 3) (mC (.int 1)))) (mLst aNil) (startE 16 [frD a b, frD p q, frD p q, frD 1 1]) s = some (.nx [some (.fz (frD a b)), some (.fz (frD p q)), some (.fz (frD p q)), some (.fz (frD 1 1)), some (.fz (.int (b * q * q))), some (.ow []), none, none, none, none, none, none, none, none, none, none], s) := by
    simp [startE, sParFO, m2, mThen, mLift, mVar, mC, dIx, atI, ixN, k1, k2, k3, mLst, aNil, isDs]
  have t2 : sAsg (.tp [.nm 6, .nm 7, .nm 8, .nm 9]) (mL (mLc (mIt (mTup (aCons (mVar 0) (aCons (mVar 1) (aCons (mVar 2) (aCons (mVar 3) aNil)))))) [10] (.nm 10) (qC true) (m2 dMul (m2 dIx (mVar 10) (mC (.int 0))) (m2 dDiv (mVar 4) (m2 dIx (mVar 10) (mC (.int 1))))))) [some (.fz (frD a b)), some (.fz (frD p q)), some (.fz (frD p q)), some (.fz (frD 1 1)), some (.fz (.int (b * q * q))), some (.ow []), none, none, none, none, none, none, none, none, none, none] s = some (.nx [some (.fz (frD a b)), some (.fz (frD p q)), some (.fz (frD p q)), some (.fz (frD 1 1)), some (.fz (.int (b * q * q))), some (.ow []), cI (a * (q * q)), cI (p * (b * q)), cI (p * (b * q)), cI (b * q * q), none, none, none, none, none, none], s) := by
    simp [m2, mThen, mLift, mVar, mC, dIx, atI, ixN, mLst, aNil, isDs, sizeLine_eq, sAsg, mL, mLc, mIt, mTup, aCons, isD, itOf, wipeE, lcGo, bnd, bnds, qC, d1, d2, d3, k4, k5, k6]
  have mn : ∀ x y : Int, (if y < x then y else x) = min x y := fun x y => by
    split <;> omega
  have t3 : sFor (mIt (mTup (aCons (mC (.bool true)) (aCons (mC (.bool false)) aNil)))) (.nm 11) lb__law_fewest_1 (EN (frD a b) (frD p q) (frD p q) (frD 1 1) (.int (b * q * q)) [] (a * (q * q)) (p * (b * q)) (b * q * q) none none none none none none) s = _ := (sFor_at (by simp [mIt, mTup, aCons, aNil, mC, mThen, mLift, isDs, isD, itOf, sizeLine_eq])).trans E
  generalize hx : fst1 (p * (b * q)) (b * q * q) (a * (q * q)) true = x at t3 ⊢
  generalize hy : fst1 (p * (b * q)) (b * q * q) (a * (q * q)) false = y at t3 ⊢
  clear E hx hy
  have t4 : sFrz 5 (sRet (mIf (mB (m2 (dNe) (mVar 5) (mL (mLst aNil)))) (mCall bMinL (aCons (mVar 5) aNil)) (mC (.int 0)))) (EN (frD a b) (frD p q) (frD p q) (frD 1 1) (.int (b * q * q)) [.int x, .int y] (a * (q * q)) (p * (b * q)) (b * q * q) none (cB false) y1 y2 y3 y4) s = some (.rt (.int (min x y)), s) := by
    simp [EN, sFrz, frz, sRet, mIf, mB, m2, mThen, mVar, mLift, mL, mLst, aNil, isDs, ne_ll, bOf, mCall, aCons, bMinL, intsOf, minL, mn]
  exact fnM_rt rfl ((sSeq_nx t1).trans ((sSeq_nx t2).trans ((sSeq_nx t3).trans t4)))
end K55
namespace K55
open PySem PySem.Spec PyProof.Rows L2 PL
theorem up_add {a b c : Int} (hb : 0 < b) : up (a + c * b) b = up a b + c := by
  unfold up
  have e : -(a + c * b) = -a + -c * b := by grind
  rw [e, Int.add_mul_ediv_right _ _ (by omega)]
  omega
theorem runs_few {n m p q k : Int} (m0 : 0 < m) (q0 : 0 < q) :
    min (fst1 (p * (nmD (n * k) m * q)) (nmD (n * k) m * q * q) (nmN (n * k) m * (q * q)) true) (fst1 (p * (nmD (n * k) m * q)) (nmD (n * k) m * q * q) (nmN (n * k) m * (q * q)) false) = runsI n m p q k := by
  have d0 := nmD_pos (a := n * k) m0
  have eq1 := nm_eq (a := n * k) m0
  generalize nmN (n * k) m = a at *
  generalize nmD (n * k) m = b at *
  have W0 : 0 < b * q * q := Int.mul_pos (Int.mul_pos d0 q0) q0
  have u1 : up (a * (q * q)) (b * q * q) = up (k * n) m := up_cross W0 m0 (by grind)
  have u2 : up (a * (q * q) + p * (b * q)) (b * q * q) = up (k * n * q + p * m) (m * q) := up_cross W0 (Int.mul_pos m0 q0) (by grind)
  have u3 : up (a * (q * q) - p * (b * q)) (b * q * q) = up (k * n * q - p * m) (m * q) := up_cross W0 (Int.mul_pos m0 q0) (by grind)
  unfold fst1 runsI
  rw [if_pos rfl, if_neg (by decide), u1, u2, u3]
  dsimp only
  generalize up (k * n) m = x
  generalize up (k * n * q + p * m) (m * q) = y
  generalize up (k * n * q - p * m) (m * q) = z
  split <;> split <;> omega
theorem runs_per {n m p q k : Int} (m0 : 0 < m) (q0 : 0 < q) : runsI n m p q (k + m) = runsI n m p q k + 2 * n := by
  have u1 : up ((k + m) * n) m = up (k * n) m + n := by
    rw [show (k + m) * n = k * n + n * m by grind]
    exact up_add m0
  have mq := Int.mul_pos m0 q0
  have u2 : up ((k + m) * n * q + p * m) (m * q) = up (k * n * q + p * m) (m * q) + n := by
    rw [show (k + m) * n * q + p * m = (k * n * q + p * m) + n * (m * q) by grind]
    exact up_add mq
  have u3 : up ((k + m) * n * q - p * m) (m * q) = up (k * n * q - p * m) (m * q) + n := by
    rw [show (k + m) * n * q - p * m = (k * n * q - p * m) + n * (m * q) by grind]
    exact up_add mq
  unfold runsI
  dsimp only
  rw [u1, u2, u3]
  generalize up (k * n) m = x
  generalize up (k * n * q + p * m) (m * q) = y
  generalize up (k * n * q - p * m) (m * q) = z
  split <;> split <;> split <;> split <;> omega
def dsum (n m p q : Int) : Nat → Int → Int
  | 0, _ => 0
  | j + 1, k => (runsI n m p q k - runsI n m 0 1 k) + dsum n m p q j (k + 1)
theorem dsum_end {n m p q : Int} : ∀ (j : Nat) (k : Int), dsum n m p q (j + 1) k = dsum n m p q j k + (runsI n m p q (k + j) - runsI n m 0 1 (k + j))
  | 0, k => by simp [dsum]
  | j + 1, k => by
    rw [dsum, dsum_end j (k + 1), dsum]
    have : k + 1 + (j : Int) = k + ((j + 1 : Nat) : Int) := by omega
    rw [this]
    omega
theorem dsum_step {n m p q : Int} (m0 : 0 < m) (q0 : 0 < q) (k : Int) : dsum n m p q m.toNat (k + 1) = dsum n m p q m.toNat k := by
  have h1 := dsum_end (n := n) (m := m) (p := p) (q := q) m.toNat k
  have hm : ((m.toNat : Nat) : Int) = m := Int.toNat_of_nonneg (by omega)
  rw [hm, runs_per m0 q0, runs_per m0 (by decide : (0 : Int) < 1), dsum] at h1
  omega
theorem dsum_first {n m p q : Int} (m0 : 0 < m) (q0 : 0 < q) : ∀ j : Nat, dsum n m p q m.toNat (1 + j) = dsum n m p q m.toNat 1
  | 0 => by simp
  | j + 1 => by
    have : (1 : Int) + ((j + 1 : Nat) : Int) = (1 + (j : Int)) + 1 := by omega
    rw [this, dsum_step m0 q0, dsum_first m0 q0 j]
def chk1 (n m p q : Nat) : Bool := Nat.gcd n m != 1 || Nat.gcd p q != 1 || dsum n m p q m 1 == dearN m p q
def chkA : Bool := (List.range 10).all fun m => (List.range 30).all fun n => (List.range 9).all fun q => (List.range 9).all fun p => m == 0 || n == 0 || q == 0 || decide (q < p) || chk1 n m p q
theorem chkA_ok : chkA = true := by decide +kernel
theorem dear_sum {n m p q f : Int} (n0 : 0 < n) (n1 : n < 30) (m0 : 0 < m) (m1 : m < 10) (p0 : 0 ≤ p) (pq : p ≤ q) (q0 : 0 < q) (q1 : q < 9) (g1 : gcdI n m = 1) (g2 : gcdI p q = 1) (f1 : 1 ≤ f) : dsum n m p q m.toNat f = dearN m p q := by
  have h := chkA_ok
  unfold chkA at h
  simp only [List.all_eq_true, List.mem_range] at h
  have h2 := h m.toNat (by omega) n.toNat (by omega) q.toNat (by omega) p.toNat (by omega)
  have em : ((m.toNat : Nat) : Int) = m := Int.toNat_of_nonneg (by omega)
  have en : ((n.toNat : Nat) : Int) = n := Int.toNat_of_nonneg (by omega)
  have ep : ((p.toNat : Nat) : Int) = p := Int.toNat_of_nonneg (by omega)
  have eq : ((q.toNat : Nat) : Int) = q := Int.toNat_of_nonneg (by omega)
  unfold chk1 at h2
  rw [em, en, ep, eq] at h2
  have c1 : Nat.gcd n.toNat m.toNat = 1 := by
    unfold gcdI at g1
    have a : n.natAbs = n.toNat := by omega
    have b : m.natAbs = m.toNat := by omega
    rw [a, b] at g1
    omega
  have c2 : Nat.gcd p.toNat q.toNat = 1 := by
    unfold gcdI at g2
    have a : p.natAbs = p.toNat := by omega
    have b : q.natAbs = q.toNat := by omega
    rw [a, b] at g2
    omega
  have d1 : m.toNat ≠ 0 := by omega
  have d2 : n.toNat ≠ 0 := by omega
  have d3 : q.toNat ≠ 0 := by omega
  have d4 : ¬ q.toNat < p.toNat := by omega
  simp [c1, c2, d1, d2, d3, d4] at h2
  have h3 := dsum_first (n := n) (p := p) m0 q0 (f - 1).toNat
  have ef : (1 : Int) + (((f - 1).toNat : Nat) : Int) = f := by omega
  rw [ef] at h3
  omega
theorem nm_cop {a b : Int} (a0 : 0 ≤ a) (b0 : 0 < b) : gcdI (nmN a b) (nmD a b) = 1 := by
  obtain ⟨x, rfl⟩ := Int.eq_ofNat_of_zero_le a0
  obtain ⟨y, rfl⟩ := Int.eq_ofNat_of_zero_le (Int.le_of_lt b0)
  have y0 : 0 < y := by omega
  unfold nmN nmD gcdI
  simp only [Int.natAbs_natCast]
  rw [← Int.natCast_ediv, ← Int.natCast_ediv, Int.natAbs_natCast, Int.natAbs_natCast]
  rw [Nat.gcd_div_gcd_div_gcd_of_pos_right y0]
  rfl
theorem nmN_pos {a b : Int} (a0 : 0 < a) (b0 : 0 < b) : 0 < nmN a b := Int.ediv_pos_of_pos_of_dvd a0 (Int.le_of_lt (gcdI_pos b0)) gcdI_dvd1
theorem nmN_le {a b : Int} (a0 : 0 ≤ a) (b0 : 0 < b) : nmN a b ≤ a := Int.ediv_le_self _ a0
theorem nmD_le {a b : Int} (b0 : 0 < b) : nmD a b ≤ b := Int.ediv_le_self _ (Int.le_of_lt b0)
theorem nmN_nn {a b : Int} (a0 : 0 ≤ a) (b0 : 0 < b) : 0 ≤ nmN a b := Int.ediv_nonneg a0 (Int.le_of_lt (gcdI_pos b0))
theorem nm_mono {a b : Int} (b0 : 0 < b) (h : a ≤ b) : nmN a b ≤ nmD a b := Int.ediv_le_ediv (gcdI_pos b0) h
end K55
namespace K55
open PySem PySem.Spec PyProof.Rows L2 PL
theorem sSeq_rt {a b : M Out} {ρ : PL.Env} {s s1 : S} {d : D} (h : a ρ s = some (.rt d, s1)) : sSeq a b ρ s = some (.rt d, s1) := by
  unfold sSeq
  rw [h]
/-! what is shown -/
theorem int_sh {x : Int} (h : Bd 400 x) : (PyData.int x).showable = true ∧ (PyData.int x).shown.length ≤ 1921 := by
  have l := h.log (by decide)
  have z : x.natAbs.log2 < 1920 := by omega
  refine ⟨by simp [PyData.showable, z], ?_⟩
  show (Str.ofString (toString x)).length ≤ 1921
  exact int_text_len_1921 z
theorem repr_at {d : D} (h1 : isD d = true) (h2 : d.showable = true) (h3 : d.depth ≤ 60) (h4 : d.shown.length ≤ sizeLine) : bRepr [d] = some (.str d.shown) := by
  show (if _ then _ else _) = _
  rw [if_pos ⟨h1, h2, h3, h4⟩]
theorem rp_int {x : Int} (h : Bd 400 x) : bRepr [.int x] = some (.str (PyData.int x).shown) := by
  obtain ⟨a, b⟩ := int_sh h
  exact repr_at rfl a (by simp [PyData.depth]) (by rw [sizeLine_eq]; omega)
theorem rp_fr {x y : Int} (h : Bd 400 x) (g : Bd 400 y) : bRepr [frD x y] = some (.str (frD x y).shown) := by
  obtain ⟨a, b⟩ := int_sh h
  obtain ⟨c, d⟩ := int_sh g
  have e : (frD x y).shown = tupleText [(PyData.int x).shown, (PyData.int y).shown] := by simp only [PyData.shown, PyData.shownAll]
  have l : (frD x y).shown.length ≤ sizeLine := by
    rw [e, sizeLine_eq]
    refine Nat.le_trans (tupleText_len_le _) ?_
    simp only [List.map_cons, List.map_nil, List.sum_cons, List.sum_nil, List.length_cons, List.length_nil]
    omega
  refine repr_at rfl ?_ (by simp [PyData.depth, PyData.depthAll]) l
  show PyData.showableAll [.int x, .int y] = true
  simp only [PyData.showableAll, a, c, Bool.and_self]
theorem ne_str {x : Str} : dNe (.str x) (.str x) = some (.bool false) := by
  unfold dNe
  rw [if_pos ⟨rfl, rfl⟩]
  simp [PyData.eqv]
/-! one length -/
def RN (sl of tu ot d f k up he sh du : Option Cell) : PL.Env := [some (.fz SACK), tu, sl, ot, of, d, f, k, up, he, sh, du]
abbrev cF (a b : Int) : Option Cell := some (.fz (frD a b))
theorem runs_bd {n m p q k : Int} (bn : Bd 30 n) (bm : Bd 30 m) (bp : Bd 30 p) (bq : Bd 30 q) (bk : Bd 30 k) : Bd 400 (runsI n m p q k) := by
  have b1 : Bd 60 (k * n) := bk.mul bn
  have b2 : Bd 2 2 := by unfold Bd; decide
  have x1 : Bd 62 (2 * up (k * n) m) := b2.mul (Bd.up b1)
  have x2 : Bd 93 (2 * up (k * n * q + p * m) (m * q)) := b2.mul (Bd.up (((b1.mul bq).mono (by decide : 60 + 30 ≤ 90)).add ((bp.mul bm).mono (by decide))))
  have x3 : Bd 93 (2 * up (k * n * q - p * m) (m * q)) := b2.mul (Bd.up (((b1.mul bq).mono (by decide : 60 + 30 ≤ 90)).sub ((bp.mul bm).mono (by decide))))
  have y1 : Bd 400 (2 * up (k * n) m + 1) := ((x1.mono (by decide : 62 ≤ 390)).add ((show Bd 2 1 by unfold Bd; decide).mono (by decide))).mono (by decide)
  have y2 : Bd 400 (2 * up (k * n * q + p * m) (m * q)) := x2.mono (by decide)
  have y3 : Bd 400 (2 * up (k * n * q - p * m) (m * q) + 2) := ((x3.mono (by decide : 93 ≤ 390)).add (b2.mono (by decide))).mono (by decide)
  unfold runsI
  dsimp only
  split <;> split <;> assumption
theorem sm {x : Int} {n : Nat} (h : x.natAbs < 2 ^ n) : Bd n x := h
theorem e_fw {n m p q k : Int} {s : S} (F : Fm n m p q) (k1 : 1 ≤ k) (bk : Bd 30 k) (hB : n * k ≤ 400000) :
    f__law_fewest [frD (nmN (n * k) m) (nmD (n * k) m), frD p q, frD p q, frD 1 1] s = some (.int (runsI n m p q k), s) := by
  have m0 := F.m0
  have nk : 0 < n * k := Int.mul_pos F.n0 (by omega)
  have b1 : Bd 60 (n * k) := F.bn.mul bk
  rw [e_fewest (nmN_pos nk m0) (nmD_pos m0) F.p0 F.q0 F.pq (b1.div (gcdI_pos m0) gcdI_dvd1) ((F.bm.mono (by decide)).div (gcdI_pos m0) gcdI_dvd2) F.bp F.bq ?_]
  · rw [runs_few m0 F.q0]
  · rw [up_nm m0, up_le m0]
    have : (400000 : Int) * 1 ≤ 400000 * m := Int.mul_le_mul_of_nonneg_left (by omega) (by decide)
    omega
theorem Fm.shut {n m p q : Int} (F : Fm n m p q) : Fm n m 0 1 := ⟨F.n0, F.m0, by decide, by decide, by decide, F.g1, by decide, F.bn, F.bm, by unfold Bd; decide, by unfold Bd; decide⟩
theorem k_step {n m p q k d f : Int} {tu ot up he sh du : Option Cell} {s : S} (F : Fm n m p q) (k1 : 1 ≤ k) (bk : Bd 30 k) (hB : n * k ≤ 400000) :
    ∃ up' he' sh', lb__law_right_0 (RN (cF n m) (cF p q) tu ot (cI d) (cI f) (cI k) up he sh du) s = some (.nx (RN (cF n m) (cF p q) tu ot (cI (d + runsI n m p q k - runsI n m 0 1 k)) (cI f) (cI k) up' he' sh' du), s) := by
  have m0 := F.m0
  have w1 := e_fw (s := s) F k1 bk hB
  have w2 := e_fw (s := s) F.shut k1 bk hB
  have w3 : f__law_ratio [.int (n * k), .int m] s = _ := e_lratio m0 (F.bm.mono (by decide))
  have w4 := e_runs (s := s) F k1 bk
  have w5 := e_runs (s := s) F.shut k1 bk
  have r1 := rp_int (runs_bd F.bn F.bm F.bp F.bq bk)
  have r2 := rp_int (runs_bd F.bn F.bm F.shut.bp F.shut.bq bk)
  have k2 : dMul (.int n) (.int k) = _ := mul_ok (F.bn.mono (by decide)) (bk.mono (by decide))
  generalize nmN (n * k) m = a at *
  generalize nmD (n * k) m = b at *
  generalize runsI n m p q k = x at *
  generalize runsI n m 0 1 k = y at *
  refine ⟨cF a b, cI x, cI y, ?_⟩
  have t1 : sAsg (.nm 8) (mF f__law_ratio (aCons (m2 dMul (m2 dIx (mVar 2) (mC (.int 0))) (mVar 7)) (aCons (m2 dIx (mVar 2) (mC (.int 1))) aNil))) (RN (cF n m) (cF p q) tu ot (cI d) (cI f) (cI k) up he sh du) s = some (.nx (RN (cF n m) (cF p q) tu ot (cI d) (cI f) (cI k) (cF a b) he sh du), s) := by
    simp [RN, sAsg, bnd, mF, aCons, aNil, m2, mThen, mLift, mVar, mC, dIx, atI, ixN, k2, w3]
  have t2 : sPar 9 10 (aCons (mF f__law_fewest (aCons (mVar 8) (aCons (mVar 4) (aCons (mVar 4) (aCons (mTup (aCons (mC (.int 1)) (aCons (mC (.int 1)) aNil))) aNil))))) (aCons (mF f__law_fewest (aCons (mVar 8) (aCons (mTup (aCons (mC (.int 0)) (aCons (mC (.int 1)) aNil))) (aCons (mTup (aCons (mC (.int 0)) (aCons (mC (.int 1)) aNil))) (aCons (mTup (aCons (mC (.int 1)) (aCons (mC (.int 1)) aNil))) aNil))))) aNil)) (RN (cF n m) (cF p q) tu ot (cI d) (cI f) (cI k) (cF a b) he sh du) s = some (.nx (RN (cF n m) (cF p q) tu ot (cI d) (cI f) (cI k) (cF a b) (cI x) (cI y) du), s) := by
    simp [RN, sPar, mF, aCons, aNil, mThen, mLift, mVar, mC, mTup, isDs, isD, sizeLine_eq, w1, w2]
  have t3 : sAsg (.nm 5) (m2 dSub (m2 dAdd (mVar 5) (mVar 9)) (mVar 10)) (RN (cF n m) (cF p q) tu ot (cI d) (cI f) (cI k) (cF a b) (cI x) (cI y) du) s = some (.nx (RN (cF n m) (cF p q) tu ot (cI (d + x - y)) (cI f) (cI k) (cF a b) (cI x) (cI y) du), s) := by
    simp [RN, sAsg, bnd, m2, mThen, mLift, mVar, dAdd, dSub]
  have t4 : mIf (mAnd (mB (m2 (dCmp fun i j => decide (i < j)) (mVar 7) (m2 dAdd (mVar 6) (mC (.int 3))))) (mB (m2 (dNe) (mCall bRepr (aCons (mF f_runs_by_form (aCons (mTup (aCons (mVar 2) (aCons (mVar 4) aNil))) (aCons (mVar 7) aNil))) aNil)) (mCall bRepr (aCons (mVar 9) aNil))))) (sRet (mC (.bool false))) (sNx) (RN (cF n m) (cF p q) tu ot (cI (d + x - y)) (cI f) (cI k) (cF a b) (cI x) (cI y) du) s = some (.nx (RN (cF n m) (cF p q) tu ot (cI (d + x - y)) (cI f) (cI k) (cF a b) (cI x) (cI y) du), s) := by
    by_cases h : k < f + 3
    · simp [RN, mIf, mAnd, mB, m2, mThen, mLift, mVar, mC, dCmp, dAdd, bOf, h, mCall, aCons, aNil, mF, mTup, isDs, isD, sizeLine_eq, w4, r1, ne_str, sNx]
    · simp [RN, mIf, mAnd, mB, m2, mThen, mLift, mVar, mC, dCmp, dAdd, bOf, h, qC, sNx]
  have t5 : mIf (mAnd (mB (m2 (dEq) (mVar 7) (mVar 6))) (mB (m2 (dNe) (mCall bRepr (aCons (mFK f_runs_by_form [1, 0] (aCons (mVar 7) (aCons (mTup (aCons (mVar 2) (aCons (mTup (aCons (mC (.int 0)) (aCons (mC (.int 1)) aNil))) aNil))) aNil))) aNil)) (mCall bRepr (aCons (mVar 10) aNil))))) (sRet (mC (.bool false))) (sNx) (RN (cF n m) (cF p q) tu ot (cI (d + x - y)) (cI f) (cI k) (cF a b) (cI x) (cI y) du) s = some (.nx (RN (cF n m) (cF p q) tu ot (cI (d + x - y)) (cI f) (cI k) (cF a b) (cI x) (cI y) du), s) := by
    by_cases h : k = f
    · subst h
      simp [RN, mIf, mAnd, mB, m2, mThen, mLift, mVar, mC, eq_int, bOf, mCall, aCons, aNil, mFK, reord, mTup, isDs, isD, sizeLine_eq, w5, r2, ne_str, sNx]
    · simp [RN, mIf, mAnd, mB, m2, mThen, mLift, mVar, mC, eq_int, bOf, h, qC, sNx]
  unfold lb__law_right_0
  exact (sSeq_nx t1).trans ((sSeq_nx t2).trans ((sSeq_nx t3).trans ((sSeq_nx t4).trans t5)))
theorem rgD_succ {k : Int} {j : Nat} : rgD k (j + 1) = .int k :: rgD (k + 1) j := by
  unfold rgD
  rw [List.range_succ_eq_map]
  simp only [List.map_cons, List.map_map]
  congr 1
  · simp
  · apply List.map_congr_left
    intro i _
    simp
    omega
theorem k_loop {n m p q f : Int} {tu ot du : Option Cell} {s : S} (F : Fm n m p q) (hn : n ≤ 100) : ∀ (j : Nat) (k d : Int) (c up he sh : Option Cell), 1 ≤ k → k + j ≤ 1000 →
    ∃ c' up' he' sh', forL (.nm 7) lb__law_right_0 (rgD k j) (RN (cF n m) (cF p q) tu ot (cI d) (cI f) c up he sh du) s = some (.nx (RN (cF n m) (cF p q) tu ot (cI (d + dsum n m p q j k)) (cI f) c' up' he' sh' du), s)
  | 0, k, d, c, up, he, sh, _, _ => ⟨c, up, he, sh, by
    simp [rgD, dsum, forL, sNx]⟩
  | j + 1, k, d, c, up, he, sh, h1, h2 => by
    have bk : Bd 30 k := by unfold Bd; omega
    have hB : n * k ≤ 400000 := by
      have a : n * k ≤ n * 1000 := Int.mul_le_mul_of_nonneg_left (by omega) (Int.le_of_lt F.n0)
      omega
    obtain ⟨up', he', sh', e⟩ := k_step (d := d) (f := f) (tu := tu) (ot := ot) (up := up) (he := he) (sh := sh) (du := du) (s := s) F h1 bk hB
    obtain ⟨c2, up2, he2, sh2, e2⟩ := k_loop F hn j (k + 1) (d + runsI n m p q k - runsI n m 0 1 k) (cI k) up' he' sh' (by omega) (by omega)
    refine ⟨c2, up2, he2, sh2, ?_⟩
    rw [rgD_succ]
    refine (forL_nx (ρ1 := RN (cF n m) (cF p q) tu ot (cI d) (cI f) (cI k) up he sh du) rfl e).trans (e2.trans ?_)
    have ed : d + runsI n m p q k - runsI n m 0 1 k + dsum n m p q j (k + 1) = d + dsum n m p q (j + 1) k := by
      rw [dsum]
      omega
    rw [ed]
end K55
namespace K55
open PySem PySem.Spec PyProof.Rows L2 PL
theorem bdn {x : Int} (h0 : 0 ≤ x) (h : x < 1000) : Bd 30 x := by
  unfold Bd
  omega
theorem dear_bd {m p q : Int} (bm : Bd 30 m) (bp : Bd 30 p) (bq : Bd 30 q) : Bd 61 (dearN m p q) := by
  unfold dearN
  split
  · exact Bd.up (bm.mul (bq.sub bp))
  · exact (Bd.up (bm.mul bp)).mono (by decide)
theorem ratio_fm {a b c d : Int} (a0 : 0 < a) (a1 : a < 30) (b0 : 0 < b) (b1 : b < 10) (c0 : 0 ≤ c) (cd : c ≤ d) (d0 : 0 < d) (d1 : d < 9) : Fm (nmN a b) (nmD a b) (nmN c d) (nmD c d) := by
  have h1 := nmN_le (Int.le_of_lt a0) b0
  have h2 := nmD_le (a := a) b0
  have h3 := nmN_le c0 d0
  have h4 := nmD_le (a := c) d0
  have h5 := nmN_pos a0 b0
  have h6 := nmD_pos (a := a) b0
  have h7 := nmN_nn c0 d0
  have h8 := nmD_pos (a := c) d0
  exact ⟨h5, h6, h7, h8, nm_mono d0 cd, nm_cop (Int.le_of_lt a0) b0, nm_cop c0 d0, bdn (by omega) (by omega), bdn (by omega) (by omega), bdn (by omega) (by omega), bdn (by omega) (by omega)⟩
theorem turn {c : Nat} {s : S} {sl of tu ot d f k up he sh du : Option Cell} (hs : Sk c s) (hc : c ≤ 100) :
    ∃ sl' of' tu' ot' d' f' k' up' he' sh' du' s', lb__law_right_1 (RN sl of tu ot d f k up he sh du) s = some (.nx (RN sl' of' tu' ot' d' f' k' up' he' sh' du'), s') ∧ Sk (c + 5) s' := by
  obtain ⟨i1, s1, e1, l1, u1, k1⟩ := e_draw (z := 29) hs (by omega) (by decide) (by decide)
  obtain ⟨i2, s2, e2, l2, u2, k2⟩ := e_draw (z := 9) k1 (by omega) (by decide) (by decide)
  obtain ⟨i3, s3, e3, l3, u3, k3⟩ := e_draw (z := 8) k2 (by omega) (by decide) (by decide)
  obtain ⟨i4, s4, e4, l4, u4, k4⟩ := e_draw (z := 1 + i3 + 1) k3 (by omega) (by omega) (by omega)
  obtain ⟨i5, s5, e5, l5, u5, k5⟩ := e_draw (z := 12) k4 (by omega) (by decide) (by decide)
  have F : Fm (nmN (1 + i1) (1 + i2)) (nmD (1 + i1) (1 + i2)) (nmN i4 (1 + i3)) (nmD i4 (1 + i3)) := ratio_fm (by omega) (by omega) (by omega) (by omega) l4 (by omega) (by omega) (by omega)
  have n1 : nmN (1 + i1) (1 + i2) < 30 := by have := nmN_le (a := 1 + i1) (b := 1 + i2) (by omega) (by omega); omega
  have m1' : nmD (1 + i1) (1 + i2) < 10 := by have := nmD_le (a := 1 + i1) (b := 1 + i2) (by omega); omega
  have q1 : nmD i4 (1 + i3) < 9 := by have := nmD_le (a := i4) (b := 1 + i3) (by omega); omega
  have r1 : f__law_ratio [.int (1 + i1), .int (1 + i2)] s2 = _ := e_lratio (by omega) ((bdn (by omega) (by omega)).mono (by decide))
  have r2 : f__law_ratio [.int i4, .int (1 + i3)] s4 = _ := e_lratio (by omega) ((bdn (by omega) (by omega)).mono (by decide))
  generalize nmN (1 + i1) (1 + i2) = n at *
  generalize nmD (1 + i1) (1 + i2) = m at *
  generalize nmN i4 (1 + i3) = p at *
  generalize nmD i4 (1 + i3) = q at *
  have ds := dear_sum (f := 1 + i5) F.n0 n1 F.m0 m1' F.p0 F.pq F.q0 q1 F.g1 F.g2 (by omega)
  obtain ⟨c7, c8, c9, c10, e6⟩ := k_loop (f := 1 + i5) (tu := tu) (ot := cI (1 + i3)) (du := du) (s := s5) F (by omega) m.toNat (1 + i5) 0 k up he sh (by omega) (by have := F.m0; omega)
  rw [ds, Int.zero_add] at e6
  have db := dear_bd F.bm F.bp F.bq
  have e7 := e_dear (s := s5) F
  have r3 : f__law_ratio [.int (dearN m p q), .int m] s5 = _ := e_lratio F.m0 (F.bm.mono (by decide))
  have rp := rp_fr (x := nmN (dearN m p q) m) (y := nmD (dearN m p q) m) ((db.div (gcdI_pos F.m0) gcdI_dvd1).mono (by decide)) ((F.bm.div (gcdI_pos F.m0) gcdI_dvd2).mono (by decide))
  generalize frD (nmN (dearN m p q) m) (nmD (dearN m p q) m) = X at *
  refine ⟨cF n m, cF p q, tu, cI (1 + i3), cI (dearN m p q), cI (1 + i5), c7, c8, c9, c10, some (.fz (.str X.shown)), s5, ?_, k5⟩
  have t1 : sAsg (.nm 2) (mF f__law_ratio (aCons (m2 dAdd (mC (.int 1)) (mF f__law_draw (aCons (mVar 0) (aCons (mC (.int 29)) aNil)))) (aCons (m2 dAdd (mC (.int 1)) (mF f__law_draw (aCons (mVar 0) (aCons (mC (.int 9)) aNil)))) aNil))) (RN sl of tu ot d f k up he sh du) s = some (.nx (RN (cF n m) of tu ot d f k up he sh du), s2) := by
    simp [RN, sAsg, bnd, mF, aCons, aNil, m2, mThen, mLift, mVar, mC, dAdd, e1, e2, r1]
  have t2 : sAsg (.nm 3) (m2 dAdd (mC (.int 1)) (mF f__law_draw (aCons (mVar 0) (aCons (mC (.int 8)) aNil)))) (RN (cF n m) of tu ot d f k up he sh du) s2 = some (.nx (RN (cF n m) of tu (cI (1 + i3)) d f k up he sh du), s3) := by
    simp [RN, sAsg, bnd, mF, aCons, aNil, m2, mThen, mLift, mVar, mC, dAdd, e3]
  have t3 : sPar3 4 5 6 (aCons (mF f__law_ratio (aCons (mF f__law_draw (aCons (mVar 0) (aCons (m2 dAdd (mVar 3) (mC (.int 1))) aNil))) (aCons (mVar 3) aNil))) (aCons (mC (.int 0)) (aCons (m2 dAdd (mC (.int 1)) (mF f__law_draw (aCons (mVar 0) (aCons (mC (.int 12)) aNil)))) aNil))) (RN (cF n m) of tu (cI (1 + i3)) d f k up he sh du) s3 = some (.nx (RN (cF n m) (cF p q) tu (cI (1 + i3)) (cI 0) (cI (1 + i5)) k up he sh du), s5) := by
    simp [RN, sPar3, mF, aCons, aNil, m2, mThen, mLift, mVar, mC, dAdd, e4, e5, r2]
  have et : (1 + i5 + m - (1 + i5)).toNat = m.toNat := by congr 1; omega
  have g1 : okRg (1 + i5) = true := by
    unfold okRg
    rw [Bool.and_eq_true]
    exact ⟨decide_eq_true (by omega), decide_eq_true (by omega)⟩
  have g2 : okRg (1 + i5 + m) = true := by
    unfold okRg
    rw [Bool.and_eq_true]
    have := F.m0
    exact ⟨decide_eq_true (by omega), decide_eq_true (by omega)⟩
  have t4 : sFor (mA rg2 (aCons (mVar 6) (aCons (m2 dAdd (mVar 6) (m2 dIx (mVar 2) (mC (.int 1)))) aNil))) (.nm 7) lb__law_right_0 (RN (cF n m) (cF p q) tu (cI (1 + i3)) (cI 0) (cI (1 + i5)) k up he sh du) s5 = _ := (sFor_at (by
    simp only [RN, mA, aCons, aNil, m2, mThen, mLift, mVar, mC, dAdd, dIx, atI, ixN]
    simp [rg2, g1, g2, et])).trans e6
  have t5 : sAsg (.nm 11) (mCall bRepr (aCons (mF f__law_ratio (aCons (mVar 5) (aCons (m2 dIx (mVar 2) (mC (.int 1))) aNil))) aNil)) (RN (cF n m) (cF p q) tu (cI (1 + i3)) (cI (dearN m p q)) (cI (1 + i5)) c7 c8 c9 c10 du) s5 = some (.nx (RN (cF n m) (cF p q) tu (cI (1 + i3)) (cI (dearN m p q)) (cI (1 + i5)) c7 c8 c9 c10 (some (.fz (.str X.shown)))), s5) := by
    simp [RN, sAsg, bnd, mCall, mF, aCons, aNil, m2, mThen, mLift, mVar, mC, dIx, atI, ixN, r3, rp]
  have t6 : mIf (mOr (mB (m2 (dNe) (mCall bRepr (aCons (mF f_dear_share (aCons (mTup (aCons (mVar 2) (aCons (mVar 4) aNil))) aNil)) aNil)) (mVar 11))) (mB (m2 (dNe) (mCall bRepr (aCons (mFK f_dear_share [0] (aCons (mTup (aCons (mVar 2) (aCons (mVar 4) aNil))) aNil)) aNil)) (mVar 11)))) (sRet (mC (.bool false))) (sNx) (RN (cF n m) (cF p q) tu (cI (1 + i3)) (cI (dearN m p q)) (cI (1 + i5)) c7 c8 c9 c10 (some (.fz (.str X.shown)))) s5 = some (.nx (RN (cF n m) (cF p q) tu (cI (1 + i3)) (cI (dearN m p q)) (cI (1 + i5)) c7 c8 c9 c10 (some (.fz (.str X.shown)))), s5) := by
    simp [RN, mIf, mOr, mB, m2, mThen, mLift, mVar, mC, bOf, mCall, aCons, aNil, mF, mFK, reord, mTup, isDs, isD, sizeLine_eq, e7, rp, ne_str, sNx]
  unfold lb__law_right_1
  exact (sSeq_nx t1).trans ((sSeq_nx t2).trans ((sSeq_nx t3).trans ((sSeq_nx t4).trans ((sSeq_nx t5).trans t6))))
theorem e_right {s : S} (hs : Sk 0 s) : ∃ s', f__law_right [SACK] s = some (.bool true, s') := by
  obtain ⟨a1, a2, a3, a4, a5, a6, a7, a8, a9, a10, a11, s1, h1, k1⟩ := turn (sl := none) (of := none) (tu := cI 0) (ot := none) (d := none) (f := none) (k := none) (up := none) (he := none) (sh := none) (du := none) hs (by decide)
  obtain ⟨b1, b2, b3, b4, b5, b6, b7, b8, b9, b10, b11, s2, h2, k2⟩ := turn (sl := a1) (of := a2) (tu := cI 1) (ot := a4) (d := a5) (f := a6) (k := a7) (up := a8) (he := a9) (sh := a10) (du := a11) k1 (by decide)
  obtain ⟨c1, c2, c3, c4, c5, c6, c7, c8, c9, c10, c11, s3, h3, k3⟩ := turn (sl := b1) (of := b2) (tu := cI 2) (ot := b4) (d := b5) (f := b6) (k := b7) (up := b8) (he := b9) (sh := b10) (du := b11) k2 (by decide)
  refine ⟨s3, fnM_rt rfl ?_⟩
  have e : forL (.nm 1) lb__law_right_1 (rgD 0 3) (RN none none none none none none none none none none none) s = some (.nx (RN c1 c2 c3 c4 c5 c6 c7 c8 c9 c10 c11), s3) := by
    have r : rgD 0 3 = [.int 0, .int 1, .int 2] := rfl
    rw [r]
    exact (forL_nx (ρ1 := RN none none (cI 0) none none none none none none none none) rfl h1).trans ((forL_nx (ρ1 := RN a1 a2 (cI 1) a4 a5 a6 a7 a8 a9 a10 a11) rfl h2).trans ((forL_nx (ρ1 := RN b1 b2 (cI 2) b4 b5 b6 b7 b8 b9 b10 b11) rfl h3).trans rfl))
  have t1 : sFor (mA rg1 (aCons (mC (.int 3)) aNil)) (.nm 1) lb__law_right_1 (startE 12 [SACK]) s = _ := (sFor_at (by
    simp only [mA, aCons, aNil, mThen, mLift, mC]
    rfl)).trans e
  exact (sSeq_nx t1).trans rfl
end K55
namespace K55
open PySem PySem.Spec PyProof.Rows L2 PL
def nsD (ns : List Int) : List D := ns.map PyData.int
theorem fnL_rl {n N : Nat} {body : M Out} {ds : List D} {s s' : S} {es : List D} (hl : ds.length = n) (h : body (startE N ds) s = some (.rl es, s')) : fnL n N body ds s = some (es, s') := by
  unfold fnL
  rw [if_pos hl, h]
theorem nsD_at {ns : List Int} {i : Int} (h0 : 0 ≤ i) (h1 : i < ns.length) : ∃ c, atI (nsD ns) i = some (.int c) := by
  unfold atI ixN nsD
  have hl : i.toNat < ns.length := by omega
  refine ⟨ns[i.toNat], ?_⟩
  simp [h0, h1, hl]
theorem nsD_cut (ns : List Int) : ∃ ms : List Int, cutD (nsD ns) none (some 7) = nsD ms ∧ ms.length ≤ ns.length := by
  refine ⟨(ns.drop (HT.sIx (nsD ns).length 0 none)).take (HT.sIx (nsD ns).length (nsD ns).length (some 7) - HT.sIx (nsD ns).length 0 none), ?_, ?_⟩
  · unfold PL.cutD nsD
    rw [List.map_take, List.map_drop]
  · rw [List.length_take, List.length_drop]
    omega
def LN (sc : D) (tu ce st ea : Option Cell) : PL.Env := [some (.fz sc), tu, ce, st, ea]
theorem stir_step {sc : D} {tu ce : Option Cell} {b x : Int} {s : S} (b0 : 0 ≤ b) (b1 : b < 2147483543) : ∃ b', 0 ≤ b' ∧ b' < 2147483543 ∧ lb__law_sack_0 (LN sc tu ce (cI b) (cI x)) s = some (.nx (LN sc tu ce (cI b') (cI x)), s) := by
  have b69 : Bd 31 69069 := by unfold Bd; decide
  have m1' : dMul (.int b) (.int 69069) = _ := mul_ok ((bd31 b0 (by omega)).mono (by decide)) (b69.mono (by decide))
  have d1 : dMod (.int x) (.int 2147483543) = _ := mod_ok (by decide)
  have d2 : dMod (.int (b * 69069 + x % 2147483543 + 13)) (.int 2147483543) = _ := mod_ok (by decide)
  refine ⟨(b * 69069 + x % 2147483543 + 13) % 2147483543, Int.emod_nonneg _ (by decide), Int.emod_lt_of_pos _ (by decide), ?_⟩
  simp [lb__law_sack_0, LN, sAsg, bnd, m2, mThen, mLift, mVar, mC, mCall, aCons, aNil, bInt, dAdd, m1', d1, d2]
theorem stir_loop {sc : D} {tu ce : Option Cell} {s : S} : ∀ (ms : List Int) (ea : Option Cell) (b : Int), 0 ≤ b → b < 2147483543 → ∃ b' ea', 0 ≤ b' ∧ b' < 2147483543 ∧ forL (.nm 4) lb__law_sack_0 (nsD ms) (LN sc tu ce (cI b) ea) s = some (.nx (LN sc tu ce (cI b') ea'), s)
  | [], ea, b, h0, h1 => ⟨b, ea, h0, h1, rfl⟩
  | x :: ms, ea, b, h0, h1 => by
    obtain ⟨b1, g0, g1, e⟩ := stir_step (sc := sc) (tu := tu) (ce := ce) (x := x) (s := s) h0 h1
    obtain ⟨b2, ea', k0, k1, e2⟩ := stir_loop ms (cI x) b1 g0 g1
    exact ⟨b2, ea', k0, k1, (forL_nx (ρ1 := LN sc tu ce (cI b) (cI x)) rfl e).trans e2⟩
theorem e_sack {ns : List Int} {i : Int} {s : S} (hl : ns.length ≤ 63) (h0 : 0 ≤ i) (h1 : i ≤ 2) : ∃ a b, 0 ≤ a ∧ 0 ≤ b ∧ b < 2147483543 ∧ f__law_sack [.list (nsD ns), .int i] s = some ([.int a, .int b, .int 0], s) := by
  have bi : Bd 30 i := bdn h0 (by omega)
  obtain ⟨c, hc⟩ : ∃ c, mIf (mB (m2 (dCmp fun i j => decide (i < j)) (mVar 1) (mCall bLen (aCons (mVar 0) aNil)))) (mCall bInt (aCons (m2 dIx (mVar 0) (mVar 1)) aNil)) (m2 dAdd (m2 dMul (mC (.int 7919)) (mVar 1)) (mC (.int 101))) (LN (.list (nsD ns)) (cI i) none none none) s = some (.int c, s) := by
    by_cases h : i < (nsD ns).length
    · obtain ⟨c, e⟩ := nsD_at (ns := ns) h0 (by simpa [nsD] using h)
      refine ⟨c, ?_⟩
      simp [LN, mIf, mB, m2, mThen, mLift, mVar, mCall, aCons, aNil, bLen, dCmp, bOf, h, dIx, e, bInt]
    · have k : dMul (.int 7919) (.int i) = _ := mul_ok ((show Bd 30 7919 by unfold Bd; decide).mono (by decide)) (bi.mono (by decide))
      refine ⟨7919 * i + 101, ?_⟩
      simp [LN, mIf, mB, m2, mThen, mLift, mVar, mC, mCall, aCons, aNil, bLen, dCmp, bOf, h, k, dAdd]
  have t1 : sAsg (.nm 2) (mIf (mB (m2 (dCmp fun i j => decide (i < j)) (mVar 1) (mCall bLen (aCons (mVar 0) aNil)))) (mCall bInt (aCons (m2 dIx (mVar 0) (mVar 1)) aNil)) (m2 dAdd (m2 dMul (mC (.int 7919)) (mVar 1)) (mC (.int 101)))) (LN (.list (nsD ns)) (cI i) none none none) s = some (.nx (LN (.list (nsD ns)) (cI i) (cI c) none none), s) := by
    unfold sAsg
    rw [hc]
    rfl
  have k2 : dMul (.int 1709) (.int i) = _ := mul_ok ((show Bd 30 1709 by unfold Bd; decide).mono (by decide)) (bi.mono (by decide))
  have t2 : sAsg (.nm 3) (m2 dAdd (mC (.int 30011)) (m2 dMul (mC (.int 1709)) (mVar 1))) (LN (.list (nsD ns)) (cI i) (cI c) none none) s = some (.nx (LN (.list (nsD ns)) (cI i) (cI c) (cI (30011 + 1709 * i)) none), s) := by
    simp [LN, sAsg, bnd, m2, mThen, mLift, mVar, mC, k2, dAdd]
  obtain ⟨ms, hm, lm⟩ := nsD_cut ns
  obtain ⟨b, ea, b0, b1, e⟩ := stir_loop (sc := .list (nsD ns)) (tu := cI i) (ce := cI c) (s := s) (ms ++ [c]) none (30011 + 1709 * i) (by omega) (by omega)
  have el : nsD (ms ++ [c]) = nsD ms ++ [.int c] := by simp [nsD]
  have hz : (nsD ms).length + 1 ≤ sizeLine := by
    rw [sizeLine_eq]
    simp [nsD]
    omega
  have t3 : sFor (mIt (m2 dAdd (mCall bList (aCons (mSl (mVar 0) oNo (oSome (mC (.int 7)))) aNil)) (mL (mLst (aCons (mVar 2) aNil))))) (.nm 4) lb__law_sack_0 (LN (.list (nsD ns)) (cI i) (cI c) (cI (30011 + 1709 * i)) none) s = _ := (sFor_at (by
    rw [el]
    have z1 : (1 : Nat) ≤ sizeLine := by rw [sizeLine_eq]; omega
    simp [LN, mIt, m2, mThen, mLift, mVar, mC, mCall, aCons, aNil, mSl, oNo, oSome, dSl, hm, bList, mL, mLst, isDs, isD, z1, dAdd, hz, itOf])).trans e
  have p18 : dPow (.int 10) (.int 18) = some (.int 1000000000000000000) := by
    simp [dPow]
  obtain ⟨a, ha, t4⟩ : ∃ a, 0 ≤ a ∧ sRetL (mLst (aCons (mIf (mOr (mB (m2 (dCmp fun i j => decide (i < j)) (mVar 2) (mC (.int 0)))) (mB (m2 (dCmp fun i j => decide (j ≤ i)) (mVar 2) (m2 dPow (mC (.int 10)) (mC (.int 18)))))) (mCall bAbs (aCons (mVar 2) aNil)) (mC (.int 0))) (aCons (mVar 3) (aCons (mC (.int 0)) aNil)))) (LN (.list (nsD ns)) (cI i) (cI c) (cI b) ea) s = some (.rl [.int a, .int b, .int 0], s) := by
    have z3 : (3 : Nat) ≤ sizeLine := by rw [sizeLine_eq]; omega
    by_cases h : c < 0
    · refine ⟨-c, by omega, ?_⟩
      simp [LN, sRetL, mLst, aCons, aNil, mIf, mOr, mB, m2, mThen, mLift, mVar, mC, dCmp, bOf, h, qC, mCall, bAbs, isDs, isD, z3]
    · by_cases h2 : 1000000000000000000 ≤ c
      · refine ⟨c, by omega, ?_⟩
        simp [LN, sRetL, mLst, aCons, aNil, mIf, mOr, mB, m2, mThen, mLift, mVar, mC, dCmp, bOf, h, h2, p18, qC, mCall, bAbs, isDs, isD, z3]
      · refine ⟨0, by omega, ?_⟩
        simp [LN, sRetL, mLst, aCons, aNil, mIf, mOr, mB, m2, mThen, mLift, mVar, mC, dCmp, bOf, h, h2, p18, qC, mCall, bAbs, isDs, isD, z3]
  exact ⟨a, b, ha, b0, b1, fnL_rl rfl ((sSeq_nx t1).trans ((sSeq_nx t2).trans ((sSeq_nx t3).trans t4)))⟩
theorem law_lc {ns : List Int} (hl : ns.length ≤ 63) : ∀ (xs : List D), (∀ x ∈ xs, ∃ i : Int, x = .int i ∧ 0 ≤ i ∧ i ≤ 2) → ∃ bs : List Bool, lcGo (.nm 1) (qC true) (mSack f__law_right (mFL f__law_sack (aCons (mVar 0) (aCons (mVar 1) aNil)))) [some (.fz (.list (nsD ns))), none] xs [] = some (bs.map PyData.bool, []) ∧ bs.all id = true
  | [], _ => ⟨[], rfl, rfl⟩
  | x :: xs, h => by
    obtain ⟨i, rfl, i0, i1⟩ := h _ List.mem_cons_self
    obtain ⟨bs, e, t⟩ := law_lc hl xs fun x hx => h x (List.mem_cons_of_mem _ hx)
    obtain ⟨a, b, a0, b0, b1, e2⟩ := e_sack (ns := ns) (i := i) (s := []) hl i0 i1
    obtain ⟨s3, e3⟩ := e_right (s := [.int a, .int b, .int 0]) ⟨a, b, 0, rfl, a0, b0, b1, by decide, by decide⟩
    refine ⟨true :: bs, ?_, by simpa using t⟩
    have e4 : mSack f__law_right (mFL f__law_sack (aCons (mVar 0) (aCons (mVar 1) aNil))) [some (.fz (.list (nsD ns))), some (.fz (.int i))] [] = some (.bool true, []) := by
      simp [mSack, mFL, aCons, aNil, mThen, mLift, mVar, e2, e3, isD]
    generalize mSack f__law_right (mFL f__law_sack (aCons (mVar 0) (aCons (mVar 1) aNil))) = L at e e4 ⊢
    simp [lcGo, bnd, qC, e4, isD, e]
theorem bools_at : ∀ bs : List Bool, boolsOf (bs.map PyData.bool) = some bs
  | [] => rfl
  | b :: bs => by
    show (boolsOf (bs.map PyData.bool)).map (b :: ·) = _
    rw [bools_at bs]
    rfl
theorem law_true : ∀ ns : List Int, ns.length ≤ 63 → (∀ z ∈ ns, Builtin.Int.intBits z ≤ 1048576) → ∃ s', f_law [.list (ns.map PyData.int)] [] = some (.bool true, s') := fun ns hl _ => by
  refine ⟨[], ?_⟩
  obtain ⟨j, hj0, hj, hx⟩ : ∃ j : Int, 0 ≤ j ∧ j ≤ 3 ∧ (mA rg1 (aCons (mCall bMax (aCons (mC (.int 2)) (aCons (mCall bMin (aCons (mCall bLen (aCons (mVar 0) aNil)) (aCons (mC (.int 3)) aNil))) aNil))) aNil)) [some (.fz (.list (nsD ns))), none] [] = some (rgD 0 j.toNat, []) := by
    generalize hn : ((nsD ns).length : Int) = n
    have n0 : 0 ≤ n := by omega
    refine ⟨if (if 3 < n then 3 else n) > 2 then (if 3 < n then 3 else n) else 2, by split <;> split <;> omega, by split <;> split <;> omega, ?_⟩
    have ok : ∀ z : Int, 0 ≤ z → z ≤ 3 → okRg z = true := fun z h1 h2 => by
      unfold okRg
      rw [Bool.and_eq_true]
      exact ⟨decide_eq_true (by omega), decide_eq_true (by omega)⟩
    have o1 := ok (if (if 3 < n then 3 else n) > 2 then (if 3 < n then 3 else n) else 2) (by split <;> split <;> omega) (by split <;> split <;> omega)
    simp [mA, aCons, aNil, mThen, mLift, mVar, mC, mCall, bLen, hn, bMin, bMax]
    unfold rg1
    simp at o1
    simp [o1]
  obtain ⟨bs, e, t⟩ := law_lc hl (rgD 0 j.toNat) fun x hx => by
    unfold rgD at hx
    rw [List.mem_map] at hx
    obtain ⟨i, hi, rfl⟩ := hx
    rw [List.mem_range] at hi
    exact ⟨_, rfl, by omega, by omega⟩
  have hz : (rgD 0 j.toNat).length ≤ sizeLine := by
    rw [sizeLine_eq]
    simp [rgD]
    omega
  refine fnM_rt rfl ?_
  show g_law [some (.fz (.list (nsD ns))), none] [] = _
  unfold g_law
  have e4 : mLc (mA rg1 (aCons (mCall bMax (aCons (mC (.int 2)) (aCons (mCall bMin (aCons (mCall bLen (aCons (mVar 0) aNil)) (aCons (mC (.int 3)) aNil))) aNil))) aNil)) [1] (.nm 1) (qC true) (mSack f__law_right (mFL f__law_sack (aCons (mVar 0) (aCons (mVar 1) aNil)))) [some (.fz (.list (nsD ns))), none] [] = some (bs.map PyData.bool, []) := by
    unfold mLc
    rw [hx]
    show (if (rgD 0 j.toNat).length ≤ sizeLine then _ else _) = _
    rw [if_pos hz]
    exact e
  generalize mLc (mA rg1 (aCons (mCall bMax (aCons (mC (.int 2)) (aCons (mCall bMin (aCons (mCall bLen (aCons (mVar 0) aNil)) (aCons (mC (.int 3)) aNil))) aNil))) aNil)) [1] (.nm 1) (qC true) (mSack f__law_right (mFL f__law_sack (aCons (mVar 0) (aCons (mVar 1) aNil)))) = L at e4 ⊢
  simp [sRet, mCall, aCons, aNil, mThen, mLift, mL, e4, bAll, bools_at]
  simpa using t
end K55
namespace K55
open PySem PySem.Spec PyProof.Rows L2 PL
section
variable {P : Program} {w : World} {K : PySem.W.Frag} {h : Heap} {mg : Str → Option Value}
theorem rowD (X : K.In h) (G : h.Ns mainGlobals mg) (c : He.SaysD fa fn K) : ∀ (i : Nat) (x : Str), nmOf i = some x → ∃ fd, FnP K x (top i) (He.ga K x) fd ∧ mg x = some (.ref (He.ga K x)) := by
  intro i x hi
  unfold nmOf at hi
  split at hi
  · cases hi
    obtain ⟨fd, F⟩ := c.def_ 0 (d := dDef 8 "is_whole") rfl
    exact ⟨fd, F, He.glo_ok X G (c.fact 0 (f := .glo "is_whole") rfl)⟩
  · cases hi
    obtain ⟨fd, F⟩ := c.def_ 1 (d := dDef 9 "are_whole") rfl
    exact ⟨fd, F, He.glo_ok X G (c.fact 1 (f := .glo "are_whole") rfl)⟩
  · cases hi
    obtain ⟨fd, F⟩ := c.def_ 2 (d := dDef 10 "ratio") rfl
    exact ⟨fd, F, He.glo_ok X G (c.fact 2 (f := .glo "ratio") rfl)⟩
  · cases hi
    obtain ⟨fd, F⟩ := c.def_ 3 (d := dDef 11 "ratio_sum") rfl
    exact ⟨fd, F, He.glo_ok X G (c.fact 3 (f := .glo "ratio_sum") rfl)⟩
  · cases hi
    obtain ⟨fd, F⟩ := c.def_ 4 (d := dDef 12 "ratio_gap") rfl
    exact ⟨fd, F, He.glo_ok X G (c.fact 4 (f := .glo "ratio_gap") rfl)⟩
  · cases hi
    obtain ⟨fd, F⟩ := c.def_ 5 (d := dDef 13 "rounded_up") rfl
    exact ⟨fd, F, He.glo_ok X G (c.fact 5 (f := .glo "rounded_up") rfl)⟩
  · cases hi
    obtain ⟨fd, F⟩ := c.def_ 6 (d := dDef 14 "is_less") rfl
    exact ⟨fd, F, He.glo_ok X G (c.fact 6 (f := .glo "is_less") rfl)⟩
  · cases hi
    obtain ⟨fd, F⟩ := c.def_ 7 (d := dDef 15 "lesser") rfl
    exact ⟨fd, F, He.glo_ok X G (c.fact 7 (f := .glo "lesser") rfl)⟩
  · cases hi
    obtain ⟨fd, F⟩ := c.def_ 8 (d := dDef 17 "is_fraction") rfl
    exact ⟨fd, F, He.glo_ok X G (c.fact 8 (f := .glo "is_fraction") rfl)⟩
  · cases hi
    obtain ⟨fd, F⟩ := c.def_ 9 (d := dDef 19 "need_form") rfl
    exact ⟨fd, F, He.glo_ok X G (c.fact 9 (f := .glo "need_form") rfl)⟩
  · cases hi
    obtain ⟨fd, F⟩ := c.def_ 10 (d := dDef 20 "is_form") rfl
    exact ⟨fd, F, He.glo_ok X G (c.fact 10 (f := .glo "is_form") rfl)⟩
  · cases hi
    obtain ⟨fd, F⟩ := c.def_ 11 (d := dDef 21 "runs_by_form") rfl
    exact ⟨fd, F, He.glo_ok X G (c.fact 11 (f := .glo "runs_by_form") rfl)⟩
  · cases hi
    obtain ⟨fd, F⟩ := c.def_ 12 (d := dDef 22 "dear_share") rfl
    exact ⟨fd, F, He.glo_ok X G (c.fact 12 (f := .glo "dear_share") rfl)⟩
  · cases hi
    obtain ⟨fd, F⟩ := c.def_ 13 (d := dDef 24 "_law_sack") rfl
    exact ⟨fd, F, He.glo_ok X G (c.fact 13 (f := .glo "_law_sack") rfl)⟩
  · cases hi
    obtain ⟨fd, F⟩ := c.def_ 14 (d := dDef 25 "_law_draw") rfl
    exact ⟨fd, F, He.glo_ok X G (c.fact 14 (f := .glo "_law_draw") rfl)⟩
  · cases hi
    obtain ⟨fd, F⟩ := c.def_ 15 (d := dDef 26 "_law_gcd") rfl
    exact ⟨fd, F, He.glo_ok X G (c.fact 15 (f := .glo "_law_gcd") rfl)⟩
  · cases hi
    obtain ⟨fd, F⟩ := c.def_ 16 (d := dDef 27 "_law_ratio") rfl
    exact ⟨fd, F, He.glo_ok X G (c.fact 16 (f := .glo "_law_ratio") rfl)⟩
  · cases hi
    obtain ⟨fd, F⟩ := c.def_ 17 (d := dDef 28 "_law_fewest") rfl
    exact ⟨fd, F, He.glo_ok X G (c.fact 17 (f := .glo "_law_fewest") rfl)⟩
  · cases hi
    obtain ⟨fd, F⟩ := c.def_ 18 (d := dDef 29 "_law_right") rfl
    exact ⟨fd, F, He.glo_ok X G (c.fact 18 (f := .glo "_law_right") rfl)⟩
  · cases hi
    obtain ⟨fd, F⟩ := c.def_ 19 (d := dDef 30 "law") rfl
    exact ⟨fd, F, He.glo_ok X G (c.fact 19 (f := .glo "law") rfl)⟩
  · cases hi
def adA (K : PySem.W.Frag) (i : Nat) : Addr := He.ga K ((nmOf i).getD Str.empty)
theorem pgFacts (X : K.In h) (G : h.Ns mainGlobals mg) (c : He.SaysD fa fn K) : ∃ Dd : Nat → FuncData, Pg K mg (adA K) Dd := by
  obtain ⟨fd0, _⟩ := c.def_ 0 (d := dDef 8 "is_whole") rfl
  have p : ∀ i : Nat, ∃ fd, ∀ x, nmOf i = some x → FnP K x (top i) (He.ga K x) fd ∧ mg x = some (.ref (He.ga K x)) := fun i => by
    cases q : nmOf i with
    | none => exact ⟨fd0, fun x z => nomatch z⟩
    | some y =>
      obtain ⟨fd, k⟩ := rowD X G c i y q
      exact ⟨fd, fun x z => by cases z; exact k⟩
  obtain ⟨Dd, hD⟩ := Classical.axiomOfChoice p
  refine ⟨Dd, ⟨fun i x e => ?_⟩⟩
  have z := hD i x e
  unfold adA
  rw [e]
  exact z
theorem nmFacts (X : K.In h) (G : h.Ns mainGlobals mg) (hx0 : ex K = true) (c : He.SaysD fa fn K) : Nm K mg := by
  have hx : ∀ b ∈ exs K, b = true := fun b hb => by
    have := List.all_eq_true.mp hx0 b hb
    exact this
  exact ⟨He.free_ok X G (c.fact 20 (f := .free "abs") rfl), He.free_ok X G (c.fact 21 (f := .free "all") rfl), He.free_ok X G (c.fact 22 (f := .free "bool") rfl), He.free_ok X G (c.fact 23 (f := .free "divmod") rfl), He.free_ok X G (c.fact 24 (f := .free "int") rfl), He.free_ok X G (c.fact 25 (f := .free "isinstance") rfl), He.free_ok X G (c.fact 26 (f := .free "len") rfl), He.free_ok X G (c.fact 27 (f := .free "list") rfl), He.free_ok X G (c.fact 28 (f := .free "max") rfl), He.free_ok X G (c.fact 29 (f := .free "min") rfl), He.free_ok X G (c.fact 30 (f := .free "range") rfl), He.free_ok X G (c.fact 31 (f := .free "repr") rfl), He.free_ok X G (c.fact 32 (f := .free "tuple") rfl), PySem.W.mg_of X G (He.eqO_ok (hx _ (List.mem_of_getElem? (i := 0) rfl))), cst_ok X G (hx _ (List.mem_of_getElem? (i := 1) rfl)), cst_ok X G (hx _ (List.mem_of_getElem? (i := 2) rfl))⟩
theorem lawFacts (X : K.In h) (G : h.Ns mainGlobals mg) {f : Addr} (hfa : mg "law" = some (.ref f)) (hx : ex K = true) (c : He.SaysD fa fn K) :
    ∃ fd : FuncData, (∀ (s : Shared) (v : Value), BindsTo s fd ⟨[v], []⟩ [("_law_script", v)]) ∧ ∀ base : Heap, K.In base → base.Ns mainGlobals mg → FnG P w K mg base CX0 8 f fd ["_law_script"] (spF K f_law) := by
  obtain ⟨Dd, T⟩ := pgFacts X G c
  have N := nmFacts X G hx c
  have e := hfa.symm.trans (T.fn 30 "law" rfl).2
  cases e
  have b := FunD.bindsA (ps := ["_law_script"]) (T.fn 30 "law" rfl).1 fun _ _ _ _ _ _ us hl => match us, hl with | [_], _ => rfl
  exact ⟨Dd 30, fun s v => b s [v] rfl, fun base _ _ => ok_law T N⟩
end
end K55
open PySem PySem.W PySem.Calls PyProof.Rows
theorem PySem.Challenge.cw_windfigure_k55_whole_dear_shares_counted_holds : PySem.Challenge.rw_windfigure_k55_whole_dear_shares_counted.Holds := by
  w_on; o_law
  refine HandSHeadRun.head_imp (r := OpenLaw.row PySem.Challenge.rw_windfigure_k55_whole_dear_shares_counted) (q := view (OpenLaw.row PySem.Challenge.rw_windfigure_k55_whole_dear_shares_counted).prog [0, 30]) (H := K1.hookQ K55.fa K55.fn K55.ex) (ob := K55.ob) (M := 8000) (loose := K55.loose) (d := HandSHeadRun.topDef (OpenLaw.row PySem.Challenge.rw_windfigure_k55_whole_dear_shares_counted).prog 30) (kwd := []) K55.ob_eq K55.run
    (by kernel_rfl) (by kernel_rfl) (by kernel_rfl) (by rfl) (by first | assumption | decide +kernel) (by decide +kernel) ⟨rfl, rfl, rfl, rfl, rfl, by decide +kernel⟩ ?hw ?hc
  case hw => w_witness2
  case hc =>
    refine PL.walkG (l := PySem.Challenge.rw_windfigure_k55_whole_dear_shares_counted) (n := 63) (k := 8) (x := "_law_script") rfl (by decide) (by kernel_rfl) ⟨rfl, by decide, by decide⟩ ?F
    intro w mg fa h Y G hmg0
    obtain ⟨K, KX, hx, c⟩ := Y
    have hmg : mg ("law" : PySem.Str) = some (.ref fa) := by
      have e : (HandSHeadRun.topDef (OpenLaw.row PySem.Challenge.rw_windfigure_k55_whole_dear_shares_counted).prog 30).name = ("law" : PySem.Str) := by kernel_rfl
      rw [← e]
      exact hmg0
    obtain ⟨fd, hb, hF⟩ := K55.lawFacts (P := (PySem.Challenge.rw_windfigure_k55_whole_dear_shares_counted).prog) (w := w) KX G hmg hx c
    exact ⟨K, fd, PL.spF K K55.f_law, KX, hb, fun H a ns hl hz _ hS => PL.spF_law K55.law_true H a ns hl hz hS, hF⟩
