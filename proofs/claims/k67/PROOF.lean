import PyProof.Rows.All
import Wide.All
import OpenK.AllK
import Wide.FinOn
import HandS.ForMost
import HandS.Wide
import HandS.IsInst
import HandS.Defaults
import HandS.Flow
import HandS.TupLe
import HandS.OwnEq
import HandS.More
import HandS.Small
import HandS.EndBits
import HandS.RaiseMore
import HandS.Walk
import HandS.Conv
import HandS.Codes
import HandS.StrMore
import HandS.TupMul
import HandS.TupAny
import HandS.TupSets
import HandS.Strs
import HandS.Set
import HandS.SetKeys
import KE.SortData
import KE.DataMinMax
import HandS.Lambda
import HandS.EndTab
import HandS.NestedK
import HandS.Style
import KE.KNestM
import KE.SortKeyHeap
import PyProof.ReprRoads
import PyProof.WalksMore
import PyProof.ReprLen
import PyProof.Draws
import HandS.CallSlots
import KE.KTryMore
import HandS.ForExc
import HandS.ExcField
import HandS.ExcInit
import HandS.ExcOwn
import HandS.ExcIs
import KE.KExcIs
import PyProof.ExcBaseAll.LookupError
import PyProof.ExcBaseAll.RuntimeError
import PyProof.ExcBaseAll.IndexError
import PyProof.ExcBaseAll.ValueError
import PySem.Challenge.RW_stampedwait_k67_histories_looked_at
import HandS.Evl
set_option Elab.async false
set_option linter.all false
set_option maxRecDepth 100000
set_option maxHeartbeats 4000000

section
open PySem PySem.Spec PyProof.Rows L2
/-- the promise of a def that is only called where no object is being shown -/
structure FnG (P : Program) (w : World) (K : PySem.W.Frag) (mg : Str → Option Value) (base : Heap) (k : Nat) (f : Addr) (fd : FuncData) (ps : List Str) (sp : Sp) : Prop where
  size : ∀ vs H Q E, sp vs H Q E → vs.length = ps.length
  go : ∀ (A : Around) (outer : List Env) (s : Shared) (H : Hp) (us : List Value) (vs : List V) (Q : VK) (E : XK) (args : Args), A.guards = some [] → Room k A → Env0 P w K mg base A outer s H →
    BindsTo s fd args (ps.zip us) → Vals vs us → sp vs H Q E → codeAny (model P w) A (.call (.ref f) args) (CR CX0 outer P w H s Q E) s
theorem room66 {A : Around} {k : Nat} (hr : Room k A) : A.units + 66 < cLine := by
  have := hr.un
  omega
theorem guards_deeper (A : Around) (e : Env) : (A.deeper e).guards = A.guards := rfl
section
variable {P : Program} {w : World} {K : PySem.W.Frag} {mg : Str → Option Value} {base : Heap} {x qual : Str} {st : Stmt} {f : Addr} {fd : FuncData} {N ps : List Str} {k : Nat} {sp : Sp}
theorem fnG_mk (F : Fun K x qual st f fd) (S : FnScope N ps (defScope st)) (size : ∀ vs H Q E, sp vs H Q E → vs.length = ps.length)
    (body : ∀ (cdv : Value) (A : Around) (outer : List Env) (s : Shared) (H : Hp) (vs : List V) (Q : VK) (E : XK), (A.deeper (envOfC qual (defScope st) s.heap.objs.size f cdv)).guards = some [] →
      Room k (A.deeper (envOfC qual (defScope st) s.heap.objs.size f cdv)) → sp vs H Q E →
      ∃ t, PSs (cxOf CX0 P w K mg base N qual (defScope st) f cdv A outer s H E).nox (defBody st) t ∧ t { nx := fun _ H' => Q .non H', rt := Q } (start N vs) H) :
    FnG P w K mg base (k + 1) f fd ps sp := by
  obtain ⟨oc, od, kV, doc, pm, an, cdv, ct, osl, rfl, lk, hcd⟩ := F.ex
  refine ⟨size, ?_⟩
  intro A outer s H us vs Q E args gd hr e0 hb r hsp
  have old : ∀ b o, base.get? b = some o → s.heap.get? b = some o := fun b o z => (e0.bs b o z).1
  have kin := e0.mod.kin.keeps old
  have hkind : ∀ y ∈ ps.zip us, (defScope st).names.lookup y.1 = some .local ∨ ((defScope st).names.lookup y.1 = some .cell ∧ ((cellsFrom (s.heap.objs.size + 1) (defScope st).names []).lookup y.1).isSome = true) := by
    rintro ⟨n, v⟩ hy
    have := S.par n (List.of_mem_zip hy).1
    rcases this with z | z
    · exact .inl z
    · exact .inr ⟨z, PySem.W.cellsFrom_some _ _ _ (.inl z)⟩
  obtain ⟨t, ht, hq⟩ := body cdv A outer s H vs Q E gd (hr.deeper _) hsp
  refine codeAny_call_function hr.depth (kin _ _ lk) rfl S.co S.gen rfl (PySem.W.codeRec_of kin hcd) ?_
  refine hb _ _ _ _ (wpAny_newFunctionEnv_cells S.kind hkind ?_)
  rintro env rfl s1 y
  refine ⟨(e0.mod.nolimit.keeps old).keeps y.toInCall.keep, codeAny_func ?_⟩
  have I0 := inv_start (CX := CX0) (E := E) (cd := cdv) (f := f) (qual := qual) S hr.hd e0 (size _ _ _ _ hsp) r y
  refine wpAny_mono (ht.nox.run [] s1 _ H _ I0 hq) ?_ (fun _ _ z => z)
  intro fl s' hs
  cases fl with
  | ret u =>
    obtain ⟨v, σ', H', J, rv, z⟩ := hs
    exact ⟨v, H', J.os, J.bare, J.base, J.hok, rv, z⟩
  | next =>
    obtain ⟨σ', H', J, z⟩ := hs
    exact ⟨V.non, H', J.os, J.bare, J.base, J.hok, rfl, z⟩
  | brk => exact hs.elim fun _ h => h.elim fun _ h => h.2.elim
  | cont => exact hs.elim fun _ h => h.elim fun _ h => h.2.elim
end
section
variable {X : Cx} {k : Nat} {f : Addr} {fd : FuncData} {ps : List Str} {sp : Sp} {x : Str} {p pos : Pos} {e : Expr} {es : List Expr} {t : TA}
theorem pe_callG (F : FnG X.prog X.w X.K X.mg X.base k f fd ps sp) (gd : X.A.guards = some []) (hr : Room k X.A) (hg : Gl X x) (hm : X.mg x = some (.ref f)) (hk : PySem.W.keepIn X.K (.ref f) = true) (hb : Binds X.K fd ps [])
    (hx : Passes CX0 X E0) (ha : PA X (e :: es) t) (hdb : (x == ("__debug__" : Str)) = false := by decide) (he : starEach (e :: es) X.env = (false, eval e X.env) :: starEach es X.env := by rfl) (hpl : (backTo pos (starEach es X.env)).any (·.1) = false := by rfl) :
    PE X (.Call (.Name x p) (e :: es) [] pos) (tCall sp [] E0 t) := by
  constructor
  intro pins s σ H Q I h
  apply wpAny_Call_Name_kw
  refine ld_glob I hg hm ?_ hdb
  refine PySem.W.callWith_K (h₀ := X.base) I.ok.mod.kin hk (thn (ha.run pos pins s σ H _ I h) ?_) he hpl
  rintro us s1 ⟨vs, H1, I1, r, q⟩
  refine ⟨I1.kIn, ?_⟩
  rw [List.append_nil] at q
  have hl : us.length = ps.length := r.length.symm.trans (F.size _ _ _ _ q)
  have b := hb s1 us I1.kIn (by rw [List.append_nil]; exact hl)
  rw [List.append_nil] at b
  refine wpAny_call (codeAny_mono (F.go X.A X.stack s1 H1 us vs Q E0 ⟨us, []⟩ gd hr I1.env0 b r q) ?_)
  intro res s' hq
  cases res with
  | error e => exact hx pins σ H1 s1 e s' I1 hq
  | ok fl => cases fl <;> first | exact I1.after hq | exact False.elim hq
/-- repr of data -/
theorem call_reprD (gd : X.A.guards = some []) (hu : X.A.units + 66 < cLine) : CallR X (.builtin "repr") (fun xs H Q => ∃ (a : Addr) (d : PyData), xs = [.ref a] ∧ Dp X.K H (.ref a) d ∧ d.showable = true ∧ d.hasDict = false ∧ d.depth ≤ 64 ∧ d.shown.length ≤ sizeLine ∧ Q (.str d.shown) H) := by
  intro pins s σ H xs us Q I r h
  obtain ⟨a, d, rfl, hd, sh, nd, dp, sz, q⟩ := h
  cases r with
  | cons r1 r2 =>
    cases r2
    obtain ⟨as, rd⟩ := Dp.reads I d _ _ hd r1
    cases r1
    exact repr_of_reads' rd sh (fun z => by rw [nd] at z; cases z) gd (by omega) (fun _ _ z => z) (fun h' u tk z => ⟨.str d.shown, H, I.kept z, ⟨_, rfl⟩, q⟩) sz
end
/-- the law's call -/
theorem law_callG {P : Program} {w : World} {K : PySem.W.Frag} {mg mb : Str → Option Value} {k : Nat} {fa sa : Addr} {fd : FuncData} {x : Str} {sp : Sp} {s₁ : Shared} {vs : List Value} {ns : List Int}
    (KX : K.In s₁.heap) (hns : s₁.heap.Ns mainGlobals mg) (hb : s₁.heap.Ns builtinsNs mb) (hbb : ∀ x : Str, x ≠ "__name__" → mb x = bootBuiltins x) (hlim : s₁.heap.NoLimit) (hg : s₁.gens = #[])
    (ho : s₁.heap.get? sa = some { cls := .type "list", data := .seq vs.toArray }) (hi : IntsAre vs ns) (hl : ns.length ≤ sizeLine) (hr : Room k callerA)
    (F : ∀ base : Heap, K.In base → base.Ns mainGlobals mg → FnG P w K mg base k fa fd [x] sp) (hbind : ∀ (s : Shared) (u : Value), BindsTo s fd ⟨[u], []⟩ [(x, u)])
    (hsp : ∀ H : Hp, Only H → SqL K H sa (ns.map V.int) → sp [.ref sa] H (fun v _ => v = .bl true) fun _ _ _ => False) :
    codeAny (model P w) callerA (.call (.ref fa) ⟨[.ref sa], []⟩) (fun r s' => r = .ok (.ret (.bool true)) ∧ OldK s₁.heap s'.heap ∧ s'.os = s₁.os ∧ AllBare s'.gens) s₁ := by
  -- H tracks the script or nothing
  suffices main : ∀ H : Hp, Only H → SqL K H sa (ns.map V.int) → HOk P w H s₁.heap → (∀ b, H b ≠ none → b = sa) → (H sa ≠ none → K.lookup sa = none) →
      codeAny (model P w) callerA (.call (.ref fa) ⟨[.ref sa], []⟩) (fun r s' => r = .ok (.ret (.bool true)) ∧ OldK s₁.heap s'.heap ∧ s'.os = s₁.os ∧ AllBare s'.gens) s₁ by
    have rv := vals_ints hi
    cases hk : K.lookup sa with
    | none =>
      let H : Hp := fun b => if b = sa then some (.frz { cls := .type "list", data := .seq vs.toArray } (.lst (ns.map V.int))) else none
      have hH : H sa = some (.frz { cls := .type "list", data := .seq vs.toArray } (.lst (ns.map V.int))) := if_pos rfl
      have hN : ∀ b, b ≠ sa → H b = none := fun b z => if_neg z
      refine main H (fun b => ?_) (.inl (.inr ⟨_, hH⟩)) (fun b u z => ?_) (fun b z => ?_) fun _ => hk
      · by_cases c : b = sa
        · exact .inr ⟨_, _, by rw [c]; exact hH⟩
        · exact .inl (hN b c)
      · by_cases c : b = sa
        · subst c
          rw [hH] at z
          cases z
          exact ⟨ho, by rw [List.length_map]; exact hl, vs, _, rv, ho⟩
        · rw [hN b c] at z
          cases z
      · by_cases c : b = sa
        · exact c
        · exact absurd (hN b c) z
    | some o =>
      have z := KX sa o hk
      rw [ho] at z
      cases z
      exact main (fun _ => none) (fun _ => .inl rfl) (.inr ⟨_, vs.toArray, _, hk, rfl, rfl, rfl, by rw [List.size_toArray, hi.length]; exact hl, by simpa using rv⟩) (fun b u y => by cases y) (fun b y => absurd rfl y) fun y => absurd rfl y
  intro H hO hS hok hA hK
  have free : ∀ {b : Addr}, b ≠ sa → H b = none := fun {b} c => by
    cases z : H b with
    | none => rfl
    | some u => exact absurd (hA b (by rw [z]; simp)) c
  have dictFree : ∀ {b : Addr} {o : Obj} {es : Array DictEntry} {ep : Nat}, s₁.heap.get? b = some o → o.data = .dict es ep → H b = none := fun {b o es ep} e d => free fun c => by
    subst c
    rw [ho] at e
    cases e
    cases d
  have ns2 : ∀ {b : Addr} {m : Str → Option Value}, s₁.heap.Ns b m → (hidT s₁.heap H).Ns b m := by
    rintro b m ⟨o, es, ep, e, d, r⟩
    exact ⟨o, es, ep, hidT_get e (dictFree e d), d, r⟩
  have kin2 : K.In (hidT s₁.heap H) := by
    intro b o e
    refine hidT_get (KX b o e) ?_
    by_cases c : b = sa
    · subst c
      cases z : H b with
      | none => rfl
      | some u =>
        rw [hK (by rw [z]; simp)] at e
        cases e
    · exact free c
  have lim2 : (hidT s₁.heap H).NoLimit := by
    obtain ⟨mc, h1, h2⟩ := hlim
    exact ⟨mc, ns2 h1, h2⟩
  have env : Env0 P w K mg (hidT s₁.heap H) callerA [] s₁ H :=
    { frames := rfl, mod := ⟨kin2, ns2 hns, ⟨mb, ns2 hb, hbb⟩, lim2⟩, bs := fun b o e => of_hidT e, bsz := Nat.le_of_eq (hidT_size _ _), funs := trivial, frf := fun b z => by simp [frs] at z, hok := hok, bare := .of_eq hg }
  refine codeAny_mono ((F _ kin2 (ns2 hns)).go callerA [] s₁ H [.ref sa] [.ref sa] _ _ ⟨[.ref sa], []⟩ rfl hr env (hbind s₁ (.ref sa)) (.cons rfl .nil) (hsp H hO hS)) ?_
  intro res s' hres
  cases res with
  | error e => exact hres.elim
  | ok fl =>
    cases fl with
    | ret u =>
      obtain ⟨v, H', os, bare, un, hok', rv, qv⟩ := hres
      cases (show v = .bl true from qv)
      cases (show u = Value.bool true from rv)
      refine ⟨rfl, OldK.of_keep fun b o e => ?_, os, bare⟩
      rcases hO b with z | ⟨ob, xs, z⟩
      · exact un.keep b o e z (by simp [frs]) (by simp)
      · have z2 := un.frzs b ob _ z
        have e1 := (hok b _ z).1
        have e2 := (hok' b _ z2).1
        rw [e] at e1
        cases e1
        exact e2
    | next => exact hres.elim
    | brk => exact hres.elim
    | cont => exact hres.elim
theorem walkG {l : PySem.W.OpenLaw} {n k : Nat} {q : Program} {loose : List Str} {XP : (Str → Option Value) → Heap → Prop} {YP : World → Heap → Prop} {d : DefRec} {K : Params → PySem.W.Frag} {sp : World → Sp} {x : Str}
    (hn : l.most = some n) (hn2 : n ≤ sizeLine) (hdf : d.params.defaults = []) (hr : Room k callerA) (hY : ∀ (w : World) (h : Heap), YP w h → (K w.params).In h)
    (F : ∀ (w : World) (mg : Str → Option Value) (fa : Addr) (h : Heap), (K w.params).In h → h.Ns mainGlobals mg → mg d.name = some (.ref fa) →
      ∃ fd : FuncData, (∀ (s : Shared) (u : Value), BindsTo s fd ⟨[u], []⟩ [(x, u)]) ∧ ∀ base : Heap, (K w.params).In base → base.Ns mainGlobals mg → FnG l.prog w (K w.params) mg base k fa fd [x] (sp w))
    (hsp : ∀ (w : World) (H : Hp) (a : Addr) (ns : List Int), ns.length ≤ n → (∀ z ∈ ns, Builtin.Int.intBits z ≤ 1048576) → Only H → SqL (K w.params) H a (ns.map V.int) → sp w [.ref a] H (fun v _ => v = .bl true) fun _ _ _ => False) :
    PySem.W.WalkO q loose XP YP l.row.toRowW d [] (fun f vs => PySem.call f vs) := by
  apply Att.attach_callB hn hdf
  intro w s₀ s₁ mg mb fa o pm cd doc sa vs ns G Y ho hd hcd hmg hobj hints hlen hbits hg
  obtain ⟨fd, hb, hF⟩ := F w mg fa _ (hY w _ Y) G.T.g hmg
  exact law_callG (hY w _ Y) G.T.g G.T.b G.T.builtins G.T.nolimit hg hobj hints (Nat.le_trans hlen hn2) hr hF hb (fun H hO hS => hsp w H sa ns hlen hbits hO hS)
end

section
open PySem PySem.Spec PyProof.Rows L2
/-- data, or an empty dict -/
inductive An (K : PySem.W.Frag) (H : Hp) : V → PyData → Prop
  | dp {v : V} {d : PyData} (h : Dp K H v d) : An K H v d
  | dict {p : Addr} (e : H p = some (.dK [])) : An K H (.ref p) (.dict [])
mutual
theorem dp_up {K : PySem.W.Frag} {H H' : Hp} (k : Same H H') : ∀ {v : V} {d : PyData}, Dp K H v d → Dp K H' v d
  | _, _, .non => .non
  | _, _, .bl b => .bl b
  | _, _, .int i => .int i
  | _, _, .str x => .str x
  | _, _, .lst h hs => .lst (k.seq h) (dpall_up k hs)
  | _, _, .tup h hs => .tup (by
      rcases h with (h | ⟨u, h⟩) | h
      · exact .inl (.inl (k _ _ h))
      · exact .inl (.inr ⟨u, k _ _ h⟩)
      · exact .inr h) (dpall_up k hs)
theorem dpall_up {K : PySem.W.Frag} {H H' : Hp} (k : Same H H') : ∀ {vs : List V} {ds : List PyData}, DpAll K H vs ds → DpAll K H' vs ds
  | _, _, .nil => .nil
  | _, _, .cons h hs => .cons (dp_up k h) (dpall_up k hs)
end
mutual
theorem dp_nodict {K : PySem.W.Frag} {H : Hp} : ∀ {v : V} {d : PyData}, Dp K H v d → d.hasDict = false
  | _, _, .non => rfl
  | _, _, .bl b => rfl
  | _, _, .int i => rfl
  | _, _, .str x => rfl
  | _, _, .lst _ hs => by simp only [PyData.hasDict]; exact dpall_nodict hs
  | _, _, .tup _ hs => by simp only [PyData.hasDict]; exact dpall_nodict hs
theorem dpall_nodict {K : PySem.W.Frag} {H : Hp} : ∀ {vs : List V} {ds : List PyData}, DpAll K H vs ds → PyData.hasDictAll ds = false
  | _, _, .nil => rfl
  | _, _, .cons h hs => by simp only [PyData.hasDictAll, dp_nodict h, dpall_nodict hs, Bool.or_self]
end
theorem dpall_len {K : PySem.W.Frag} {H : Hp} : ∀ {vs : List V} {ds : List PyData}, DpAll K H vs ds → vs.length = ds.length
  | _, _, .nil => rfl
  | _, _, .cons _ hs => congrArg Nat.succ (dpall_len hs)
theorem dpall_get {K : PySem.W.Frag} {H : Hp} : ∀ {vs : List V} {ds : List PyData}, DpAll K H vs ds → ∀ {i : Nat} {v : V}, vs[i]? = some v → ∃ d, ds[i]? = some d ∧ Dp K H v d
  | _, _, .nil, i, v, e => by simp at e
  | _, _, .cons h hs, 0, v, e => by
    simp at e
    subst e
    exact ⟨_, rfl, h⟩
  | _, _, .cons h hs, i + 1, v, e => dpall_get hs (i := i) (by simpa using e)
theorem An.up {K : PySem.W.Frag} {H H' : Hp} (k : Same H H') {v : V} {d : PyData} (h : An K H v d) : An K H' v d := by
  cases h with
  | dp h => exact .dp (dp_up k h)
  | dict e => exact .dict (k _ _ e)
def wholeD : PyData → Bool
  | .int _ => true
  | _ => false
def isTup : PyData → Bool
  | .tuple _ => true
  | _ => false
theorem sql_ty {K : PySem.W.Frag} {H : Hp} {p : Addr} {xs : List V} (h : SqL K H p xs) : TyX K H (.ref p) (.type "list") := by
  rcases h with (h | ⟨u, h⟩) | ⟨o, its, n, h1, h2, _⟩
  · exact .base (.lst h)
  · exact .base (.frz h)
  · exact .kList h1 h2
theorem sqt_tyA {K : PySem.W.Frag} {H : Hp} {p : Addr} {xs : List V} (h : SqT K H p xs) : TyX K H (.ref p) (.type "tuple") := by
  rcases h with (h | ⟨u, h⟩) | ⟨o, its, n, h1, h2, _⟩
  · exact .base (.tup h)
  · exact .fTuple h
  · exact .kTuple h1 h2
/-- what isinstance says -/
theorem An.is {K : PySem.W.Frag} {H : Hp} {v : V} {d : PyData} (h : An K H v d) : ∃ (t : Value) (i b c : Bool), TyX K H v t ∧ PySem.W.kitOne K t (.type "int") = some i ∧ PySem.W.kitOne K t (.type "bool") = some b ∧ PySem.W.kitOne K t (.type "tuple") = some c ∧ (i && !b) = wholeD d ∧ c = isTup d := by
  cases h with
  | dict e => exact ⟨_, false, false, false, .base (.dK e), kit_ty (by decide +kernel), kit_ty (by decide +kernel), kit_ty (by decide +kernel), rfl, rfl⟩
  | dp h =>
    cases h with
    | non => exact ⟨_, false, false, false, .base .non, kit_ty (by decide +kernel), kit_ty (by decide +kernel), kit_ty (by decide +kernel), rfl, rfl⟩
    | bl b => exact ⟨_, true, true, false, .base (.bl b), kit_ty (by decide +kernel), kit_ty (by decide +kernel), kit_ty (by decide +kernel), rfl, rfl⟩
    | int i => exact ⟨_, true, false, false, .base (.int i), kit_ty (by decide +kernel), kit_ty (by decide +kernel), kit_ty (by decide +kernel), rfl, rfl⟩
    | str x => exact ⟨_, false, false, false, .base (.str x), kit_ty (by decide +kernel), kit_ty (by decide +kernel), kit_ty (by decide +kernel), rfl, rfl⟩
    | lst h _ => exact ⟨_, false, false, false, sql_ty h, kit_ty (by decide +kernel), kit_ty (by decide +kernel), kit_ty (by decide +kernel), rfl, rfl⟩
    | tup h _ => exact ⟨_, false, false, true, sqt_tyA h, kit_ty (by decide +kernel), kit_ty (by decide +kernel), kit_ty (by decide +kernel), rfl, rfl⟩
/-- a tuple of data -/
theorem An.tup {K : PySem.W.Frag} {H : Hp} {v : V} {ds : List PyData} (h : An K H v (.tuple ds)) : ∃ p xs, v = .ref p ∧ SqT K H p xs ∧ DpAll K H xs ds := by
  cases h with
  | dp h =>
    cases h with
    | tup h hs => exact ⟨_, _, rfl, h, hs⟩
section
variable {X : Cx}
/-- repr of any of these -/
theorem call_reprA (gd : X.A.guards = some []) (hu : X.A.units + 66 < cLine) : CallR X (.builtin "repr") (fun xs H Q => ∃ (x : V) (d : PyData), xs = [x] ∧ An X.K H x d ∧ d.showable = true ∧ d.depth ≤ 64 ∧ d.shown.length ≤ sizeLine ∧ Q (.str d.shown) H) := by
  intro pins s σ H xs us Q I r h
  obtain ⟨x, d, rfl, ha, sh, dp, sz, q⟩ := h
  cases r with
  | cons r1 r2 =>
    cases r2
    cases ha with
    | dict e =>
      cases r1
      obtain ⟨hz, hS, vs, r, o, es, ep, h1, h2, h3, h4⟩ := (show ObjOk X.prog X.w H s.heap _ (.dK []) from I.hok _ _ e)
      cases r
      have hes : es.toList = [] := by
        have z := h4.2.1
        generalize es.toList = l at z
        cases z
        rfl
      have rd : Reads s.heap (.ref _) (.dict []) (_ :: [] ++ []) := Reads.dict (kvs := []) (as := []) (bs := []) h1 h2.1 h3 (by rw [hes]; exact .nil) (by rw [hes]; exact .nil)
      refine repr_of_reads' rd rfl (fun _ z => ?_) gd (by show X.A.units + (1 + 1) < cLine; omega) (fun _ _ z => z) (fun h' u tk z => ⟨.str _, H, I.kept z, ⟨_, rfl⟩, q⟩) sz
      simp at z
      simp [z] at hS
    | dp hd =>
      cases hd with
      | non =>
        cases r1
        exact PySem.P.repr_of_none ⟨.str _, H, I.tok _, ⟨_, rfl⟩, q⟩
      | bl b =>
        cases r1
        exact PySem.P.repr_of_bool ⟨.str _, H, I.tok _, ⟨_, rfl⟩, q⟩
      | int i =>
        obtain ⟨t, rfl⟩ := r1
        exact PySem.P.repr_of_int (of_decide_eq_true sh) ⟨.str _, H, I.tok _, ⟨_, rfl⟩, q⟩
      | str z =>
        obtain ⟨t, rfl⟩ := r1
        exact PySem.P.repr_of_str ⟨.str _, H, I.tok _, ⟨_, rfl⟩, q⟩ sz
      | lst h hs =>
        obtain ⟨as, rd⟩ := Dp.reads I _ _ _ (.lst h hs) r1
        cases r1
        exact repr_of_reads' rd sh (fun z => by rw [dp_nodict (.lst h hs)] at z; cases z) gd (by omega) (fun _ _ z => z) (fun h' u tk z => ⟨.str _, H, I.kept z, ⟨_, rfl⟩, q⟩) sz
      | tup h hs =>
        obtain ⟨as, rd⟩ := Dp.reads I _ _ _ (.tup h hs) r1
        cases r1
        exact repr_of_reads' rd sh (fun z => by rw [dp_nodict (.tup h hs)] at z; cases z) gd (by omega) (fun _ _ z => z) (fun h' u tk z => ⟨.str _, H, I.kept z, ⟨_, rfl⟩, q⟩) sz
/-- min of a tuple of ints -/
theorem cr_minT (hc : X.calm = true) : CallR X (.builtin "min") (fun vs H Q => ∃ (a : Addr) (ns : List Int), vs = [V.ref a] ∧ SqT X.K H a (ns.map V.int) ∧ 0 < ns.length ∧ ∀ m, m ∈ ns → (∀ y, y ∈ ns → m ≤ y) → Q (.int m) H) := by
  intro pins s σ H vs us Q I r h
  obtain ⟨a, ns, rfl, hs, hne, q⟩ := h
  obtain ⟨its, rv, ht, _⟩ := I.tuple hs
  rw [Vals.ref1 r]
  have hi : IntsAre its ns := rv.ints
  obtain ⟨xs, e⟩ := hi.allInts.items
  have hn : numsOf (intItems xs).toList = ns := by rw [← e]; exact hi.numsOf
  rw [nums_intItems] at hn
  subst hn
  rw [e] at ht
  have hsz : 0 < xs.size := by simpa using hne
  have ht' : s.heap.IsTuple a (intItems xs) := ht
  have hlt : a < s.heap.objs.size := by
    obtain ⟨_, z, _⟩ := ht'
    exact Heap.lt_size z
  have hsz1 : ∀ o, (s.heap.push o).objs.size = s.heap.objs.size + 1 := fun o => Heap.size_push ..
  refine call_min_walk (wpAny_pyIter_tuple ht' ⟨_, _, _, _, _, _, _, rfl, Walks.tuple (A := X.A.in1) (I.ok.hd hc) _ a (Nat.ne_of_lt hlt) (intItems xs), ⟨⟨_, Heap.get?_push_size _ rfl, rfl, rfl⟩, ?_⟩, ?_, by simpa [intItems] using hsz, CmpOf.ints_lt (numAt xs) (fun _ _ => intItems_at), ?_⟩)
  · obtain ⟨o, z1, z2⟩ := ht'
    exact ⟨o, Heap.get?_push_of_some _ z1, z2⟩
  · intro b hb
    show b < (s.heap.push _).objs.size
    rw [hsz1]
    rcases List.mem_cons.mp hb with rfl | hb
    · exact Nat.lt_succ_self _
    · rcases List.mem_cons.mp hb with rfl | hb
      · exact Nat.lt_succ_of_lt hlt
      · cases hb
  · intro v h' tk hP hk
    have hv : (intItems xs)[argBest (fun i j => decide (numAt xs i < numAt xs j)) (xs.size - 1)]? = some v := by simpa [intItems] using hP
    obtain ⟨t, rfl⟩ := intItems_at hv
    obtain ⟨h1, h2⟩ := argBest_lt (numAt xs) (xs.size - 1)
    have kept : ∀ b o, s.heap.get? b = some o → h'.get? b = some o := fun b o z => hk b o (by simpa using Nat.ne_of_lt (Heap.lt_size z)) (Heap.get?_push_of_some _ z)
    refine ⟨.int _, H, I.kept kept, ⟨_, rfl⟩, q _ ?_ ?_⟩
    · rw [numAt_eq]; exact PySem.getD_mem (by rw [List.length_map, Array.length_toList]; omega)
    · intro z hz
      obtain ⟨j, hj, rfl⟩ := mem_getD hz
      rw [List.length_map, Array.length_toList] at hj
      rw [← numAt_eq]; exact h2 j (by omega)
end
end
section
open PySem PySem.Spec PyProof.Rows L2
/-- a caught exception that is kept: of the class cls, its dict d -/
def ExK (cls : Value) (d : Option Addr) (a : Addr) : HO := .ext fun h => ∃ (oe : Obj) (vs : Array Value), h.get? a = some oe ∧ Zc cls d oe ∧ oe.data = .fields vs
theorem exK_ok {P : Program} {w : World} {H : Hp} {h : Heap} {a : Addr} {cls : Value} {d : Option Addr} {oe : Obj} {vs : Array Value} (e : h.get? a = some oe) (z : Zc cls d oe) (hd : oe.data = .fields vs) : ObjOk P w H h a (ExK cls d a) :=
  ⟨⟨oe, vs, e, z, hd⟩, ⟨oe, e⟩, fun h1 h2 ⟨o, vs, e, z, hd⟩ k => ⟨o, vs, k _ e, z, hd⟩⟩
theorem exK_at {P : Program} {w : World} {H : Hp} {h : Heap} {a : Addr} {cls : Value} {d : Option Addr} (hok : HOk P w H h) (e : H a = some (ExK cls d a)) : ∃ (oe : Obj) (vs : Array Value), h.get? a = some oe ∧ Zc cls d oe ∧ oe.data = .fields vs := by
  obtain ⟨x, _⟩ := hok a _ e
  exact x
section
variable {X : Cx} {pins : List (Addr × Obj)} {σ : L2.St} {H : Hp} {s sI : Shared} {B : Heap}
/-- an exception that has landed, tracked -/
theorem inv_track {a : Addr} {o : HO} (J : Inv X pins σ H sI) (I : Inv X pins σ H s) (nI : sI.heap.get? a = none) (na : H a = none) (nL : a ≠ X.env.locals) (new : ObjOk X.prog X.w (upd H a o) s.heap a o) : Inv X pins σ (upd H a o) s := by
  refine ⟨I.ok, I.os, I.bare, ⟨I.base.keep, I.base.slot, fun b ob e n hx => ?_, I.base.there, fun b xs e => ?_, fun b ob u e => ?_, fun b ps e => ?_⟩, I.loc, I.cell, ?_, fun y c e => ?_, fun p hp => ?_, fun b u e => ?_, I.len⟩
  · rw [upd_ne (fun z => by
      subst z
      obtain ⟨o', e'⟩ := J.base.there _ _ e hx
      rw [nI] at e'; cases e')]
    exact I.base.free b ob e n hx
  · have z := I.base.tups b xs e
    rw [upd_ne (ne_of_none z na)]; exact z
  · have z := I.base.frzs b ob u e
    rw [upd_ne (ne_of_none z na)]; exact z
  · obtain ⟨m, z⟩ := I.base.tbls b ps e
    exact ⟨m, by rw [upd_ne (ne_of_none z na)]; exact z⟩
  · rw [upd_ne (fun z => nL z.symm)]; exact I.free
  · obtain ⟨v, z⟩ := J.cell y c e
    rw [upd_ne (fun q => by
      subst q
      obtain ⟨o', e', _⟩ := z
      rw [nI] at e'; cases e')]
    exact I.freeC y c e
  · obtain ⟨e1, e2, e3, e4, e5⟩ := I.pin p hp
    refine ⟨e1, ?_, e3, e4, e5⟩
    rw [upd_ne (fun q => by
      have z := (J.pin p hp).1
      rw [q, nI] at z; cases z)]
    exact e2
  · by_cases hb : b = a
    · subst hb
      rw [upd_same] at e
      cases e
      exact new
    · rw [upd_ne hb] at e
      exact (I.hok b u e).stay (fun c v _ q => q) (fun c q => by rw [upd_ne (ne_of_none q na)]; exact q) fun c xs q => by rw [upd_ne (ne_of_none q na)]; exact q
theorem inv_suiteK (I : Inv X pins σ H s) (a : Addr) : Inv (X.suite a (X.pn ++ pins)) [] σ H s where
  ok := I.ok.suite _ _
  os := I.os
  bare := I.bare
  base := I.base
  loc := I.loc
  cell := I.cell
  free := I.free
  freeC := I.freeC
  pin := fun p hp => I.pin p (by simpa using hp)
  hok := I.hok
  len := I.len
theorem inv_unsuiteK {a : Addr} {pn' : List (Addr × Obj)} (I : Inv (X.suite a (X.pn ++ pins)) pn' σ H s) (ok : X.Ok) : Inv X pins σ H s where
  ok := ok
  os := I.os
  bare := I.bare
  base := I.base
  loc := I.loc
  cell := I.cell
  free := I.free
  freeC := I.freeC
  pin := fun p hp => I.pin p (List.mem_append.mpr (.inl hp))
  hok := I.hok
  len := I.len
end
/-- an exception that came down from a try's body: B its ground, sI the state ahead of it, t the state now -/
structure Down (X : Cx) (pins : List (Addr × Obj)) (σ : L2.St) (H : Hp) (cls : Value) (d : Option Addr) (a : Addr) (B : Heap) (sI t : Shared) : Prop where
  inv : Inv X pins σ H sI
  gr : ∀ b o, sI.heap.get? b = some o → b ∉ frs X.stack → B.get? b = some o
  up : sI.heap.UpToSlots t.heap
  fl : HandSPX.FlyingZ B (X.env :: X.outer) a (Zc cls d) t.heap
  na : H a = none
  so : t.os = sI.os
  ag : AllBare t.gens
section
variable {X : Cx} {pins : List (Addr × Obj)} {σ : L2.St} {H : Hp} {cls : Value} {d : Option Addr} {a : Addr} {B : Heap} {sI t : Shared}
theorem Down.here (z : Down X pins σ H cls d a B sI t) : Inv X pins σ H t := z.inv.landed z.gr z.fl.1 z.up z.so z.ag
theorem Down.again (z : Down X pins σ H cls d a B sI t) {h : Heap} (f : HandSPX.FlyingZ B (X.env :: X.outer) a (Zc cls d) h) (u : t.heap.UpToSlots h) : Down X pins σ H cls d a B sI { t with heap := h } :=
  ⟨z.inv, z.gr, z.up.trans u, f, z.na, z.so, z.ag⟩
theorem Down.apart (z : Down X pins σ H cls d a B sI t) : a ∉ frs (X.env :: X.outer) := fun hm => by
  obtain ⟨oe, vs, he, _, hd⟩ := z.fl.there
  obtain ⟨_, o2, e2, no⟩ := z.fl.2.2.1.mem hm
  exact no vs (by rw [he] at e2; cases e2; exact hd)
theorem Down.nloc (z : Down X pins σ H cls d a B sI t) (hf : X.env.frame = some X.env.locals) : a ≠ X.env.locals := fun q => by
  refine z.apart ?_
  rw [q]
  exact List.mem_filterMap.mpr ⟨X.env, .head _, hf⟩
theorem Down.new (z : Down X pins σ H cls d a B sI t) (hs : X.stack = X.env :: X.outer) : sI.heap.get? a = none := by
  have n := z.apart
  rw [← hs] at n
  have nB : B.get? a = none := z.fl.2.1
  by_cases q : sI.heap.get? a = none
  · exact q
  · obtain ⟨o, e⟩ := Option.ne_none_iff_exists'.mp q
    rw [z.gr a o e n] at nB
    cases nB
theorem Down.kept (z : Down X pins σ H cls d a B sI t) (hs : X.stack = X.env :: X.outer) (hf : X.env.frame = some X.env.locals) : Inv X pins σ (upd H a (ExK cls d a)) t := by
  obtain ⟨oe, vs, he, hz, hd⟩ := z.fl.there
  exact inv_track z.inv z.here (z.new hs) z.na (z.nloc hf) (exK_ok he hz hd)
/-- the class of a clause, asked of it -/
theorem Down.asks {x : Str} {c : Value} {b : Bool} {np : Pos} {Q : Bool → Shared → Prop} {E : Value → Shared → Prop} (z : Down X pins σ H cls d a B sI t) (hc : Names X x c) (hb : PySem.W.exmOne X.K cls c = some b) (q : Q b t) :
    wpAny (model X.prog X.w) (X.A.mark (some (.ref a))) (eval (.Name x np) X.env) (fun v s1 => wpAny (model X.prog X.w) (X.A.mark (some (.ref a))) (excMatches (.ref a) v) Q E s1) E t := by
  obtain ⟨oe, vs, he, hz, hd⟩ := z.fl.there
  have ty : PySem.W.Looks (model X.prog X.w) t.heap (typeOf (.ref a)) cls := by
    intro A Q E s k q
    exact wpAny_typeOf_ref (k _ _ he) (hz.1 ▸ q)
  have m := (PySem.W.exm_one (M := model X.prog X.w) z.here.kIn ty hb).here (A := X.A.mark (some (.ref a))) (E := E) q
  have S := inv_suiteK z.here a
  obtain ⟨g, nd, h | ⟨h, v, nn⟩⟩ := hc
  · exact ld_glob S g h m nd
  · exact ld_blt S g h v m nn nd
end
/-- where a suite ends, its name gone -/
def offAt (i : Nat) (D : Ends) : Ends where
  nx := fun σ H => D.nx (σ.set i none) H
  rt := D.rt
  bk := fun σ H => D.bk (σ.set i none) H
  ct := fun σ H => D.ct (σ.set i none) H
/-- the clauses of a try: except x as n (its slot), or except x -/
inductive HK (X : Cx) : List ExceptHandler → List (Value × Option Nat × (Addr → Value → Option Addr → TS)) → Prop
  | nil : HK X [] []
  | named {x n : Str} {c : Value} {i : Nat} {ts : Addr → Value → Option Addr → TS} {b0 : Stmt} {suite : List Stmt} {np pos : Pos} {hds : List ExceptHandler} {l : List (Value × Option Nat × (Addr → Value → Option Addr → TS))}
      (hc : Names X x c) (hi : X.N[i]? = some n) (hk : X.env.kindOf n = some .local) (su : ∀ (a : Addr) (cls : Value) (d : Option Addr) (pn : List (Addr × Obj)), PSs (X.suite a pn) (b0 :: suite) (ts a cls d)) (r : HK X hds l) :
      HK X (.ExceptHandler (some (.Name x np)) (some n) (b0 :: suite) pos :: hds) ((c, some i, ts) :: l)
  | bare {x : Str} {c : Value} {ts : Addr → Value → Option Addr → TS} {b0 : Stmt} {suite : List Stmt} {np pos : Pos} {hds : List ExceptHandler} {l : List (Value × Option Nat × (Addr → Value → Option Addr → TS))}
      (hc : Names X x c) (su : ∀ (a : Addr) (cls : Value) (d : Option Addr) (pn : List (Addr × Obj)), PSs (X.suite a pn) (b0 :: suite) (ts a cls d)) (r : HK X hds l) :
      HK X (.ExceptHandler (some (.Name x np)) none (b0 :: suite) pos :: hds) ((c, none, ts) :: l)
/-- what the clauses wish of an exception of the body -/
def wHK (K : PySem.W.Frag) (W : WX) (D : Ends) : List (Value × Option Nat × (Addr → Value → Option Addr → TS)) → WX
  | [] => W
  | (c, some i, ts) :: l => fun cls d σ H => ∃ b, PySem.W.exmOne K cls c = some b ∧ (b = true → ∀ a, H a = none → ts a cls d (offAt i D) (σ.set i (some (.ref a))) (upd H a (ExK cls d a))) ∧ (b = false → wHK K W D l cls d σ H)
  | (c, none, ts) :: l => fun cls d σ H => ∃ b, PySem.W.exmOne K cls c = some b ∧ (b = true → ∀ a, H a = none → ts a cls d D σ (upd H a (ExK cls d a))) ∧ (b = false → wHK K W D l cls d σ H)
section
variable {X : Cx} {W : WX} {D : Ends} {hds : List ExceptHandler} {l : List (Value × Option Nat × (Addr → Value → Option Addr → TS))}
theorem handledK (hs : X.stack = X.env :: X.outer) (hf : X.env.frame = some X.env.locals) (hN : X.N.Nodup) (tk : Takes X W) (hh : HK X hds l) :
    ∀ {pins : List (Addr × Obj)} {σ : L2.St} {H : Hp} {cls : Value} {d : Option Addr} {a : Addr} {B : Heap} {sI t : Shared}, Down X pins σ H cls d a B sI t → wHK X.K W D l cls d σ H →
      wpAny (model X.prog X.w) X.A (handleBy (.ref a) X.env hds) (SP X pins D) X.xe t := by
  induction hh with
  | nil =>
    intro pins σ H cls d a B sI t z w
    have go : wpAny (model X.prog X.w) X.A (setFlight (.ref a) X.env.frame) (fun _ s4 => wpAny (model X.prog X.w) X.A (throw (.ref a) : Sem Flow) (SP X pins D) X.xe s4) X.xe t := by
      rw [hf]
      refine HandSPX.setFlight_upZ z.fl fun h hh u => ?_
      refine wpAny_throw (tk _ _ ?_)
      exact ⟨a, B, sI, pins, σ, H, cls, d, rfl, z.inv, z.gr, z.up.trans u, .inr (.inr (hs ▸ hh)), z.na, z.so, z.ag, w⟩
    obtain ⟨_, _, _, oe, vs, T, _, _, he, _, hd, h1, _⟩ := id z.fl
    apply wpAny_handleBy_nil
    unfold PySem.passOn
    apply wpAny_bind
    apply wpAny_field he hd h1
    rw [if_neg (by simp)]
    first
      | exact wpAny_bind (wpAny_pure (wpAny_bind go))
      | exact wpAny_bind go
  | @named x n c i ts b0 suite np pos hds l hc hi hk su r ih =>
    intro pins σ H cls d a B sI t z w
    obtain ⟨b, hb, yes, no⟩ := w
    refine wpAny_handleBy_cons (codeAny_handlers_test (z.asks hc hb ?_)) fun q => by cases q
    cases b with
    | false => exact ih z (no rfl)
    | true =>
      refine codeAny_handlers_suite_as (HandSPX.lands_againZ z.fl fun h f u => ?_)
      have S := inv_suiteK ((z.again f u).kept hs hf) a
      refine store_ok (X := X.suite a (X.pn ++ pins)) (v := .ref a) S hN hi (.inl hk) rfl (fun s5 S5 => ?_) (.inr hk)
      refine wpAny_mono ((su a cls d (X.pn ++ pins)).run [] s5 _ _ _ S5 (yes rfl a z.na)) (fun fl s6 e6 => ?_) fun _ _ q => q.elim
      cases fl with
      | next => obtain ⟨σ6, H6, S6, q6⟩ := e6; exact gone_ok (inv_unsuiteK S6 z.inv.ok) hN hi hk fun s7 J7 => ⟨_, _, J7, q6⟩
      | brk => obtain ⟨σ6, H6, S6, q6⟩ := e6; exact gone_ok (inv_unsuiteK S6 z.inv.ok) hN hi hk fun s7 J7 => ⟨_, _, J7, q6⟩
      | cont => obtain ⟨σ6, H6, S6, q6⟩ := e6; exact gone_ok (inv_unsuiteK S6 z.inv.ok) hN hi hk fun s7 J7 => ⟨_, _, J7, q6⟩
      | ret u => obtain ⟨v6, σ6, H6, S6, r6, q6⟩ := e6; exact gone_ok (inv_unsuiteK S6 z.inv.ok) hN hi hk fun s7 J7 => ⟨_, _, _, J7, r6, q6⟩
  | @bare x c ts b0 suite np pos hds l hc su r ih =>
    intro pins σ H cls d a B sI t z w
    obtain ⟨b, hb, yes, no⟩ := w
    refine wpAny_handleBy_cons (codeAny_handlers_test (z.asks hc hb ?_)) fun q => by cases q
    cases b with
    | false => exact ih z (no rfl)
    | true =>
      refine codeAny_handlers_suite (HandSPX.lands_againZ z.fl fun h f u => ?_)
      have S := inv_suiteK ((z.again f u).kept hs hf) a
      refine wpAny_mono ((su a cls d (X.pn ++ pins)).run [] _ _ _ _ S (yes rfl a z.na)) (fun fl s6 e6 => ?_) fun _ _ q => q.elim
      cases fl with
      | next => obtain ⟨σ6, H6, S6, q6⟩ := e6; exact ⟨_, _, inv_unsuiteK S6 z.inv.ok, q6⟩
      | brk => obtain ⟨σ6, H6, S6, q6⟩ := e6; exact ⟨_, _, inv_unsuiteK S6 z.inv.ok, q6⟩
      | cont => obtain ⟨σ6, H6, S6, q6⟩ := e6; exact ⟨_, _, inv_unsuiteK S6 z.inv.ok, q6⟩
      | ret u => obtain ⟨v6, σ6, H6, S6, r6, q6⟩ := e6; exact ⟨_, _, _, inv_unsuiteK S6 z.inv.ok, r6, q6⟩
/-- try: body, any clauses; what is caught stays known behind the suite -/
theorem ps_tryK {body : List Stmt} {h0 : ExceptHandler} {pos : Pos} {tb : WX → TS} (hs : X.stack = X.env :: X.outer) (hf : X.env.frame = some X.env.locals) (hN : X.N.Nodup) (tk : Takes X W) (hh : HK X (h0 :: hds) l)
    (hb : ∀ (V : WX) (pn : List (Addr × Obj)) (xe : Value → Shared → Prop), Takes (X.tr pn xe) V → PassesOwn (model X.prog X.w) X.A X.env xe → PSs (X.tr pn xe) body (tb V)) :
    PS X (.Try body (h0 :: hds) [] [] pos) (fun D σ H => tb (wHK X.K W D l) D σ H) := by
  constructor
  intro pins s σ H D I h
  have fr : X.A.frames = some (X.env :: X.outer) := hs ▸ I.ok.frames
  apply wpAny_Try_except
  let xe : Value → Shared → Prop := fun e s1 => wpAny (model X.prog X.w) X.A (noteFrame e X.env) (fun _ s2 => wpAny (model X.prog X.w) X.A (setFlight e none) (fun _ s3 =>
    wpAny (model X.prog X.w) X.A (handleBy e X.env (h0 :: hds)) (SP X pins D) X.xe s3) X.xe s2) X.xe s1
  have T : Takes (X.tr (X.pn ++ pins) xe) (wHK X.K W D l) := fun u t y => by
    obtain ⟨a, B, sI, _, σ1, H1, cls, d, rfl, J, gr, up, sky, na, so, ag, w⟩ := y
    have sky1 : Sky B (X.env :: X.outer) a (Zc cls d) X.env.locals t.heap := hs ▸ sky
    exact Sky.land Zc.steady fr hf sky1 fun h3 f3 u3 => handledK hs hf hN tk hh ⟨J.ofTry I.ok, gr, up.trans u3, f3, na, so, ag⟩ w
  refine wpAny_mono ((hb (wHK X.K W D l) (X.pn ++ pins) xe T PassesOwn.looking).run [] s σ H D (I.toTry _) h) (fun f s1 e => ?_) fun _ _ q => q
  cases f with
  | next => obtain ⟨σ1, H1, J, q⟩ := e; exact wpAny_execs_nil ⟨σ1, H1, J.ofTry I.ok, q⟩
  | brk => obtain ⟨σ1, H1, J, q⟩ := e; exact ⟨σ1, H1, J.ofTry I.ok, q⟩
  | cont => obtain ⟨σ1, H1, J, q⟩ := e; exact ⟨σ1, H1, J.ofTry I.ok, q⟩
  | ret u => obtain ⟨v, σ1, H1, J, r, q⟩ := e; exact ⟨v, σ1, H1, J.ofTry I.ok, r, q⟩
end
/-- e.f of a kept exception -/
def tXk (C : Addr) (f : Str) (te : TE) : TE := fun σ H Q => te σ H fun x H1 => ∃ (a dd : Addr) (fs : List (Str × V)) (v : V), x = .ref a ∧ H1 a = some (ExK (.ref C) (some dd) a) ∧ H1 dd = some (.xd fs) ∧ fs.lookup f = some v ∧ Q v H1
theorem pe_xk {X : Cx} {C : Addr} {e : Expr} {te : TE} {pos : Pos} {n : Str} (T : XfC X.K C) (hno : PySem.W.findIn X.K (.ref C) n = some none) (he : PE X e te) (hb : attributeBase e n X.env (eval e X.env) = eval e X.env := by rfl) :
    PE X (.Attribute e n pos) (tXk C n te) := by
  constructor
  intro pins s σ H Q I h
  apply attr_of hb
  refine thn (he.run pins s σ H _ I h) ?_
  rintro u s1 ⟨x, H1, I1, rx, a, dd, fs, v, rfl, ek, ea, l, q⟩
  cases rx
  obtain ⟨oe, vs, there, ⟨zc, zd⟩, fv⟩ := exK_at I1.hok ek
  obtain ⟨mA, ns, rel⟩ : ∃ mA, s1.heap.Ns1 dd mA ∧ ∀ g, RelO (fs.lookup g) (mA g) := I1.hok dd _ ea
  obtain ⟨od, look, found⟩ := lookIn_ns ns
  have rv := rel n
  rw [l] at rv
  obtain ⟨u, mu, ru⟩ := RelO.some_of rv
  have no : PySem.W.notCls oe = true := by unfold PySem.W.notCls; rw [fv] <;> rfl
  have at_ : PySem.W.InstAt s1.heap a oe C (some od) := ⟨there, zc, no, by rw [zd]; exact look⟩
  have own := PySem.W.findObj_own (K := X.K) (C := C) (od := od) (name := n) (v := u) T.hdC hno rfl ((found n).trans (congrArg some mu))
  exact HandSPX.exc_get I1.kIn at_ T.ga T.gg T.exC own (handed_of ru) ⟨v, H1, I1.tok _, ru, q⟩
/-- a method called where an exception of it is awaited, by the slots as they stand -/
def tMethS (C : Addr) (m : Str) (sp : Sp) (E : L2.St → XK) (ta : TE) (t : TA) : TE := fun σ H Q => ta σ H fun x H1 => ∃ a dx fs, x = .ref a ∧ H1 a = some (.ins C dx fs) ∧ fs.lookup m = none ∧ t σ H1 fun vs H2 => sp (.ref a :: vs) H2 Q (E σ)
theorem pe_methS {X : Cx} {CX : CXT} {k : Nat} {f C : Addr} {fd : FuncData} {ps : List Str} {sp : Sp} {E : L2.St → XK} {m : Str} {pos apos : Pos} {e o : Expr} {es : List Expr} {ta : TE} {t : TA} {pl : Sem Bool} (he : PE X o ta) (c : Cls X.K C) (hm : Meth X.K C m f)
    (F : FnOk X.prog X.w X.K X.mg X.base CX k f fd ps sp) (hr : Room k X.A) (hb : Binds X.K fd ps []) (hx : ∀ σ, PassesAt CX X σ (E σ)) (ha : PA X (e :: es) t) (hst : starEach (e :: es) X.env = (false, eval e X.env) :: starEach es X.env := by rfl)
    (hpl : (backTo pos (starEach es X.env)).any (·.1) = false := by rfl)
    (ht : eval (.Call (.Attribute o m apos) (e :: es) [] pos) X.env = (do let ov ← eval o X.env; standAt apos.atName; let (f, first) ← holding [ov] (getMethod ov m pl); callWith pos f first (backTo pos (starEach (e :: es) X.env)) (backToKw pos (keywordEach [] X.env))) := by rfl) :
    PE X (.Call (.Attribute o m apos) (e :: es) [] pos) (tMethS C m sp E ta t) := by
  constructor
  intro pins s σ H Q I h
  refine PySem.W.methodCall_KW (pl := pl) (thn (he.run pins s σ H _ I h) ?_) ht
  rintro u s1 ⟨x, H1, I1, rx, a, dx, fs, rfl, ea, l, q⟩
  cases rx
  apply getmeth_ok I1 ea c hm l
  refine PySem.W.callWith_K (first := [.ref a]) (h₀ := X.base) I.ok.mod.kin hm.kp (thn (ha.run pos pins s1 σ H1 _ I1 q) ?_) hst hpl
  rintro us s2 ⟨vs, H2, I2, r, q2⟩
  exact ⟨I2.kIn, run_fnS (us := .ref a :: us) (vs := .ref a :: vs) F hr hb (hx σ) I2 (.cons rfl r) q2⟩
end
section
open PySem PySem.Spec PyProof.Rows L2
/-- isinstance(e, c), e a kept exception of an own class D with a dict -/
def rIsK (K : PySem.W.Frag) : List V → Hp → VK → Prop := fun xs H Q => ∃ (x D dd : Addr) (fs : List (Str × V)) (c : V) (cv : Value) (b : Bool), xs = [.ref x, c] ∧ ExcC K D ∧ H x = some (ExK (.ref D) (some dd) x) ∧ H dd = some (.xd fs) ∧ (∀ u, RelV c u → u = cv) ∧ PySem.W.kitOne K (.ref D) cv = some b ∧ Q (.bl b) H
theorem call_isK {X : Cx} : CallR X (.builtin "isinstance") (rIsK X.K) := by
  intro pins s σ H xs us Q I r h
  obtain ⟨x, D, dd, fs, c, cv, b, rfl, Z, ek, ed, hcv, e, q⟩ := h
  obtain ⟨oe, vs, there, ⟨zc, zd⟩, fv⟩ := exK_at I.hok ek
  obtain ⟨mA, ns, _⟩ : ∃ mA, s.heap.Ns1 dd mA ∧ ∀ g, RelO (fs.lookup g) (mA g) := I.hok dd _ ed
  obtain ⟨od, look, _⟩ := lookIn_ns ns
  have no : PySem.W.notCls oe = true := by unfold PySem.W.notCls; rw [fv] <;> rfl
  have at_ : PySem.W.InstAt s.heap x oe D (some od) := ⟨there, zc, no, by rw [zd]; exact look⟩
  have hcl : (PySem.W.clsIn X.K D).isSome = true := by
    obtain ⟨cd, hc, _⟩ := PySem.W.any_some Z.hd
    rw [hc]; rfl
  match us, r with
  | [_, u], .cons rx (.cons rc .nil) =>
    cases rx
    cases hcv _ rc
    exact PySem.W.kia_one (PySem.W.kitx_exc hcl Z.hg Z.hk Z.hs Z.ha Z.hn Z.ht Z.hm) I.kIn at_ e (fun z => nomatch z) fun tk => ⟨.bl b, H, I.kept (t' := tk) fun _ _ z => z, rfl, q⟩
end
namespace XB
open PySem PySem.Spec PyProof.Rows PySem.Builtin PySem.Builtin.ObjectAttr
/-- what is asked of a built-in error class that own ones stand under: B the one whose __new__ makes them, bm the line of the one they stand under -/
structure Facts (B newId initId : String) (bm : List Value) : Prop where
  base : ∃ bmB, ExcBaseFacts B newId initId bmB
  hB : bm.contains (.type B) = true
  hA : bm.contains (.type "AttributeError") = false
  hN : bm.contains (.type "NameError") = false
  free : ∀ self : Value, refuseLoop self "__setattr__" bm = pure ()
  thing : bm.contains (.type "object") = true
theorem lookupError : Facts "LookupError" "LookupError.__new__" "LookupError.__init__" [.type "LookupError", .type "Exception", .type "BaseException", .type "object"] := ⟨⟨_, PySem.F.excBase_LookupError⟩, by decide +kernel, by decide +kernel, by decide +kernel, fun _ => by kernel_rfl, by decide +kernel⟩
theorem runtimeError : Facts "RuntimeError" "RuntimeError.__new__" "RuntimeError.__init__" [.type "RuntimeError", .type "Exception", .type "BaseException", .type "object"] := ⟨⟨_, PySem.F.excBase_RuntimeError⟩, by decide +kernel, by decide +kernel, by decide +kernel, fun _ => by kernel_rfl, by decide +kernel⟩
theorem indexError : Facts "IndexError" "IndexError.__new__" "IndexError.__init__" [.type "IndexError", .type "LookupError", .type "Exception", .type "BaseException", .type "object"] := ⟨⟨_, PySem.F.excBase_IndexError⟩, by decide +kernel, by decide +kernel, by decide +kernel, fun _ => by kernel_rfl, by decide +kernel⟩
theorem valueError : Facts "ValueError" "ValueError.__new__" "ValueError.__init__" [.type "ValueError", .type "Exception", .type "BaseException", .type "object"] := ⟨⟨_, PySem.F.excBase_ValueError⟩, by decide +kernel, by decide +kernel, by decide +kernel, fun _ => by kernel_rfl, by decide +kernel⟩
/-- under an own class that stands there -/
theorem Facts.under {W : Addr} {B newId initId : String} {bm : List Value} (T : Facts B newId initId bm) : Facts B newId initId (.ref W :: bm) :=
  ⟨T.base, by rw [List.contains_cons, T.hB, Bool.or_true], by rw [List.contains_cons, T.hA]; rfl, by rw [List.contains_cons, T.hN]; rfl, fun self => by rw [refuseLoop_ref]; exact T.free self, by rw [List.contains_cons, T.thing, Bool.or_true]⟩
/-- a KeyError has no __new__ of its own -/
theorem keyError : Facts "LookupError" "LookupError.__new__" "LookupError.__init__" [.type "KeyError", .type "LookupError", .type "Exception", .type "BaseException", .type "object"] := ⟨⟨_, PySem.F.excBase_LookupError⟩, by decide +kernel, by decide +kernel, by decide +kernel, fun _ => by kernel_rfl, by decide +kernel⟩
section
variable {prog : Program} {w : World} {A : Around} {E : Value → Shared → Prop} {R : Result → Shared → Prop} {h : Heap} {g : Array GenState} {d : Drawn} {t : Nat} {os : OsState}
variable {nm q : Str} {C N : Addr} {bs bm : List Value} {hdct : Bool} {sn : List Str} {sub : List Value} {ab : Bool} {col : Option Bool} {dd : Option Addr} {k0 k1 k2 k3 k5 : Option Value} {B newId initId : String}
/-- the new one is laid by __new__ -/
theorem mk_new (T : Facts B newId initId bm) {rest : List Value} (hC : h.get? C = some (excClassObj nm q C N bs bm hdct sn sub ab col dd k0 k1 k2 k3 k5 newId)) (few : rest.length ≤ sizeLine)
    (go : R (.ok (.ret (.ref (h.objs.size + 1)))) ⟨(h.push (W.kdv_tup rest)).push (PySem.HandSPX.excO C h.objs.size), g, d, t, os⟩) : codeAny (model prog w) A (.builtin newId ⟨.ref C :: rest, []⟩) R ⟨h, g, d, t, os⟩ := by
  obtain ⟨bmB, F⟩ := T.base
  have e1 : (Value.ref C :: bm).contains (.type B) = true := by rw [List.contains_cons, T.hB, Bool.or_true]
  have e2 : (Value.ref C :: bm).contains (.type "AttributeError") = false := by rw [List.contains_cons, T.hA]; rfl
  have e3 : (Value.ref C :: bm).contains (.type "NameError") = false := by rw [List.contains_cons, T.hN]; rfl
  have e4 := F.ends
  refine codeAny_builtinAt F.entry ?_
  unfold Builtin.«BaseException.__new__»
  refine PySem.wpAt_bind (?_ : PySem.wpAt _ _ _ (stack >>= _) _ _ _)
  refine PySem.wpAt_bind (PySem.wpAt_stack fun _ _ => PySem.wpAt_of_wpAny ?_)
  wp_walk
  refine PySem.wpAt_of_wpAny (?_)
  rw [F.owner]
  repeat (first | (with_reducible refine wpAny_madeHere_exc F.canon hC ?_) | (with_reducible refine wpAny_loadPart_at hC ?_) | (with_reducible refine wpAny_isSubtype_exc hC ?_; (first | rw [e1] | rw [e2] | rw [e3])) | wp_step)
  show R _ _
  rw [Heap.size_push]
  exact go
theorem chk_new (T : Facts B newId initId bm) {rest : List Value} {Q : Unit → Shared → Prop} (hC : h.get? C = some (excClassObj nm q C N bs bm hdct sn sub ab col dd k0 k1 k2 k3 k5 newId)) (go : Q () ⟨h, g, d, t, os⟩) :
    wpAny (model prog w) A (checkBuiltinCall newId ⟨.ref C :: rest, []⟩) Q E ⟨h, g, d, t, os⟩ := by
  obtain ⟨bmB, F⟩ := T.base
  have e1 : (Value.ref C :: bm).contains (.type B) = true := by rw [List.contains_cons, T.hB, Bool.or_true]
  have e4 := F.noStar
  simp only [checkBuiltinCall, F.newRow, F.newSplit, F.newKind]
  repeat (first | refine wpAny_loadPart_at hC ?_ | (refine wpAny_isSubtype_exc hC ?_; (rw [e1])) | refine wpAny_madeBy_exc hC ?_ | refine wpAny_staticBase_exc hC ?_ | (simp only [bne_self_eq_false, Bool.false_eq_true, if_false]) | wp_step)
  exact go
theorem call_typ (T : Facts B newId initId bm) {rest : List Value} {fI : Addr} {Q : Fin → Shared → Prop} (hC : h.get? C = some (excClassObj nm q C N bs bm hdct sn sub ab col dd k0 k1 k2 k3 k5 newId)) (few : rest.length ≤ sizeLine)
    (hi : W.Looks (model prog w) h (typeLookup (.ref C) "__init__") (some (.ref fI))) (hb : ∀ self, W.Looks (model prog w) h (bindSpecial (.ref fI) self) (.ref fI, [self]))
    (go : codeAny (model prog w) A (.call (.ref fI) ⟨.ref (h.objs.size + 1) :: rest, []⟩) (fun r s' => match r with | .ok (.ret v) => v = .none ∧ Q (.done (.ret (.ref (h.objs.size + 1)))) s' | .ok _ => False | .error e => E e s') ⟨(h.push (W.kdv_tup rest)).push (PySem.HandSPX.excO C h.objs.size), g, d, t, os⟩) :
    wpAny (model prog w) A (Builtin.«type.__call__» ⟨.ref C :: rest, []⟩) Q E ⟨h, g, d, t, os⟩ := by
  obtain ⟨bmB, F⟩ := T.base
  repeat (first | (with_reducible refine wpAny_loadPart_at hC ?_) | (with_reducible refine wpAny_madeBy_exc hC ?_) | wp_step)
  refine codeAny_call_builtin_code (Code.quiet_builtin _ F.quiet) (chk_new T hC (mk_new T hC few ?_))
  show wpAny _ _ _ _ _ _
  have up : ∀ b o, h.get? b = some o → ((h.push (W.kdv_tup rest)).push (PySem.HandSPX.excO C h.objs.size)).get? b = some o := fun _ _ z => Heap.get?_push_of_some _ (Heap.get?_push_of_some _ z)
  have hC1 := up _ _ hC
  have at1 : ((h.push (W.kdv_tup rest)).push (PySem.HandSPX.excO C h.objs.size)).get? (h.objs.size + 1) = some (PySem.HandSPX.excO C h.objs.size) := by heap_get
  have e1 : (Value.ref C :: bm).contains (.ref C) = true := by simp
  have i1 := hi.keeps up
  have b1 := (hb (.ref (h.objs.size + 1))).keeps up
  unfold isInstance
  repeat (first | (with_reducible refine wpAny_loadPart_at at1 ?_) | (with_reducible refine wpAny_isSubtype_exc hC1 ?_; (rw [e1])) | wp_step)
  refine (i1.at ?_ : wpAny _ _ (typeLookup (.ref C) _) _ _ _)
  refine wpAny_holding (wpAny_bind (b1.at (wpAny_bind (wpAny_call (codeAny_mono go fun r s' z => ?_)))))
  rcases r with e | (v | _ | _ | _) <;> first | exact z.elim | exact z | skip
  obtain ⟨rfl, z⟩ := z
  first | exact wpAny_pure (wpAny_pure z) | (wp_walk; exact z)
theorem call_cls (T : Facts B newId initId bm) {rest : List Value} {fI : Addr} (hC : h.get? C = some (excClassObj nm q C N bs bm hdct sn sub ab col dd k0 k1 k2 k3 k5 newId))
    (hi : W.Looks (model prog w) h (typeLookup (.ref C) "__init__") (some (.ref fI))) (hb : ∀ self, W.Looks (model prog w) h (bindSpecial (.ref fI) self) (.ref fI, [self])) (few : rest.length ≤ sizeLine)
    (go : codeAny (model prog w) (A.under (.builtin "type.__call__" ⟨.ref C :: rest, []⟩)) (.call (.ref fI) ⟨.ref (h.objs.size + 1) :: rest, []⟩) (W.InitBack (h.objs.size + 1) R) ⟨(h.push (W.kdv_tup rest)).push (PySem.HandSPX.excO C h.objs.size), g, d, t, os⟩) :
    codeAny (model prog w) A (.call (.ref C) ⟨rest, []⟩) R ⟨h, g, d, t, os⟩ := by
  have z1 := tc_lookup
  have z2 := tc_bind (.ref C)
  have z3 : (⟨h, g, d, t, os⟩ : Shared).TypeIs (.ref C) "type" := ⟨_, hC, rfl⟩
  refine codeAny_of_tree (?_ : wpAny _ _ (callAny (.ref C) _) _ _ _)
  repeat (any_goals (first | assumption | (with_reducible refine wpAny_loadPart_at hC ?_) | wp_step))
  refine ⟨rfl, codeAny_call_builtin_at (Code.quiet_builtin _ (by decide +kernel)) entry_typeCall (wpAny_check_type_call_sub hC (call_typ T hC few hi hb ?_))⟩
  refine codeAny_mono go fun r s' z => ?_
  rcases r with e | (v | _ | _ | _) <;> exact z
end
/-- the first field of a new error, whatever built-in class its own class stands under -/
theorem first_field {prog : Program} {w : World} {A : Around} {R : Result → Shared → Prop} {h : Heap} {g : Array GenState} {d : Drawn} {t : Nat} {os : OsState} {K : W.Frag} {name : Str} {tk : Tok} {v : Value} {x C : Addr} {fv : Array Value} {cd : ClassData}
    (X : K.In h) (hx : h.get? x = some { cls := .ref C, data := .fields fv }) (hcd : W.clsIn K C = some cd) (some_ : cd.mro.isEmpty = false) (thing : cd.mro.contains (.type "object") = true) (free : ∀ self : Value, refuseLoop self "__setattr__" cd.mro = pure ())
    (own : cd.hasDict = true) (no : W.findIn K (.ref C) name = some none)
    (q : ∀ h' tk' dx, (∀ b o, b ≠ x → h.get? b = some o → h'.get? b = some o) → h.objs.size ≤ dx → dx ≠ x → h'.get? x = some { cls := .ref C, dict := some dx, data := .fields fv } → h'.Ns1 dx (fun y => if y = name then some v else none) → R (.ok (.ret .none)) ⟨h', g, d, tk', os⟩) :
    codeAny (model prog w) A (.call (.builtin "object.__setattr__") ⟨[.ref x, .str name tk, v], []⟩) R ⟨h, g, d, t, os⟩ := by
  have at_ : W.InstAt h x { cls := .ref C, data := .fields fv } C none := ⟨hx, rfl, rfl, trivial⟩
  have apart : x ≠ h.objs.size := Nat.ne_of_lt (Heap.lt_size hx)
  have class_ : W.Looks (model prog w) h (classData C) cd := W.looks_clsIn X hcd
  have line_ : W.Looks (model prog w) h (mroOf (.ref C)) cd.mro := class_.andThen .now
  have under : W.Looks (model prog w) h (isInstance (.ref x) (.type "object")) true := at_.type.andThen (W.looks_mroIn X (by unfold W.mroIn; rw [hcd, Option.bind_some, if_neg (by rw [some_]; decide), thing]))
  have st := PySem.F.store_object
  refine codeAny_call_builtin st.slot.plain st.entry (@W.check_slot (model prog w) _ _ ⟨h, g, d, t, os⟩ "object.__setattr__" "object" "__setattr__" (.ref x) [.str name tk, v] [] _ st.kind st.split under (st.args (.ref x) (.str name tk) v) ?_)
  have none_ : W.Looks (model prog w) h (storeTaker? none) none := .now
  rw [W.osa_eq, refuse_eq]
  refine wpAny_bind (wpAny_bind (at_.type.at (wpAny_bind (line_.at ?_))))
  rw [free]
  refine wpAny_pure ?_
  refine wpAny_bind (at_.type.at (wpAny_bind ((W.looks_findIn X no).at (wpAny_bind (none_.at ?_)))))
  show wpAny _ _ (storeInOwnDict (.ref x) (.ref C) (.str name tk) name v false) _ _ _
  cases cd
  cases own
  unfold storeInOwnDict ownDictForStores
  repeat (first | with_reducible refine PySem.HandSPX.store_in_new ?_ ?_ | with_reducible refine wpAny_loadPart_at hx ?_ | with_reducible refine class_.at ?_ | wp_step)
  · exact ⟨_, #[], _, (Heap.get?_update_ne _ _ _ _ apart.symm).trans (Heap.get?_push_at rfl rfl), rfl, fun e he => absurd he (by simp), fun _ => rfl⟩
  · intro h' tk' new only
    have hx1 : (h.push { cls := .type "dict", data := .dict #[] }).get? x = some { cls := .ref C, data := .fields fv } := Heap.get?_push_of_some _ hx
    exact q h' tk' h.objs.size (fun b o nb ob => (only.2 b (Nat.ne_of_lt (Heap.lt_size ob))).trans ((Heap.get?_update_ne _ _ _ _ nb).trans (Heap.get?_push_of_some _ ob))) (Nat.le_refl _) apart.symm ((only.2 x apart).trans (Heap.get?_update_self _ hx1 rfl)) new

open L2
/-- what the written part says of an own error class that stands straight under a built-in one -/
structure Own (K : PySem.W.Frag) (C : Addr) (B newId initId : String) (bm : List Value) : Prop where
  fx : Facts B newId initId bm
  cls : ∃ nm q N bs sn sub ab col dd k0 k1 k2 k3 k5, K.lookup C = some (excClassObj nm q C N bs bm true sn sub ab col dd k0 k1 k2 k3 k5 newId)
  sa : PySem.W.findIn K (.ref C) "__setattr__" = some (some (.builtin "object.__setattr__"))
  exC : PySem.W.subIn K (.ref C) (.type "BaseException") = some true
  tyC : PySem.W.typeIn K (.ref C) = some (.type "type")
  kC : PySem.W.keepIn K (.ref C) = true
section
variable {X : Cx} {pins : List (Addr × Obj)} {σ : L2.St} {H : Hp} {s : Shared} {a C : Addr} {f : Str} {y : V} {u : Value} {Q : Unit → Shared → Prop} {E : Value → Shared → Prop} {A : Around} {B newId initId : String} {bm : List Value}
/-- self.f = y of a new error that has no field yet -/
theorem put_first (T : Own X.K C B newId initId bm) (I : Inv X pins σ H s) (e : H a = some (exo a C none)) (no : PySem.W.findIn X.K (.ref C) f = some none) (ry : RelV y u)
    (q : ∀ dx s', H dx = none → dx ≠ a → Inv X pins σ (upd (upd H dx (exd dx [(f, y)])) a (exo a C (some dx))) s' → Q () s') : wpAny (model X.prog X.w) A (setAttr (.ref a) f u) Q E s := by
  obtain ⟨nm, qn, N, bs, sn, sub, ab, col, dd, k0, k1, k2, k3, k5, hC⟩ := T.cls
  have cl : PySem.W.clsIn X.K C = some { name := nm, bases := bs, mro := .ref C :: bm, ns := N, qualname := qn, hasDict := true, slotNames := sn, subclasses := sub, abstract := ab, collection := col, hasDel := false } := by
    unfold PySem.W.clsIn
    rw [hC] <;> rfl
  obtain ⟨t1, there⟩ := exo_at I.hok e
  obtain ⟨h, g, d, t, os⟩ := s
  refine PySem.W.set_plain I.kIn (ox := { cls := .ref C, dict := none, data := .fields #[.ref t1, .none, .none, .none, .bool false, .none] }) (od := none) ⟨there, rfl, rfl, trivial⟩ T.sa ?_
  refine first_field I.kIn there cl rfl (by show (Value.ref C :: bm).contains _ = true; rw [List.contains_cons, T.fx.thing, Bool.or_true]) (fun self => by show refuseLoop self _ (.ref C :: bm) = _; rw [refuseLoop_ref]; exact T.fx.free self) rfl no ?_
  intro h' tk' dx keep new na here ns
  have fresh : H dx = none := I.hok.fresh new
  have off : ∀ {b : Addr} {o : Obj}, h.get? b = some o → b ≠ dx := fun z => Nat.ne_of_lt (Nat.lt_of_lt_of_le (Heap.lt_size z) new)
  have other : ∀ {b : Addr}, H b = none → b ≠ a := fun n z => by
    rw [z, e] at n
    cases n
  have two : ∀ {b : Addr}, b ≠ a → b ≠ dx → (upd (upd H dx (exd dx [(f, y)])) a (exo a C (some dx))) b = H b := fun n1 n2 => by rw [upd_ne n1, upd_ne n2]
  refine q dx _ fresh na (I.un (t' := tk') ⟨fun b o z n _ _ => keep b o (other n) z, fun b o z n _ _ => ⟨o.slots, keep b o (other n) z⟩, fun b o z n _ => by rw [two (other n) (off z)]; exact n, fun b o z _ => ?_,
    fun b xs z => by rw [two (at_ne e z exo_tup) (ne_of_none z fresh)]; exact z, fun b o v z => by rw [two (at_ne e z exo_frz) (ne_of_none z fresh)]; exact z, fun b ps z => ⟨#[], by rw [two (at_ne e z exo_tbl) (ne_of_none z fresh), z]; simp⟩⟩ fun b o z => ?_)
  · by_cases c : b = a
    · exact ⟨_, by rw [c]; exact here⟩
    · exact ⟨o, keep b o c z⟩
  · by_cases c : b = a
    · subst c
      rw [upd_same] at z
      cases z
      exact exo_ok here
    · by_cases c2 : b = dx
      · subst c2
        rw [upd_ne c, upd_same] at z
        cases z
        exact exd_ok ns (relO_put (fs := []) ry fun g => True.intro)
      · rw [two c c2] at z
        refine (I.hok b o z).stay (fun b' v hb z' => keep b' v ?_ z') (fun b' hb => by rw [two (at_ne e hb exo_own) (ne_of_none hb fresh)]; exact hb) (fun b' xs hb => by rw [two (at_ne e hb exo_tup) (ne_of_none hb fresh)]; exact hb)
        rcases hb with hb | hb
        · rw [hb]
          exact c
        · exact at_ne e hb exo_own
end
/-- self.f = e in the own __init__, the first one -/
def tPut (K : PySem.W.Frag) (C : Addr) (f : Str) (to te : TE) : TS := fun D σ H => te σ H fun y H1 => to σ H1 fun x H2 => ∃ a : Addr, x = .ref a ∧ H2 a = some (exo a C none) ∧ ∀ dx, H2 dx = none → dx ≠ a → D.nx σ (upd (upd H2 dx (exd dx [(f, y)])) a (exo a C (some dx)))
section
variable {X : Cx} {C : Addr} {B newId initId : String} {bm : List Value} {o e : Expr} {es : List Expr} {to te : TE} {ta : TA} {f : Str} {p p' pos : Pos}
theorem ps_put (T : Own X.K C B newId initId bm) (no : PySem.W.findIn X.K (.ref C) f = some none) (ho : PE X o to) (he : PE X e te) (hs : swapsWith e (some (.Attribute o f p')) pos.line X.env = pure false := by rfl) : PS X (.Assign [.Attribute o f p'] e pos) (tPut X.K C f to te) := by
  constructor
  intro pins s σ H D I h
  refine plainObj_wpAny_Assign_Attribute (thn (he.run pins s σ H _ I h) ?_) hs
  rintro v s1 ⟨y, H1, I1, r1, q1⟩
  refine thn (ho.run pins s1 σ H1 _ I1 q1) ?_
  rintro u s2 ⟨x, H2, I2, r2, a, rfl, ea, q⟩
  cases r2
  exact put_first T I2 ea no r1 fun dx s' n ne J => ⟨σ, _, J, q dx n ne⟩
/-- C(e, ..) of such a class, to be raised -/
theorem pmk {CX : CXT} {x : Str} {fI : Addr} {k : Nat} {fd : FuncData} {ps : List Str} {sp : Sp} (T : Own X.K C B newId initId bm) (iC : PySem.W.findIn X.K (.ref C) "__init__" = some (some (.ref fI))) (tI : PySem.W.typeIn X.K (.ref fI) = some (.type "function"))
    (F1 : FnOk X.prog X.w X.K X.mg X.base CX k fI fd ps sp) (hr : Room (k + 1) X.A) (hb : Binds X.K fd ps []) (hx : Passes CX X (fun _ _ _ => False)) (hg : Gl X x) (hm : X.mg x = some (.ref C)) (ha : PA X (e :: es) ta)
    (hdb : (x == ("__debug__" : Str)) = false := by decide) (he : starEach (e :: es) X.env = (false, eval e X.env) :: starEach es X.env := by rfl) (hpl : (backTo pos (starEach es X.env)).any (·.1) = false := by rfl) :
    PMk X (.Call (.Name x p) (e :: es) [] pos) (tMkO C sp [] ta) := by
  intro pins s σ H Q I h
  obtain ⟨nm, qn, N, bs, sn, sub, ab, col, dd, k0, k1, k2, k3, k5, hC⟩ := T.cls
  refine wpAny_Call_Name_kw (ld_glob I hg hm ?_ hdb)
  refine PySem.W.callWith_K (h₀ := X.base) I.ok.mod.kin T.kC (thn (ha.run pos pins s σ H _ I h) ?_) he hpl
  rintro us ⟨hp, g, dr, tk, os⟩ ⟨vs, H1, I1, r1, hz, q1⟩
  refine ⟨I1.kIn, ?_⟩
  have new : hp.objs.size ≤ hp.objs.size + 1 := Nat.le_succ _
  have hq := q1 (hp.objs.size + 1) (I1.hok.fresh new)
  have grow : ∀ b o, hp.get? b = some o → ((hp.push (PySem.W.kdv_tup us)).push (PySem.HandSPX.excO C hp.objs.size)).get? b = some o := fun b o z => Heap.get?_push_of_some _ (Heap.get?_push_of_some _ z)
  have there : ((hp.push (PySem.W.kdv_tup us)).push (PySem.HandSPX.excO C hp.objs.size)).get? (hp.objs.size + 1) = some (PySem.HandSPX.excO C hp.objs.size) := by heap_get
  have I2 := I1.laid (t' := tk) (a := hp.objs.size + 1) (o := exo (hp.objs.size + 1) C none) (h' := (hp.push (PySem.W.kdv_tup us)).push (PySem.HandSPX.excO C hp.objs.size)) grow new (exo_ok there)
  rw [List.append_nil] at hq
  have r2 : Vals (V.ref (hp.objs.size + 1) :: vs) (Value.ref (hp.objs.size + 1) :: us) := .cons rfl r1
  have len : (Value.ref (hp.objs.size + 1) :: us ++ []).length = ps.length := by
    have z := r2.length
    rw [F1.len _ _ _ _ hq] at z
    rw [List.append_nil]
    exact z.symm
  have few : us.length ≤ sizeLine := by
    rw [← Paired.length r1, sizeLine_eq]
    omega
  have bd := hb _ (Value.ref (hp.objs.size + 1) :: us) I2.kIn len
  rw [List.append_nil] at bd
  refine wpAny_call (call_cls T.fx (I1.kIn _ _ hC) (PySem.W.looks_findIn I1.kIn iC) (fun self => PySem.W.bind_fn I1.kIn self tI) few
    (codeAny_mono (F1.run _ X.stack _ _ ⟨Value.ref (hp.objs.size + 1) :: us, []⟩ (Value.ref (hp.objs.size + 1) :: us) _ _ (fun _ _ _ => False) (hr.make C us []) (I2.env0.make C us []) bd r2 hq) fun r s' z => ?_))
  cases r with
  | error er => exact hx pins σ _ _ er s' I2 z
  | ok fl =>
    cases fl with
    | ret u =>
      obtain ⟨v, H2, os2, bare2, un2, hok2, rv, ev, d, fs, ea, ed, hd1, q2⟩ := z
      cases ev
      obtain ⟨h2, g2, d2, t2, os'⟩ := s'
      exact ⟨rv, mk_end (raises_own T.exC T.tyC) I1 new grow un2 hok2 os2 bare2 ea ed hd1 q2⟩
    | next => exact z.elim
    | brk => exact z.elim
    | cont => exact z.elim
end
end XB
/-! sorted(xs, key=lambda row: row[i]) -/
namespace SL
open PySem PySem.Spec PyProof.Rows L2 LamX PySem.W
/-- a key: a whole number, or a tuple of whole numbers -/
def KeyV (K : PySem.W.Frag) (H : Hp) (v : V) (d : PyData) : Prop :=
  (∃ n, v = .int n ∧ d = .int n) ∨ ∃ (c : Addr) (ns : List Int), v = .ref c ∧ SqT K H c (ns.map V.int) ∧ d = .tuple (ns.map PyData.int)
theorem depthAll_ints : ∀ ns : List Int, PyData.depthAll (ns.map PyData.int) = 0
  | [] => by simp [PyData.depthAll]
  | n :: ns => by simp [PyData.depthAll, PyData.depth, depthAll_ints ns]
theorem KeyV.depth {K : PySem.W.Frag} {H : Hp} {v : V} {d : PyData} (k : KeyV K H v d) : d.depth ≤ 1 := by
  rcases k with ⟨n, _, rfl⟩ | ⟨c, ns, _, _, rfl⟩
  · simp [PyData.depth]
  · simp [PyData.depth, depthAll_ints]
theorem reads_ints (h : Heap) : ∀ (ns : List Int) (vs : List Value), Vals (ns.map V.int) vs → ReadsAll h vs (ns.map PyData.int) [] := by
  intro ns
  induction ns with
  | nil =>
    intro vs r
    cases r
    exact .nil
  | cons n ns ih =>
    intro vs r
    obtain ⟨u, us, rfl, ru, rr⟩ : ∃ u us, vs = u :: us ∧ RelV (.int n) u ∧ Vals (ns.map V.int) us := by
      cases r with
      | cons a b => exact ⟨_, _, rfl, a, b⟩
    obtain ⟨t, rfl⟩ := ru
    exact .cons (as := []) (bs := []) (.int n t) (ih us rr)
section
variable {X : Cx} {pins : List (Addr × Obj)} {σ : L2.St} {H : Hp} {s : Shared}
theorem KeyV.reads {v : V} {d : PyData} {u : Value} (I : Inv X pins σ H s) (k : KeyV X.K H v d) (r : RelV v u) : Reads s.heap u d [] := by
  rcases k with ⟨n, rfl, rfl⟩ | ⟨c, ns, rfl, hs, rfl⟩
  · obtain ⟨t, rfl⟩ := r
    exact .int n t
  · obtain rfl : u = Value.ref c := r
    obtain ⟨its, rv, ⟨o, ho, hc, n, hd⟩, _⟩ := I.tuple hs
    exact .tuple ho hc hd (by simpa using reads_ints _ ns its rv)
end
section
variable {prog : Program} {w : World} {A : Around} {s : Shared}
/-- one turn of the key: the lambda gives the row's item, and keeps the heap -/
theorem lam_turn {f c' t : Addr} {x q : Str} {params : Arguments} {scope : Scope} {pm ctv : Value} {i : Int} {kd j : Nat} {p1 p2 p3 : Pos} {items : Array Value} {u : Value} {k : PyData}
    (hf : s.heap.get? f = some (PySem.W.kla_obj "<lambda>" q params (.Subscript (.Name x p1) (.Constant (.int i) kd p2) p3) scope [] pm c' ctv)) (hcode : s.heap.CodeRec (.ref c') q) (hlim : s.heap.NoLimit) (hroom : A.depth < recursionLimit)
    (hbind : ∀ v : Value, bindArgs (PySem.W.kla_fn "<lambda>" q params (.Subscript (.Name x p1) (.Constant (.int i) kd p2) p3) scope [] pm (.ref c') ctv) ⟨[v], []⟩ = pure [(x, v)])
    (hk : scope.kind = .function) (hco : scope.isCoroutine = false) (hgen : scope.isGenerator = false) (hcell : ∀ y ∈ scope.names, y.2 ≠ .cell) (hloc : scope.names.lookup x = some .local) (hdb : (x == ("__debug__" : Str)) = false)
    (ht : IsTup s.heap t items) (h0 : -(2 ^ 63) ≤ i) (h1 : i < 2 ^ 63) (hj : seqIndex? i items.size = some j) (hi : items[j]? = some u) (hr : Reads s.heap u k []) :
    wpAny (model prog w) A (call (.ref f) [.ref t]) (PySem.W.KeyPure k s) (fun _ _ => False) s := by
  refine wpAny_call (PySem.W.kla_callFunE hroom hf rfl hco hgen rfl hcode ?_)
  rw [hbind]
  refine wpAny_pure (wpAny_newFunctionEnv hcell (fun y hy => by
    rcases List.mem_singleton.mp hy with rfl
    exact hloc) (fun h₁ hns hsb => ⟨hlim.fresh _ hsb, ?_⟩) hk)
  have kp : ∀ b o, s.heap.get? b = some o → h₁.get? b = some o := fun b o e => hsb.extBut b o (Nat.ne_of_lt (Heap.lt_size e)) (Heap.get?_push_of_some _ e)
  refine PySem.W.kla_codeExpr (wpAny_Subscript_Constant_late ?_)
  refine wpAny_Name (wpAny_loadName_local (m := fun y => [(x, Value.ref t)].reverse.lookup y) (v := .ref t) hk hloc hns (by simp [List.lookup]) ?_) hdb
  refine wpAny_Constant_int ⟨"tuple", _, slot_tuple_getitem.lookup, (ht.keeps kp).typeIs, ?_⟩
  exact getItem_tuple (j := j) (ht.keeps kp) h0 h1 hj hi ⟨_, _, rfl, fun b o e => kp b o e, PyProof.Rows.Reads.keeps kp hr⟩
end
/-- what each row is: its text as a value, its key -/
def RowV (K : PySem.W.Frag) (H : Hp) (i : Int) (b : V × PyData) : Prop := ∃ t xs kv, b.1 = V.ref t ∧ SqT K H t xs ∧ atI xs i = some kv ∧ KeyV K H kv b.2
def tSortLam (K : PySem.W.Frag) (T : List (Addr × Str)) (i : Int) (te : TE) : TE := fun σ H Q => te σ H fun x H1 => ∃ (l : Addr) (bs : List (V × PyData)), x = .ref l ∧ SqL K H1 l (bs.map (·.1)) ∧ AllAlike (bs.map (·.2)) ∧ Sortable (bs.map (·.2)) ∧
  (∀ b ∈ bs, RowV K H1 i b) ∧ Tabs T H1 ∧ ∀ H2 p, ExtN H1 H2 → Tabs T H2 → H2 p = none → Q (.ref p) (upd H2 p (.lst ((bs.mergeSort (PySem.W.dataLe false (·.2))).map (·.1))))
section
variable {X : Cx}
theorem SqT.extN {K : PySem.W.Frag} {H H' : Hp} {a : Addr} {xs : List V} (h : SqT K H a xs) (e : ExtN H H') : SqT K H' a xs :=
  h.elim (fun r => .inl (r.elim (fun r => .inl (e _ _ r fun ps z => by cases z)) fun ⟨o, r⟩ => .inr ⟨o, e _ _ r fun ps z => by cases z⟩)) .inr
theorem SqL.extN {K : PySem.W.Frag} {H H' : Hp} {a : Addr} {xs : List V} (h : SqL K H a xs) (e : ExtN H H') : SqL K H' a xs :=
  h.elim (fun r => .inl (r.elim (fun r => .inl (e _ _ r fun ps z => by cases z)) fun ⟨o, r⟩ => .inr ⟨o, e _ _ r fun ps z => by cases z⟩)) .inr
theorem KeyV.extN {K : PySem.W.Frag} {H H' : Hp} {v : V} {d : PyData} (k : KeyV K H v d) (e : ExtN H H') : KeyV K H' v d :=
  k.elim .inl fun ⟨c, ns, a, b, z⟩ => .inr ⟨c, ns, a, SqT.extN b e, z⟩
theorem RowV.extN {K : PySem.W.Frag} {H H' : Hp} {i : Int} {b : V × PyData} (r : RowV K H i b) (e : ExtN H H') : RowV K H' i b := by
  obtain ⟨t, xs, kv, a, b, c, d⟩ := r
  exact ⟨t, xs, kv, a, SqT.extN b e, c, d.extN e⟩
theorem eachIs_vals {H : Hp} {R : Value → V × PyData → Prop} : ∀ (bs : List (V × PyData)) (us : List Value), Vals (bs.map (·.1)) us → (∀ b ∈ bs, ∀ u, RelV b.1 u → R u b) → PySem.W.EachIs R us bs := by
  intro bs
  induction bs with
  | nil =>
    intro us r _
    cases r
    exact .nil
  | cons b bs ih =>
    intro us r h
    obtain ⟨u, vs, rfl, ru, rr⟩ : ∃ u vs, us = u :: vs ∧ RelV b.1 u ∧ Vals (bs.map (·.1)) vs := by
      cases r with
      | cons a b => exact ⟨_, _, rfl, a, b⟩
    exact .cons (h b (.head _) u ru) (ih vs rr fun c hc => h c (.tail _ hc))
theorem vals_eachIs {R : Value → V × PyData → Prop} (h : ∀ u b, R u b → RelV b.1 u) : ∀ {us : List Value} {bs : List (V × PyData)}, PySem.W.EachIs R us bs → Vals (bs.map (·.1)) us := by
  intro us bs e
  induction e with
  | nil => exact .nil
  | cons a _ ih => exact .cons (h _ _ a) ih
/-- sorted(e, key=lambda y: y[i]) -/
theorem pe_sortLam {T : List (Addr × Str)} {y : Str} {c P : Addr} {k kd : Nat} {params : Arguments} {scope : Scope} {e : Expr} {te : TE} {i : Int} {p p1 p2 p3 lpos kpos pos : Pos}
    (hg : Gl X "sorted") (hm : X.mg "sorted" = none) (ha : PE X e te) (TB : TabB X.base X.mg c P) (hcode : X.env.code = .ref c) (hmT : (P, X.env.qual ++ "<lambda>") ∈ T) (hu : ∀ p ∈ T, p.1 = P → p.2 = X.env.qual ++ "<lambda>") (hr : Room k X.A)
    (hdef : defaultsOf params X.env = ([], [])) (hfree : ∀ y ∈ scope.names, y.2 ≠ .free) (hcell : ∀ y ∈ scope.names, y.2 ≠ .cell)
    (hbind : ∀ (q : Str) (b : Expr) (pm cv ctv v : Value), bindArgs (PySem.W.kla_fn "<lambda>" q params b scope [] pm cv ctv) ⟨[v], []⟩ = pure [(y, v)])
    (hk : scope.kind = .function) (hco : scope.isCoroutine = false) (hgen : scope.isGenerator = false) (hloc : scope.names.lookup y = some .local) (h0 : -(2 ^ 63) ≤ i) (h1 : i < 2 ^ 63) (hclo : cloFrom X.env.cells scope.names [] = [] := by rfl)
    (hdb : (y == ("__debug__" : Str)) = false := by decide) (hst : starEach [e] X.env = (false, eval e X.env) :: starEach [] X.env := by rfl)
    (he : backTo pos (starEach [e] X.env) = (false, eval e X.env) :: backTo pos (starEach [] X.env) := by rfl) (hpl : (backTo pos (starEach [e] X.env)).any (·.1) = false := by rfl) :
    PE X (.Call (.Name "sorted" p) [e] [⟨some "key", .Lambda params (.Subscript (.Name y p1) (.Constant (.int i) kd p2) p3) scope lpos, kpos⟩] pos) (tSortLam X.K T i te) := by
  refine ⟨fun pins s σ H Q I h => ?_⟩
  refine wpAny_Call_Name_kw (ld_blt (u := .builtin "sorted") I hg hm (by decide +kernel) ?_)
  refine PyProof.Rows.callWith_kw ?_ he hpl rfl rfl
  refine thn ((pa_cons ha pa_nil hst).run pos pins s σ H (fun xs H1 => match xs with
    | [x] => ∃ (l : Addr) (bs : List (V × PyData)), x = .ref l ∧ SqL X.K H1 l (bs.map (·.1)) ∧ AllAlike (bs.map (·.2)) ∧ Sortable (bs.map (·.2)) ∧
      (∀ b ∈ bs, RowV X.K H1 i b) ∧ Tabs T H1 ∧ ∀ H2 p, ExtN H1 H2 → Tabs T H2 → H2 p = none → Q (.ref p) (upd H2 p (.lst ((bs.mergeSort (PySem.W.dataLe false (·.2))).map (·.1))))
    | _ => False) I h) fun us s1 ⟨vs, H1, I1, r1, q1⟩ => ?_
  obtain ⟨x, rfl⟩ : ∃ x, vs = [x] := by
    match vs, q1 with
    | [x], _ => exact ⟨x, rfl⟩
  obtain ⟨l, bs, rfl, hs, hal, hsk, hrow, hT, q⟩ := q1
  obtain rfl := Vals.ref1 r1
  show wpAny _ _ (evalAll ((do let v ← eval (.Lambda params (.Subscript (.Name y p1) (.Constant (.int i) kd p2) p3) scope lpos) X.env; standAt pos; pure v) :: [])) _ _ s1
  refine wpAny_evalAll_cons (wpAny_bind (lam_make2 I1 TB hcode hmT hu hT hdef (fun y hy z => absurd z (hfree y hy)) fun f c' pm ctv H2 s2 I2 eN T2 hf hfn hfr hcO => wpAny_bind (wpAny_standAt (wpAny_pure (wpAny_evalAll_nil ?_)))))
  rw [hclo] at hf
  have hs2 := SqL.extN hs eN
  obtain ⟨its, rv, hl, hz⟩ := I2.list hs2
  rw [List.length_map] at hz
  obtain ⟨⟨oc, ws, t, hoc, hdc, hvc⟩, _, _⟩ := I2.hok c' _ hcO
  refine PySem.W.sorted_key_data (b := false) (R := fun u (b : V × PyData) => RelV b.1 u) (bs := bs) (fun b => b.2) hl.isList (eachIs_vals (H := H2) bs its rv fun b _ u r => r) hal hsk hz (fun b hb => ?_) (ksk_s1 _ _) (fun _ => ksk_l1 _ _) (fun _ => ksk_t1 _ _)
    (fun v b hR hb h tk kp => ?_) fun out c3 h' tk kp hnone hnew hlen eo => ?_
  · obtain ⟨_, _, kv, _, _, _, hkv⟩ := hrow b hb
    have := hkv.depth
    have := hr.un
    omega
  · obtain ⟨t', xs, kv, e1, e2, e3, e4⟩ := (hrow b hb).extN eN
    rw [e1] at hR
    obtain rfl : v = Value.ref t' := hR
    have I3 : Inv X pins σ H2 { s2 with heap := h, toks := tk } := I2.kept kp
    obtain ⟨us, ru, ht, _⟩ := I3.tuple e2
    obtain ⟨j, a1, a2, a3, _, _⟩ := atI_get e3
    obtain ⟨w, ew, rw'⟩ := ru.get a2
    exact lam_turn (i := i) (items := us.toArray) (u := w) (j := j) (kp _ _ hf) ⟨c', oc, ws, t, rfl, kp _ _ hoc, hdc, hvc⟩ I3.nolimit (by show X.A.depth < _; exact hr.depth) (fun v => hbind _ _ _ _ _ v) hk hco hgen hcell hloc hdb
      ht h0 h1 (by rw [List.size_toArray, ← ru.length]; exact a1) (by simpa using ew) (KeyV.reads I3 e4 rw')
  · refine ⟨.ref _, upd H2 (s2.heap.objs.size + 1) (.lst ((bs.mergeSort (PySem.W.dataLe false (·.2))).map (·.1))), I2.laid (t' := tk) kp (Nat.le_succ _) ⟨?_, out, c3, vals_eachIs (fun _ _ r => r) eo, hnew⟩, rfl, q _ _ eN T2 (I2.hok.fresh (Nat.le_succ _))⟩
    rw [List.length_map, List.length_mergeSort]
    exact hz
end
end SL
/-! sets made of a list of ints or texts, with doubles: len(set(xs)), sorted(set(xs)) of texts; len(set(xs)) of tuples of ints -/
namespace SM
open PySem PySem.Spec PyProof.Rows L2
def keyM (v : Value) : Key := match v with | .int k _ => .inl k | .str x _ => .inr x | _ => .inl 0
def GoodM (P : Program) (w : World) (e : Int × Value) : Prop := ∃ k : Key, RelV (kV k) e.2 ∧ e.1 = (mixKind P w).hash k
theorem keyM_of {k : Key} {v : Value} (r : RelV (kV k) v) : keyM v = k := by
  cases k with
  | inl i =>
    obtain ⟨t, rfl⟩ := r
    rfl
  | inr x =>
    obtain ⟨t, rfl⟩ := r
    rfl
/-- the set of keys at a, that can be walked -/
def SetM (P : Program) (w : World) (h : Heap) (a : Addr) (S : Key → Bool) (n : Nat) : Prop :=
  ∃ o es ep t, h.get? a = some o ∧ o.ExactSet ∧ o.data = .set es ep t ∧ (∀ e ∈ es.toList, GoodM P w e) ∧ (es.toList.map fun e => keyM e.2).Nodup ∧ (∀ k, S k = true ↔ k ∈ es.toList.map fun e => keyM e.2) ∧
    es.size < scanBound ∧ t.fits es.size = true ∧ es.size = n ∧ Ris t.place.toList ∧ (w.params.followText "set-order" = true ∨ t.led = true)
section
variable {P : Program} {w : World} {h h' : Heap} {a : Addr} {S : Key → Bool} {n : Nat}
theorem SetM.at (R : SetM P w h a S n) (k : ∀ o, h.get? a = some o → h'.get? a = some o) : SetM P w h' a S n := by
  obtain ⟨o, es, ep, t, ho, r⟩ := R
  exact ⟨o, es, ep, t, k o ho, r⟩
theorem goodM_elems {l : List (Int × Value)} (g : ∀ e ∈ l, GoodM P w e) : ElemsOf (mixKind P w) l := fun e he => by
  obtain ⟨k, h1, h2⟩ := g e he
  exact ⟨⟨k, kV_is h1, h2⟩, key_scan h1⟩
theorem goodM_is {e : Int × Value} (g : GoodM P w e) (k : Key) : (mixKind P w).is k e.2 = true ↔ keyM e.2 = k := by
  obtain ⟨k0, h1, _⟩ := g
  rw [keyM_of h1]
  constructor
  · intro q
    exact (mixKind P w).inj _ _ _ (kV_is h1) q
  · rintro rfl
    exact kV_is h1
theorem goodM_mem {l : List (Int × Value)} (g : ∀ e ∈ l, GoodM P w e) (k : Key) : (k ∈ l.map fun e => keyM e.2) ↔ ∃ e ∈ l, (mixKind P w).is k e.2 = true := by
  rw [List.mem_map]
  constructor
  · rintro ⟨e, he, q⟩
    exact ⟨e, he, (goodM_is (g e he) k).2 q⟩
  · rintro ⟨e, he, q⟩
    exact ⟨e, he, (goodM_is (g e he) k).1 q⟩
end
section
variable {P : Program} {w : World} {A : Around} {E : Value → Shared → Prop} {s : Shared} {a : Addr} {S : Key → Bool} {n : Nat}
theorem setM_add_tail {g : Bool → Sem Unit} (hg : ∀ (b : Bool) (s₁ : Shared) (Q' : Unit → Shared → Prop), Q' () s₁ → wpAny (model P w) A (g b) Q' E s₁)
    {o : Obj} {es : Array (Int × Value)} {ep : Nat} {t : SetTable} (ho : s.heap.get? a = some o) (hex : o.ExactSet) (hd : o.data = .set es ep t)
    {es1 : Array (Int × Value)} {t2 : SetTable} {S' : Key → Bool} (g1 : ∀ e ∈ es1.toList, GoodM P w e) (nd1 : (es1.toList.map fun e => keyM e.2).Nodup) (m1 : ∀ k, S' k = true ↔ k ∈ es1.toList.map fun e => keyM e.2)
    (hb1 : es1.size < scanBound) (hf2 : t2.fits es1.size = true) (hr : Ris t2.place.toList) (hl : w.params.followText "set-order" = true ∨ t2.led = true) {wasDummy : Bool} {R : Option Bool → Shared → Prop}
    (hR : ∀ h', Heap.SameBut a s.heap h' → SetM P w h' a S' es1.size → R (some true) { s with heap := h' }) :
    wpAny (model P w) A (do
        storeSet a es1 t2
        if (!wasDummy && t2.tooFull) = true then do
            g (relayAll t2 es1 (SetTable.grown es1.size)).2.2
            storeSet a (relayAll t2 es1 (SetTable.grown es1.size)).1 (relayAll t2 es1 (SetTable.grown es1.size)).2.1
            pure (some true)
          else pure (some true)) R E s := by
  refine wpAny_bind (wpAny_storeSet_of ho hd ?_ (fits_of_scanBound hb1))
  have ho1 := store_at (es' := es1) (t' := t2) ho hd
  have sb1 := Heap.SameBut.update s.heap a (Obj.putSet es1 t2)
  split
  · have pm := relayAll_perm t2 es1 (SetTable.grown es1.size)
    have hf3 := relayAll_fits t2 es1 (SetTable.grown es1.size)
    have hr3 := relayAll_ris t2 es1 (SetTable.grown es1.size)
    have hl3 := relayAll_led t2 es1 (SetTable.grown es1.size)
    generalize relayAll t2 es1 (SetTable.grown es1.size) = Z at pm hf3 hr3 hl3 ⊢
    obtain ⟨es2, t3, gave⟩ := Z
    dsimp only at pm hf3 hr3 hl3 ⊢
    have hsz : es2.size = es1.size := by rw [← Array.length_toList, pm.length_eq, Array.length_toList]
    have hb2 : es2.size < scanBound := by rw [hsz]; exact hb1
    refine wpAny_bind (hg _ _ _ ?_)
    refine wpAny_bind (wpAny_storeSet_of ho1 rfl ?_ (fits_of_scanBound hb2))
    have ho2 := store_at (es' := es2) (t' := t3) ho1 rfl
    refine wpAny_pure (hR _ (sb1.trans (Heap.SameBut.update _ a _)) ?_)
    exact ⟨_, es2, _, t3, ho2, hex, rfl, fun e he => g1 e (pm.mem_iff.mp he), (pm.map fun e => keyM e.2).nodup_iff.mpr nd1, fun k => (m1 k).trans (pm.map fun e => keyM e.2).mem_iff.symm, hb2, hf3, hsz, hr3,
      hl.imp id fun z => by rw [hl3]; exact z⟩
  · exact wpAny_pure (hR _ sb1 ⟨_, es1, _, t2, ho1, hex, rfl, g1, nd1, m1, hb1, hf2, rfl, hr, hl⟩)
theorem setM_add_hashed {k : Key} {u : Value} {Q : Bool → Shared → Prop} (ru : RelV (kV k) u) (R : SetM P w s.heap a S n) (room : n + 1 < scanBound)
    (hQ : ∀ h', Heap.SameBut a s.heap h' → SetM P w h' a (fun j => S j || decide (j = k)) (if S k = true then n else n + 1) → Q (!S k) { s with heap := h' }) :
    wpAny (model P w) A (setAddHashed a u ((mixKind P w).hash k)) Q E s := by
  obtain ⟨o, es, ep, t, ho, hex, hd, g, nd, hm, hb, hf, hn, hr, hl⟩ := R
  have hkey : (mixKind P w).is k u = true := kV_is ru
  have hsc : u.scannable = true := key_scan ru
  have hel : ElemsOf (mixKind P w) es.toList := goodM_elems g
  unfold setAddHashed setAddHashedIn
  refine wpAny_holding (wpAny_bind (wpAny_setState_of ho hd hf ?_))
  dsimp only
  rw [byScan_of hsc hb hel]
  simp only [↓reduceIte]
  unfold setAddByScan
  refine wpAny_bind ?_
  refine wpAny_bind (wpAny_rule ?_)
  refine wpAny_bind (wpAny_setScan_of hkey ho hd hf hel ?_)
  cases hfi : List.findIdx? (fun e => (mixKind P w).is k e.2) es.toList with
  | some j =>
    dsimp only
    obtain ⟨hj, pj, _⟩ := List.findIdx?_eq_some_iff_getElem.mp hfi
    have hSk : S k = true := (hm k).2 ((goodM_mem (P := P) (w := w) g k).2 ⟨es.toList[j], List.getElem_mem hj, pj⟩)
    refine wpAny_pure (wpAny_pure ?_)
    have q := hQ s.heap (Heap.SameBut.refl a s.heap) ⟨o, es, ep, t, ho, hex, hd, g, nd, fun i => by
      rw [Bool.or_eq_true, decide_eq_true_eq, ← hm i]
      exact ⟨fun z => z.elim id (fun e => e ▸ hSk), .inl⟩, hb, hf, by rw [if_pos hSk]; exact hn, hr, hl⟩
    rw [hSk] at q
    exact q
  | none =>
    dsimp only
    have hnk : ¬ (k ∈ es.toList.map fun e => keyM e.2) := fun z => by
      obtain ⟨e, he, q⟩ := (goodM_mem (P := P) (w := w) g k).1 z
      have c := List.findIdx?_eq_none_iff.mp hfi e he
      rw [q] at c
      cases c
    have hSk : S k = false := by
      cases q : S k with
      | false => rfl
      | true => exact absurd ((hm k).1 q) hnk
    have hgw : ∀ (b : Bool) {s₁ : Shared} {Q' : Unit → Shared → Prop}, Q' () s₁ → wpAny (model P w) A (match b with | true => rule "set.scan.the-table-gave-way" | false => pure ()) Q' E s₁ :=
      fun b s₁ Q' q => by cases b <;> first | exact wpAny_pure q | exact wpAny_rule q
    have pm := layNew_perm t es ((mixKind P w).hash k) u
    have hf1 := layNew_fits t es ((mixKind P w).hash k) u
    have hr1 := layNew_ris t es ((mixKind P w).hash k) u hr
    have hl1 := layNew_led t es ((mixKind P w).hash k) u
    generalize layNew t es ((mixKind P w).hash k) u = Z at pm hf1 hr1 hl1 ⊢
    obtain ⟨es1, t1, wasDummy, gave⟩ := Z
    dsimp only at pm hf1 hr1 hl1 ⊢
    rw [Array.toList_push] at pm
    have pc : es1.toList.Perm (((mixKind P w).hash k, u) :: es.toList) := pm.trans (List.perm_append_singleton _ _)
    have pk : (es1.toList.map fun e => keyM e.2).Perm (k :: es.toList.map fun e => keyM e.2) := by
      have q := pc.map fun e => keyM e.2
      rw [List.map_cons] at q
      rw [show keyM ((mixKind P w).hash k, u).2 = k from keyM_of ru] at q
      exact q
    have g1 : ∀ e ∈ es1.toList, GoodM P w e := fun e he => by
      rcases List.mem_cons.mp (pc.mem_iff.mp he) with z | z
      · rw [z]; exact ⟨k, ru, rfl⟩
      · exact g e z
    have nd1 : (es1.toList.map fun e => keyM e.2).Nodup := pk.nodup_iff.mpr (List.nodup_cons.mpr ⟨hnk, nd⟩)
    have m1 : ∀ i, (S i || decide (i = k)) = true ↔ i ∈ es1.toList.map fun e => keyM e.2 := fun i => by
      rw [Bool.or_eq_true, decide_eq_true_eq, hm i, pk.mem_iff, List.mem_cons]
      exact Or.comm
    have hsz : es1.size = n + 1 := by rw [← Array.length_toList, pc.length_eq, List.length_cons, Array.length_toList, hn]
    have hb1 : es1.size < scanBound := by rw [hsz]; exact room
    have hled : w.params.followText "set-order" = true ∨ t1.led = true := hl.imp id fun z => by rw [hl1]; exact z
    have fin : ∀ h', Heap.SameBut a s.heap h' → SetM P w h' a (fun j => S j || decide (j = k)) es1.size → Q true { s with heap := h' } := fun h' sb r => by
      have q := hQ h' sb
      rw [hSk] at q
      rw [hsz] at r
      exact q r
    refine wpAny_bind (hgw _ ?_)
    split
    · refine wpAny_bind ?_
      rw [hashByValue_scannable 8 hsc]
      refine wpAny_pure ?_
      refine setM_add_tail ?_ ho hex hd g1 nd1 m1 hb1 ?_ ?_ ?_ ?_
      · intro b s₁ Q' q; cases b <;> first | exact wpAny_pure q | exact wpAny_rule q
      · first | (split <;> first | exact hf1 | exact SetTable.fits_plain_off hf1) | exact hf1
      · first | (split <;> exact hr1) | exact hr1
      · first | (split <;> exact hled) | exact hled
      · intro h' sb r; dsimp only; exact wpAny_pure (fin h' sb r)
    · refine wpAny_bind (wpAny_pure ?_)
      simp only [↓reduceIte]
      refine setM_add_tail ?_ ho hex hd g1 nd1 m1 hb1 hf1 hr1 hled ?_
      · intro b s₁ Q' q; cases b <;> first | exact wpAny_pure q | exact wpAny_rule q
      · intro h' sb r; dsimp only; exact wpAny_pure (fin h' sb r)
end
/-- what a set has got of the first i keys: members, number -/
structure GotM (ks : List Key) (i : Nat) (S : Key → Bool) (n : Nat) : Prop where
  mem : ∀ k, S k = true ↔ k ∈ ks.take i
  le : n ≤ i
  nd : n = i ↔ (ks.take i).Nodup
theorem GotM.zero (ks : List Key) : GotM ks 0 (fun _ => false) 0 := ⟨fun k => by simp, Nat.le_refl _, by simp⟩
theorem GotM.next {ks : List Key} {i n : Nat} {S : Key → Bool} {k : Key} (g : GotM ks i S n) (h : ks[i]? = some k) : GotM ks (i + 1) (fun j => S j || decide (j = k)) (if S k = true then n else n + 1) := by
  have e : ks.take (i + 1) = ks.take i ++ [k] := by rw [List.take_add_one, h]; rfl
  have nda : (ks.take (i + 1)).Nodup ↔ (ks.take i).Nodup ∧ k ∉ ks.take i := by
    rw [e, List.nodup_append]
    constructor
    · rintro ⟨a, _, c⟩
      exact ⟨a, fun m => c k m k (List.mem_singleton.mpr rfl) rfl⟩
    · rintro ⟨a, b⟩
      exact ⟨a, by simp, fun x hx y hy q => b (by rw [← List.mem_singleton.mp hy, ← q]; exact hx)⟩
  refine ⟨fun j => ?_, ?_, ?_⟩
  · rw [e, Bool.or_eq_true, decide_eq_true_eq, g.mem j, List.mem_append, List.mem_singleton]
  · have := g.le
    split <;> omega
  · rw [nda]
    have l := g.le
    by_cases c : S k = true
    · rw [if_pos c]
      exact ⟨fun z => absurd z (by omega), fun z => absurd ((g.mem k).mp c) z.2⟩
    · rw [if_neg c]
      have c2 : k ∉ ks.take i := fun z => c ((g.mem k).mpr z)
      exact ⟨fun z => ⟨g.nd.mp (by omega), c2⟩, fun z => by have := g.nd.mpr z.1; omega⟩
section
variable {P : Program} {w : World} {A : Around} {R : Result → Shared → Prop} {I : Addr} {fp wr : List Addr} {G : Array GenState → Array GenState → Prop} {n : Nat} {Pv : Nat → Value → Prop} {St : Nat → Shared → Prop}
theorem loopM (W : WalksS P w A.in1 I fp wr G n Pv St) (D : Addr) (hSf : D ∉ fp) (ks : List Key) (hsz : ks.length = n) (hb : n + 1 < scanBound)
    (hval : ∀ i v, Pv i v → ∃ k, ks[i]? = some k ∧ RelV (kV k) v) :
    ∀ (k i : Nat) (s : Shared) (S : Key → Bool) (m : Nat), n - i = k → i ≤ n → St i s → SetM P w s.heap D S m → GotM ks i S m →
      (∀ s' S' m', Moved (D :: wr) G s s' → SetM P w s'.heap D S' m' → GotM ks n S' m' → R (.ok (.ret .none)) s') →
      codeAny (model P w) A (.builtin "set.update.loop" ⟨[.ref D, .ref I], []⟩) R s := by
  have hSw : D ∉ wr := fun h => hSf (W.sub _ h)
  have hsub : ∀ b ∈ wr, b ∈ D :: wr := fun b hb => List.mem_cons_of_mem _ hb
  intro k
  induction k with
  | zero =>
    intro i s S m hk hi hst hS g hR
    have hin : i = n := by omega
    subst hin
    refine codeAny_builtin PyProof.Rows.F.entry_set_update_loop ?_
    rw [Around.under_plainId PyProof.Rows.F.plain_set_update_loop _]
    show wpAny _ A.in1 (pyNext (.ref I) >>= _) _ _ s
    refine wpAny_bind (W.done s _ _ hst fun s' hm => ?_)
    show wpAny _ A.in1 (ret Value.none) _ _ s'
    exact wpAny_pure (hR s' S m (hm.mono hsub) (hS.at fun o e => hm.heap D _ hSw e) g)
  | succ k ih =>
    intro i s S m hk hi hst hS g hR
    have hlt : i < n := by omega
    refine codeAny_builtin PyProof.Rows.F.entry_set_update_loop ?_
    rw [Around.under_plainId PyProof.Rows.F.plain_set_update_loop _]
    show wpAny _ A.in1 (pyNext (.ref I) >>= _) _ _ s
    refine wpAny_bind (W.item i s _ _ hlt hst fun v s' hP hst' hm => ?_)
    obtain ⟨x, hx, rx⟩ := hval i v hP
    have hS' : SetM P w s'.heap D S m := hS.at fun o e => hm.heap D _ hSw e
    have hroom : m + 1 < scanBound := by have := g.le; omega
    show wpAny _ A.in1 (holding [v] (setAdd D v) >>= _) _ _ s'
    refine wpAny_bind (wpAny_holding ?_)
    unfold setAdd
    refine wpAny_holding ?_
    refine wpAny_bind ((mixKind P w).pyHash (k := x) (kV_is rx) ?_)
    refine setM_add_hashed (s := { s' with toks := s'.toks + 1 }) rx hS' hroom fun h' hsb hS2 => ?_
    refine wpAny_pure ⟨plainId_quiet PyProof.Rows.F.plain_set_update_loop _, ih (i + 1) _ _ _ (by omega) hlt (W.frame _ s' _ _ hst' (Nat.le_succ _) fun b hb o e => ?_) hS2 (g.next hx) fun s'' S'' m'' hm'' hS'' g'' => ?_⟩
    · rw [hsb.2 b (fun h : b = D => hSf (by rw [← h]; exact hb))]; exact e
    · refine hR s'' S'' m'' (Moved.trans W.gtrans ((hm.mono hsub).then_heap (Nat.le_succ _) fun b o hb e => ?_) hm'') hS'' g''
      rw [hsb.2 b (fun h : b = D => hb (by rw [h]; exact List.mem_cons_self))]; exact e
end
section
variable {P : Program} {w : World} {A : Around} {E : Value → Shared → Prop} {s : Shared}
theorem code_set_new_led (a : Value) {Q₁ : Value → Shared → Prop}
    (h : Q₁ (.ref s.heap.objs.size) { s with heap := s.heap.push { cls := .type "set", dict := none, data := .set #[] 0 (.fresh 0 0 (!w.params.followText "set-order")) } }) :
    codeAny (model P w) A (.call (.builtin "set.__new__") ⟨[.type "set", a], []⟩) (wants Q₁ E) s := by
  refine codeAny_of_tree ?_
  show wpAny _ A.in1 (do checkBuiltinCall "set.__new__" ⟨[.type "set", a], []⟩; again (.builtin "set.__new__" ⟨[.type "set", a], []⟩)) _ _ s
  refine wpAny_bind (wpAny_of_eq (PySem.F.newCall_set_1 a) (wpAny_pure ⟨plainId_quiet PySem.F.plain_set_new _, codeAny_builtin PySem.F.entry_set_new ?_⟩))
  rw [Around.under_plainId PySem.F.plain_set_new _]
  unfold Builtin.«set.__new__» Builtin.Frozenset.newClass
  have hsub := sub_set_self
  obtain ⟨hp, g, d, tk, os⟩ := s
  dsimp only
  wp_walk
  refine wpAny_askSetting (wpAny_pure ?_)
  dsimp only
  simp only [newObj]
  refine wpAny_bind (wpAny_alloc (wpAny_pure ?_))
  exact wpAny_pure h
theorem setM_fresh {h : Heap} (P : Program) (w : World) {a : Addr} (ha : h.get? a = some { cls := .type "set", dict := none, data := .set #[] 0 (.fresh 0 0 (!w.params.followText "set-order")) }) : SetM P w h a (fun _ => false) 0 :=
  ⟨_, #[], 0, _, ha, ⟨rfl, rfl, rfl⟩, rfl, (fun e he => by simp at he), (by simp), (fun k => by simp), (by decide), (by rfl), rfl, List.Pairwise.nil, by
    show _ ∨ (!w.params.followText "set-order") = true
    cases w.params.followText "set-order"
    · exact .inr rfl
    · exact .inl rfl⟩
set_option maxHeartbeats 6400000 in
theorem call_set_listM {l : Addr} {items : Array Value} {ks : List Key} {Q : Value → Shared → Prop}
    (hh : A.handled = none) (hl : s.heap.IsList l items) (hi : Vals (ks.map kV) items.toList) (hb : items.size + 1 < scanBound)
    (h : ∀ (h' : Heap) (tk : Nat) (S : Key → Bool) (m : Nat), SetM P w h' s.heap.objs.size S m → GotM ks ks.length S m →
      (∀ b o, b < s.heap.objs.size → s.heap.get? b = some o → h'.get? b = some o) → Q (.ref s.heap.objs.size) { s with heap := h', toks := tk }) :
    wpAny (model P w) A (call (.type "set") [.ref l]) Q E s := by
  obtain ⟨c, tl, hmro⟩ := PySem.F.called_set.mro
  have hmade := PySem.F.called_set.made
  have hsub := PySem.F.called_set.sub
  refine wpAny_call (codeAny_of_tree ?_)
  show wpAny _ _ (callAny (.type "set") _) _ _ _
  refine wpAny_pure ⟨Code.quiet_builtin _ (by decide +kernel), codeAny_builtin PySem.F.entry_type_call ?_⟩
  rw [Around.under_plain (weight_type_call_type "set" [.ref l] []) rfl]
  have h1 := PySem.F.called_set.notType
  have h2 := PySem.F.called_set.canCreate
  have hct := PySem.F.typeCall_set_1 (.ref l)
  repeat (any_goals (first | assumption | wp_step))
  refine codeAny_mono (code_set_new_led (.ref l) (E := E) (Q₁ := fun obj s₁ => obj = .ref s.heap.objs.size ∧ s₁ = { s with heap := s.heap.push { cls := .type "set", dict := none, data := .set #[] 0 (.fresh 0 0 (!w.params.followText "set-order")) } }) ⟨rfl, rfl⟩) fun r s₁ hr => ?_
  cases r with
  | error e => exact hr
  | ok fl =>
    cases fl with
    | ret obj =>
      obtain ⟨rfl, rfl⟩ := hr
      have hS : (s.heap.push { cls := .type "set", dict := none, data := .set #[] 0 (.fresh 0 0 (!w.params.followText "set-order")) }).get? s.heap.objs.size = some { cls := .type "set", dict := none, data := .set #[] 0 (.fresh 0 0 (!w.params.followText "set-order")) } := Heap.get?_push_size _ rfl
      have hT : Shared.TypeIs { s with heap := s.heap.push { cls := .type "set", dict := none, data := .set #[] 0 (.fresh 0 0 (!w.params.followText "set-order")) } } (.ref s.heap.objs.size) "set" := ⟨_, hS, rfl⟩
      have hli := PySem.F.called_set.init.lookup
      have hbi := PySem.F.called_set.init.bind (.ref s.heap.objs.size)
      repeat (any_goals (first | assumption | wp_step))
      refine codeAny_mono (codeAny_call_builtin (R := wants (fun r s₂ => r = .none ∧ ∃ h' tk S m, s₂ = { s with heap := h', toks := tk } ∧ SetM P w h' s.heap.objs.size S m ∧ GotM ks ks.length S m ∧
          (∀ b o, b < s.heap.objs.size → s.heap.get? b = some o → h'.get? b = some o)) E) PySem.F.called_set.init.plain PySem.F.entry_set_init (check_set_init_1 hT ?_)) fun r₂ s₂ hr₂ => ?_
      · obtain ⟨ol, hol, hcl, nl, hdl⟩ := hl
        obtain ⟨ocls, odict, odata, oslots⟩ := ol
        simp only at hcl hdl
        subst hcl; subst hdl
        have hol' : (s.heap.push { cls := .type "set", dict := none, data := .set #[] 0 (.fresh 0 0 (!w.params.followText "set-order")) }).get? l = some { cls := .type "list", dict := odict, data := .seq items nl, slots := oslots } := Heap.get?_push_of_some _ hol
        have hsls := PySem.F.sub_list_set
        have hslf := PySem.F.sub_list_frozenset
        have hne : (Value.type "list" == Value.type "dict") = false := by decide
        have hl1 : (s.heap.push { cls := .type "set", dict := none, data := .set #[] 0 (.fresh 0 0 (!w.params.followText "set-order")) }).IsList l items := ⟨_, hol', rfl, nl, rfl⟩
        unfold Builtin.«set.__init__» noKeywords Builtin.Frozenset.updateFrom
        generalize hPI : pyIter = PI
        wp_walk
        subst hPI
        refine wpAny_pyIter_list hl1 ?_
        refine wpAny_bind (wpAny_runValue ?_)
        have hlS : l < s.heap.objs.size := Heap.lt_size hol
        have hh3 : A.in1.in1.in1.handled = none := by simp [hh]
        have hneI : l ≠ (s.heap.push { cls := .type "set", dict := none, data := .set #[] 0 (.fresh 0 0 (!w.params.followText "set-order")) }).objs.size := by
          rw [Heap.size_push]; exact Nat.ne_of_lt (Nat.lt_succ_of_lt hlS)
        have hSf : s.heap.objs.size ∉ [(s.heap.push { cls := .type "set", dict := none, data := .set #[] 0 (.fresh 0 0 (!w.params.followText "set-order")) }).objs.size, l] := by
          rw [Heap.size_push]; simp only [List.mem_cons, List.mem_singleton, List.not_mem_nil, or_false, not_or]
          exact ⟨Nat.ne_of_lt (Nat.lt_succ_self _), Nat.ne_of_gt hlS⟩
        have hsz : ks.length = items.size := by rw [← Array.length_toList, ← hi.length, List.length_map]
        have hval : ∀ (i : Nat) (v : Value), items[i]? = some v → ∃ k, ks[i]? = some k ∧ RelV (kV k) v := fun i v hv => by
          have hlt : i < ks.length := by rw [hsz]; exact (Array.getElem?_eq_some_iff.mp hv).1
          obtain ⟨u, hu, r⟩ := hi.get (i := i) (x := kV ks[i]) (by rw [List.getElem?_map, List.getElem?_eq_getElem hlt]; rfl)
          rw [Array.getElem?_toList, hv] at hu
          cases hu
          exact ⟨_, List.getElem?_eq_getElem hlt, r⟩
        refine loopM ((Walks.list hh3 _ l hneI items).toS) s.heap.objs.size hSf ks hsz hb hval (items.size - 0) 0 _ (fun _ => false) 0 rfl (Nat.zero_le _)
          ⟨⟨_, Heap.get?_push_size _ rfl, rfl, rfl⟩, (hl1.push _)⟩ ?hS0 (GotM.zero ks) ?hR
        case hS0 => exact setM_fresh P w (Heap.get?_push_of_some _ hS)
        case hR =>
          intro s' S' m' hm hS' g'
          obtain ⟨h', g'', d', tk', os'⟩ := s'
          have eg : g'' = s.gens := hm.gens
          have ed : d' = s.drawn := hm.drawn
          have eo : os' = s.os := hm.os
          subst eg; subst ed; subst eo
          show wpAny _ _ _ _ _ _
          refine wpAny_pure ?_
          show wpAny _ _ (ret Value.none) _ _ _
          refine wpAny_pure ⟨rfl, h', tk', S', m', rfl, hS', by rw [hsz]; exact g', fun b o hb e => ?_⟩
          have hb1 : b ≠ s.heap.objs.size := Nat.ne_of_lt hb
          have hb2 : b ≠ (s.heap.push { cls := .type "set", dict := none, data := .set #[] 0 (.fresh 0 0 (!w.params.followText "set-order")) }).objs.size := by
            rw [Heap.size_push]; exact Nat.ne_of_lt (Nat.lt_succ_of_lt hb)
          exact hm.heap b o (by simp only [List.mem_cons, List.mem_singleton, List.not_mem_nil, or_false, not_or]; exact ⟨hb1, hb2⟩) (Heap.get?_push_of_some _ (Heap.get?_push_of_some _ e))
      · cases r₂ with
        | error e => exact hr₂
        | ok fl₂ =>
          cases fl₂ with
          | ret r =>
            obtain ⟨rfl, h', tk, S', m', rfl, hS', g', hk'⟩ := hr₂
            repeat (any_goals (first | assumption | wp_step))
            exact h _ _ _ _ hS' g' hk'
          | _ => exact hr₂.elim
    | _ => exact hr.elim
end
end SM
namespace SM
open PySem PySem.Spec PyProof.Rows L2
theorem strs_keys {xs : List Str} {ks : List Key} (h : ∀ k ∈ ks, k ∈ xs.map Sum.inr) : ∃ ys : List Str, ks = ys.map Sum.inr ∧ ∀ y ∈ ys, y ∈ xs := by
  induction ks with
  | nil => exact ⟨[], rfl, fun y hy => by cases hy⟩
  | cons k r ih =>
    obtain ⟨ys, e, m⟩ := ih fun z hz => h z (.tail _ hz)
    obtain ⟨x, hx, ex⟩ := List.mem_map.mp (h k (.head _))
    refine ⟨x :: ys, by rw [List.map_cons, ← e, ex], fun y hy => ?_⟩
    rcases List.mem_cons.mp hy with rfl | hy
    · exact hx
    · exact m y hy
theorem vals_of_each {us : List Value} {ys : List Str} (e : PySem.W.EachIs (fun v (y : Str) => RelV (.str y) v) us ys) : Vals (ys.map V.str) us := by
  induction e with
  | nil => exact .nil
  | cons a _ ih => exact .cons a ih
section
variable {P : Program} {w : World} {A : Around} {E : Value → Shared → Prop} {s : Shared} {a : Addr} {S : Key → Bool} {n : Nat}
theorem sorted_setM {xs : List Str} {Q : Value → Shared → Prop} (R : SetM P w s.heap a S n) (hS : ∀ k, S k = true → k ∈ xs.map Sum.inr) (hS2 : ∀ x ∈ xs, S (Sum.inr x) = true) (hh : A.handled = none) (hu : A.units + 64 < cLine) (h64 : n ≤ 1000)
    (hQ : ∀ s' p (out : List Value) (c : Nat) (ys : List Str), (∀ b o, s.heap.get? b = some o → s'.heap.get? b = some o) → s'.gens = s.gens → s'.os = s.os → s.heap.objs.size ≤ p →
      s'.heap.get? p = some (seqObj "list" (List.toArray out) c) → Vals (ys.map V.str) out → ys.Nodup → (∀ x, x ∈ ys ↔ x ∈ xs) → ys.length = n → Q (.ref p) s') :
    wpAny (model P w) A (call (.builtin "sorted") [.ref a]) Q E s := by
  obtain ⟨o, es, ep, t, ho, hex, hd, g, nd, hm, hb, hf, hn, hr, hl⟩ := R
  obtain ⟨zs, ez, mz⟩ := strs_keys (xs := xs) (ks := es.toList.map fun e => keyM e.2) fun k hk => hS k ((hm k).mpr hk)
  refine Calls.call_function_entry kind_sorted plain_sorted entry_sorted (args_sorted1 _) ?_
  unfold Builtin.«sorted»
  refine wpAny_bind (m := checkCount "sorted" 1 1 _) (wpAny_pure ?_)
  refine wpAny_bind (collect_set (A := A.in1) hh ⟨o, ho, hex.1, hd⟩ hf hb hr hl fun s1 vs k1 hz g1 o1 pm => ?_)
  have hvl : vs.length = n := by rw [pm.length_eq, List.length_map, Array.length_toList]; exact hn
  have each : ∀ (vs : List Value), (∀ v ∈ vs, ∃ e ∈ es.toList, e.2 = v) → ∃ bs : List Str, PySem.W.EachIs (fun v (y : Str) => RelV (.str y) v) vs bs ∧ vs.map keyM = bs.map Sum.inr := by
    intro vs
    induction vs with
    | nil => exact fun _ => ⟨[], .nil, rfl⟩
    | cons v r ih =>
      intro h
      obtain ⟨bs, e1, e2⟩ := ih fun u hu => h u (.tail _ hu)
      obtain ⟨e, he, rfl⟩ := h v (.head _)
      obtain ⟨k, rk, _⟩ := g e he
      have hk : k ∈ xs.map Sum.inr := hS k ((hm k).mpr (List.mem_map.mpr ⟨e, he, keyM_of rk⟩))
      obtain ⟨x, hx, rfl⟩ := List.mem_map.mp hk
      refine ⟨x :: bs, .cons rk e1, ?_⟩
      rw [List.map_cons, List.map_cons, e2, keyM_of rk]
  obtain ⟨bs, eb, em⟩ := each vs fun v hv => by
    obtain ⟨e, he, q⟩ := List.mem_map.mp (pm.mem_iff.mp hv)
    exact ⟨e, he, q⟩
  have hbl : bs.length = n := by rw [← hvl, eb.length]
  have pk : (bs.map Sum.inr : List Key).Perm (es.toList.map fun e => keyM e.2) := by
    have q := pm.map keyM
    rw [List.map_map] at q
    rw [← em]
    exact q
  refine wpAny_bind (wpAny_newList ?_ (by rw [hvl, sizeLine_eq]; omega))
  have hoL : (s1.heap.push (seqObj "list" vs.toArray 0)).get? s1.heap.objs.size = some (seqObj "list" vs.toArray 0) := Heap.get?_push_size _ rfl
  refine wpAny_bind (wpAny_holding (PySem.W.list_sort_data (s := { s1 with heap := s1.heap.push (seqObj "list" vs.toArray 0) }) (enc := fun y : Str => PyData.str y) (R := fun v (y : Str) => RelV (.str y) v) hoL eb (eb.mono fun v y r => by
      obtain ⟨tk, rfl⟩ := r
      exact ⟨[], .str y tk, by simp⟩) (PySem.W.AllAlike.of fun _ _ => rfl) (.inr fun d hd => by
      obtain ⟨y, _, rfl⟩ := List.mem_map.mp hd
      exact ⟨by simp, fun _ => by simp⟩) (by rw [hbl, sizeLine_eq]; omega) (fun b _ => by show A.units + 1 + 1 + 0 < _; omega) fun out hol eo => ?_))
  obtain ⟨c, hc⟩ := sortedHeap_at (vs := vs) (out := out.toArray) hoL
  have pb := List.mergeSort_perm bs (PySem.W.dataLe false fun y : Str => PyData.str y)
  have pn : (((bs.mergeSort (PySem.W.dataLe false fun y : Str => PyData.str y)).map Sum.inr : List Key)).Perm (es.toList.map fun e => keyM e.2) := (pb.map Sum.inr).trans pk
  have inj : ∀ l : List Str, ((l.map Sum.inr : List Key)).Nodup → l.Nodup := fun l h => List.Pairwise.of_map _ (fun _ _ hne e => hne (congrArg Sum.inr e)) h
  refine wpAny_pure ⟨_, rfl, hQ _ s1.heap.objs.size out c (bs.mergeSort (PySem.W.dataLe false fun y : Str => PyData.str y)) (fun b u e => ?_) g1 o1 hz hc (vals_of_each eo) (inj _ (pn.nodup_iff.mpr nd)) (fun x => ?_) (by rw [List.length_mergeSort, hbl])⟩
  · have q := k1 b u e
    have hlt := Heap.lt_size q
    show (sortedHeap (s1.heap.push (seqObj "list" vs.toArray 0)) s1.heap.objs.size vs out.toArray).get? b = some u
    rw [sortedHeap_old (Nat.ne_of_lt hlt) (by rw [size_push']; exact Nat.lt_succ_of_lt hlt)]
    exact Heap.get?_push_of_some _ q
  · have q : (Sum.inr x : Key) ∈ (es.toList.map fun e => keyM e.2) ↔ x ∈ bs.mergeSort (PySem.W.dataLe false fun y : Str => PyData.str y) := by
      rw [← pn.mem_iff, List.mem_map]
      exact ⟨fun ⟨y, hy, e⟩ => by cases e; exact hy, fun h => ⟨x, h, rfl⟩⟩
    rw [← q, ← hm]
    refine ⟨fun h => ?_, hS2 x⟩
    obtain ⟨y, hy, e⟩ := List.mem_map.mp (hS _ h)
    cases e
    exact hy
end
def SetMO (P : Program) (w : World) (a : Addr) (S : Key → Bool) (n : Nat) : HO := .ext fun h => SetM P w h a S n
section
variable {X : Cx}
theorem setMO_new {w : World} {P : Program} {H : Hp} {h : Heap} {a : Addr} {S : Key → Bool} {n : Nat} (R : SetM P w h a S n) : ObjOk P w H h a (SetMO P w a S n) := by
  have ⟨o, _, _, _, ho, _⟩ := R
  exact ⟨R, ⟨o, ho⟩, fun h1 h2 p k => SetM.at p k⟩
theorem setMO_get {pins : List (Addr × Obj)} {σ : L2.St} {H : Hp} {s : Shared} {a : Addr} {S : Key → Bool} {n : Nat} (I : Inv X pins σ H s) (ha : H a = some (SetMO X.prog X.w a S n)) : SetM X.prog X.w s.heap a S n := (I.hok a _ ha).1
/-- set(xs), xs a list of ints or texts -/
def rSetM (K : PySem.W.Frag) (P : Program) (w : World) : List V → Hp → VK → Prop := fun xs H Q => ∃ (l : Addr) (ks : List Key), xs = [V.ref l] ∧ SqL K H l (ks.map kV) ∧ ks.length ≤ 1000 ∧
  ∀ a S n, H a = none → GotM ks ks.length S n → Q (.ref a) (upd H a (SetMO P w a S n))
theorem cr_setM (hc : X.calm = true) : CallR X (.type "set") (rSetM X.K X.prog X.w) := by
  intro pins s σ H xs us Q I r h
  obtain ⟨l, ks, rfl, hl, hk, q⟩ := h
  rw [Vals.ref1 r]
  obtain ⟨its, rv, pl, hz⟩ := I.list hl
  have hlen : its.length = ks.length := by rw [← rv.length, List.length_map]
  have hn : H s.heap.objs.size = none := I.hok.fresh (Nat.le_refl _)
  refine call_set_listM (P := X.prog) (w := X.w) (ks := ks) (I.ok.hd hc) pl.isList (by simpa using rv) (by rw [List.size_toArray, hlen]; unfold scanBound; omega) fun h' tk S m R g k => ?_
  have k2 : ∀ b o, s.heap.get? b = some o → h'.get? b = some o := fun b o e => k b o (Heap.lt_size e) e
  exact ⟨.ref s.heap.objs.size, upd H s.heap.objs.size (SetMO X.prog X.w s.heap.objs.size S m), I.laid (t' := tk) k2 (Nat.le_refl _) (setMO_new R), rfl, q _ S m hn g⟩
/-- len of such a set -/
def rLenM (P : Program) (w : World) : List V → Hp → VK → Prop := fun xs H Q => ∃ (a : Addr) (S : Key → Bool) (n : Nat), xs = [V.ref a] ∧ H a = some (SetMO P w a S n) ∧ Q (.int n) H
theorem cr_lenM : CallR X (.builtin "len") (rLenM X.prog X.w) := by
  intro pins s σ H xs us Q I r h
  obtain ⟨a, S, n, rfl, ha, q⟩ := h
  rw [Vals.ref1 r]
  obtain ⟨o, es, ep, t, ho, hex, hd, _, _, _, hb, hf, hn, _⟩ := setMO_get I ha
  refine call_len_set ho hex hd hf (by have : es.size < scanBound := hb; unfold scanBound at this; omega) ⟨.int n, H, I.tok _, ⟨_, by rw [hn]⟩, q⟩
/-- len of a set of tuples -/
def rLenT (P : Program) (w : World) : List V → Hp → VK → Prop := fun xs H Q => ∃ (a : Addr) (L : List (Addr × List Int)), xs = [V.ref a] ∧ H a = some (SetTO P w a L) ∧ ((L.map (·.2)).Nodup → Q (.int L.length) H)
theorem cr_lenT : CallR X (.builtin "len") (rLenT X.prog X.w) := by
  intro pins s σ H xs us Q I r h
  obtain ⟨a, L, rfl, ha, q⟩ := h
  rw [Vals.ref1 r]
  have R0 : SetT0 X.prog X.w s.heap a L := (I.hok a _ ha).1
  obtain ⟨es, ep, t, ⟨o, ho, hex, hd⟩, hrows, htab, hnd, hpl, hl, hroom, hfew⟩ := R0.ex
  have hsz : es.size = L.length := by
    have := congrArg List.length hrows
    rw [Array.length_toList] at this
    rw [this]
    unfold rowsOf
    rw [List.length_map]
  have hf : t.fits es.size = true := by
    have h1 := htab.sz
    rw [List.length_map] at h1
    unfold SetTable.fits SetTable.fill
    rw [htab.dm, Bool.and_eq_true, beq_iff_eq, decide_eq_true_eq]
    show t.place.size = es.size ∧ t.place.size + 0 ≤ t.mask
    omega
  refine call_len_set ho hex hd hf (by rw [hsz]; omega) ⟨.int L.length, H, I.tok _, ⟨_, by rw [hsz]⟩, q hnd⟩
/-- sorted(set) of texts -/
def rSortedM (P : Program) (w : World) : List V → Hp → VK → Prop := fun vs H Q => ∃ (a : Addr) (S : Key → Bool) (n : Nat) (xs : List Str), vs = [V.ref a] ∧ H a = some (SetMO P w a S n) ∧ n ≤ 1000 ∧ (∀ k, S k = true → k ∈ xs.map Sum.inr) ∧ (∀ x ∈ xs, S (Sum.inr x) = true) ∧
  ∀ (ys : List Str) (p : Addr), ys.Nodup → (∀ x, x ∈ ys ↔ x ∈ xs) → ys.length = n → H p = none → Q (.ref p) (upd H p (.lst (ys.map V.str)))
theorem cr_sortedM (hc : X.calm = true) (hu : X.A.units + 64 < cLine) : CallR X (.builtin "sorted") (rSortedM X.prog X.w) := by
  intro pins s σ H vs us Q I r h
  obtain ⟨a, S, n, xs, rfl, ha, hn, h1, h2, q⟩ := h
  rw [Vals.ref1 r]
  refine sorted_setM (setMO_get I ha) h1 h2 (I.ok.hd hc) hu hn fun s' p out c ys k g o hp hg hv hnd hm hl => ?_
  have hlen : (ys.map V.str).length ≤ sizeLine := by rw [List.length_map, hl, sizeLine_eq]; omega
  have hnp : H p = none := I.hok.fresh hp
  have J : Inv X pins σ (upd H p (.lst (ys.map V.str))) { s with heap := s'.heap, gens := s'.gens, drawn := s'.drawn, toks := s'.toks } :=
    I.call (ch := []) (Un.laid k hp hnp) (I.hok.laid k hp ⟨hlen, out, c, hv, hg⟩) (by rw [g]; exact I.bare) (fun _ z => nomatch z)
  have e : s' = { s with heap := s'.heap, gens := s'.gens, drawn := s'.drawn, toks := s'.toks } := by
    cases s'
    cases s
    cases o
    rfl
  rw [e]
  exact ⟨.ref p, _, J, rfl, q ys p hnd hm hl hnp⟩
/-! ### sorted and max of data -/
def rSortedA (K : PySem.W.Frag) : List V → Hp → VK → Prop := fun vs H Q => ∃ (l : Addr) (bs : List (V × PyData)), vs = [V.ref l] ∧ SqL K H l (bs.map (·.1)) ∧ (∀ b ∈ bs, Dp K H b.1 b.2 ∧ b.2.depth ≤ 60) ∧ PySem.W.AllAlike (bs.map (·.2)) ∧ PySem.W.Sortable (bs.map (·.2)) ∧
  ∀ p, H p = none → Q (.ref p) (upd H p (.lst ((bs.mergeSort (PySem.W.dataLe false (·.2))).map (·.1))))
theorem each_pairs {R : Value → V × PyData → Prop} : ∀ (bs : List (V × PyData)) (us : List Value), Vals (bs.map (·.1)) us → (∀ b ∈ bs, ∀ u, RelV b.1 u → R u b) → PySem.W.EachIs R us bs := by
  intro bs
  induction bs with
  | nil =>
    intro us r _
    cases r
    exact .nil
  | cons b bs ih =>
    intro us r h
    obtain ⟨u, vs, rfl, ru, rr⟩ : ∃ u vs, us = u :: vs ∧ RelV b.1 u ∧ Vals (bs.map (·.1)) vs := by
      cases r with
      | cons a b => exact ⟨_, _, rfl, a, b⟩
    exact .cons (h b (.head _) u ru) (ih vs rr fun c hc => h c (.tail _ hc))
theorem pairs_each {R : Value → V × PyData → Prop} (h : ∀ u b, R u b → RelV b.1 u) : ∀ {us : List Value} {bs : List (V × PyData)}, PySem.W.EachIs R us bs → Vals (bs.map (·.1)) us := by
  intro us bs e
  induction e with
  | nil => exact .nil
  | cons a _ ih => exact .cons (h _ _ a) ih
theorem cr_sortedA (hu : X.A.units + 64 < cLine) : CallR X (.builtin "sorted") (rSortedA X.K) := by
  intro pins s σ H vs us Q I r h
  obtain ⟨l, bs, rfl, hl, hd, hal, hsk, q⟩ := h
  rw [Vals.ref1 r]
  obtain ⟨its, rv, pl, hz⟩ := I.list hl
  rw [List.length_map] at hz
  refine PySem.W.sorted_data (R := fun u (b : V × PyData) => RelV b.1 u) (enc := fun b : V × PyData => b.2) pl.isList (each_pairs bs its rv fun b _ u r => r) (each_pairs bs its rv fun b hb u r => Dp.reads I _ _ _ (hd b hb).1 r) hal hsk hz (fun b hb => by have := (hd b hb).2; omega) fun out hlen eo => ?_
  obtain ⟨c, hc⟩ := sortedAll_at s.heap its out.toArray
  refine ⟨.ref _, upd H (s.heap.objs.size + 1) (.lst ((bs.mergeSort (PySem.W.dataLe false (·.2))).map (·.1))), I.laid (t' := s.toks) (fun b o e => sortedAll_old e) (Nat.le_succ _) ⟨?_, out, c, pairs_each (fun _ _ r => r) eo, hc⟩, rfl, q _ (I.hok.fresh (Nat.le_succ _))⟩
  rw [List.length_map, List.length_mergeSort]
  exact hz
/-- max of a list of data: one of its items -/
def rMaxA (K : PySem.W.Frag) : List V → Hp → VK → Prop := fun vs H Q => ∃ (l : Addr) (xs : List V) (ds : List PyData), vs = [V.ref l] ∧ SqL K H l xs ∧ DpAll K H xs ds ∧ (∀ x ∈ xs, ∃ p, x = V.ref p) ∧ ds ≠ [] ∧ PySem.W.AlikeAll ds ∧ PyData.depthAll ds ≤ 60 ∧
  ∀ (i : Nat) (v : V), xs[i]? = some v → (∀ (d : PyData) (r : List PyData), ds = d :: r → ds[i]? = some (PySem.W.maxD d r)) → Q v H
theorem cr_maxA (hc : X.calm = true) (hu : X.A.units + 64 < cLine) : CallR X (.builtin "max") (rMaxA X.K) := by
  intro pins s σ H vs us Q I r h
  obtain ⟨l, xs, ds, rfl, hl, hd, href, hne, hal, hdep, q⟩ := h
  rw [Vals.ref1 r]
  obtain ⟨its, rv, pl, hz⟩ := I.list hl
  obtain ⟨as, ra⟩ := Dp.readsAll I ds xs its hd rv
  cases ds with
  | nil => exact absurd rfl hne
  | cons d0 dr =>
    refine PySem.W.max_list_data (l := l) (vs := its.toArray) (I.ok.hd hc) pl.isList (by simpa using ra) hal (by omega) fun i v h' tk bs hv hr hk => ?_
    have hv2 : its[i]? = some v := by simpa using hv
    have hil : i < xs.length := by rw [rv.length]; exact (List.getElem?_eq_some_iff.mp hv2).1
    have hx : xs[i]? = some xs[i] := List.getElem?_eq_getElem hil
    obtain ⟨u, hu2, ru⟩ := rv.get hx
    rw [hv2] at hu2
    cases hu2
    refine ⟨xs[i], H, I.kept hk, ru, q i _ hx fun d r e => ?_⟩
    cases e
    obtain ⟨e0, he0, hrd, _, _⟩ := PySem.W.readsAll_atA (vs := its.toArray) (by simpa using ra) i v hv
    have hde : (d0 :: dr)[i]? = some ((d0 :: dr).getD i .none) := by
      rw [List.getD_eq_getElem?_getD]
      obtain ⟨z, hz⟩ : ∃ z, (d0 :: dr)[i]? = some z := ⟨_, List.getElem?_eq_getElem (by assumption)⟩
      rw [hz]
      rfl
    have hmem : PySem.W.maxD d0 dr ∈ d0 :: dr := by
      unfold PySem.W.maxD
      have : ∀ (l : List PyData) (x : PyData), x ∈ d0 :: dr → (∀ y ∈ l, y ∈ d0 :: dr) → l.foldl (fun a y => if PySem.W.dataLt a y then y else a) x ∈ d0 :: dr := by
        intro l
        induction l with
        | nil => intro x hx _; exact hx
        | cons y r ih =>
          intro x hx hy
          rw [List.foldl_cons]
          refine ih _ ?_ fun z hz => hy z (.tail _ hz)
          split
          · exact hy y (.head _)
          · exact hx
      exact this dr d0 (.head _) fun y hy => .tail _ hy
    have hmi : (d0 :: dr).getD i .none ∈ d0 :: dr := List.mem_of_getElem? hde
    have e := PySem.W.alike_unique _ _ _ _ _ (hal.1 _ hmi _ hmem) (PySem.W.reads_keeps hk he0) hr
    rw [← e]
    exact hde
end
end SM
/-! a tuple so many times, also once and not at all -/
namespace TM2
open PySem PySem.Spec PyProof.Rows L2
theorem mul_once (l : Addr) (items : Array Value) (n : Nat) (dd : Option Addr) (sl : Array (Option Value)) (u : Tok) :
    Meets (Builtin.«tuple.__mul__» ⟨[.ref l, .int 1 u], []⟩) (fun _ R s => s.heap.get? l = some { cls := .type "tuple", dict := dd, data := .seq items n, slots := sl } ∧ R (.ok (.ret (Value.ref l))) s) :=
  .of_wp fun prog w A R s h => by
    obtain ⟨hp, g, d, tk, os⟩ := s
    obtain ⟨hl, h⟩ := h
    have f1 := AutoSeq1.idx_int
    have c1 : (items.isEmpty || (1 : Int) == 1) = true := by simp
    wp_walk using wpAny_loadPart' hl
    repeat (first
      | (refine wpAny_ite_false (decide_eq_false (by decide)) ?_; wp_walk using wpAny_loadPart' hl)
      | (refine wpAny_ite_true (decide_eq_true (by rw [c1])) ?_; wp_walk using wpAny_loadPart' hl))
    all_goals first
      | exact ⟨_, rfl, h⟩
      | trace_state
theorem mul_none (l : Addr) (items : Array Value) (n : Nat) (dd : Option Addr) (sl : Array (Option Value)) (x : Int) (u : Tok) (hx : x ≤ 0) (hx2 : -(2 ^ 63) ≤ x) (hne : items.isEmpty = false) :
    Meets (Builtin.«tuple.__mul__» ⟨[.ref l, .int x u], []⟩) (fun _ R s => s.heap.get? l = some { cls := .type "tuple", dict := dd, data := .seq items n, slots := sl } ∧
      R (.ok (.ret (Value.ref s.heap.objs.size))) { s with heap := s.heap.push { cls := Value.type "tuple", data := Data.seq #[] }, toks := s.toks }) :=
  .of_wp fun prog w A R s h => by
    obtain ⟨hp, g, d, tk, os⟩ := s
    obtain ⟨hl, h⟩ := h
    have f1 := AutoSeq1.idx_int
    have c0 : (decide (x < -(2 ^ 63)) || decide (x ≥ 2 ^ 63)) = false := by
      rw [decide_eq_false (by omega), decide_eq_false (by omega)]
      rfl
    have c1 : (items.isEmpty || x == 1) = false := by
      rw [hne, Bool.false_or]
      exact beq_eq_false_iff_ne.mpr (by omega)
    have c2 : (decide (x ≤ 0) || items.isEmpty) = true := by
      rw [decide_eq_true hx]
      rfl
    wp_walk using wpAny_loadPart' hl
    repeat (first
      | (refine wpAny_ite_false (decide_eq_false (by rw [c0]; exact Bool.false_ne_true)) ?_; wp_walk using wpAny_loadPart' hl)
      | (refine wpAny_ite_false (decide_eq_false (by rw [c1]; exact Bool.false_ne_true)) ?_; wp_walk using wpAny_loadPart' hl)
      | (refine wpAny_ite_true (decide_eq_true (by rw [c2])) ?_; wp_walk using wpAny_loadPart' hl))
    all_goals first
      | exact ⟨_, rfl, h⟩
      | trace_state
def rMulTA (K : PySem.W.Frag) : R2 := fun x y H Q => ∃ l k xs, x = .ref l ∧ y = .int k ∧ SqT K H l xs ∧ xs ≠ [] ∧ xs.length ≤ 1000 ∧ -1000 ≤ k ∧ k ≤ 1000 ∧ (k = 1 → Q (.ref l) H) ∧ (k ≤ 0 → ∀ p, H p = none → Q (.ref p) (upd H p (.tup []))) ∧
  (2 ≤ k → ∀ p, H p = none → Q (.ref p) (upd H p (.tup (List.replicate k.toNat xs).flatten)))
section
variable {X : Cx}
theorem op_mulTA : OpR X (binaryOp .Mult) (rMulTA X.K) := by
  intro pins s σ H x y v u Q I rx ry h
  obtain ⟨l, k, xs, rfl, rfl, hT, hne, hz, k0, k1, q1, q0, q2⟩ := h
  by_cases h2 : 2 ≤ k
  · exact op_repT pins s σ H _ _ v u Q I rx ry ⟨l, k, xs, rfl, rfl, hT, hne, h2, k1, hz, q2 h2⟩
  cases rx
  obtain ⟨t, rfl⟩ := ry
  obtain ⟨its, r, ⟨⟨cls, dd, data, sl⟩, ho, hc, n, hd⟩, hs⟩ := I.tuple hT
  simp only at hc hd
  subst hc hd
  have hi : its.toArray.isEmpty = false := by
    cases its with
    | nil =>
      cases r
      exact absurd rfl hne
    | cons a b => rfl
  have road : ∀ {R : Value → Shared → Prop}, wpAny (model X.prog X.w) X.A (call (.builtin "tuple.__mul__") [.ref l, .int k t]) R X.xe s → wpAny (model X.prog X.w) X.A (binaryOp .Mult (.ref l) (.int k t)) R X.xe s := fun h =>
    wpAny_binaryOp_repeat_ref (T := "tuple") (U := "int") (by decide) ⟨_, ho, rfl⟩ (fun s' => typeIs_int s' k t) noFill_tuple_mul F.fills_int_mul F.slot_int_rmul repeat_tuple F.slot_int_index.lookup
      (call_meets F.slot_int_rmul (typeIs_int s k t) F.entry_int_rmul (F.args_int_rmul_2 _ _) (int_rmul_tuple k t l its.toArray n dd sl) ⟨ho, rfl, ⟨_, ho, rfl⟩, h⟩)
  by_cases h1 : k = 1
  · subst h1
    exact road (call_meets F.slot_tuple_mul ⟨_, ho, rfl⟩ F.entry_tuple_mul (F.args_tuple_mul_2 _ _) (mul_once l its.toArray n dd sl t) ⟨ho, ⟨.ref l, H, I, rfl, q1 rfl⟩⟩)
  · refine road (call_meets F.slot_tuple_mul ⟨_, ho, rfl⟩ F.entry_tuple_mul (F.args_tuple_mul_2 _ _) (mul_none l its.toArray n dd sl k t (by omega) (by omega) hi) ⟨ho, ?_⟩)
    exact ⟨.ref s.heap.objs.size, _, I.laid (t' := s.toks) (o := .tup []) (fun b ob q => Heap.get?_push_of_some _ q) (Nat.le_refl _) ⟨Nat.zero_le _, [], .nil, IsTup.new _ _⟩, rfl, q0 (by omega) _ (I.hok.fresh (Nat.le_refl _))⟩
end
end TM2
/-! defs that make a lambda: their code object is told; the end of a law that shows data (FnG) with tables of code objects -/
namespace LM
open PySem PySem.Spec PyProof.Rows L2 LamX
/-- a def that stands at f, its code object at c -/
structure FunC (K : PySem.W.Frag) (x qual : Str) (st : Stmt) (f : Addr) (fd : FuncData) (c : Addr) : Prop where
  ex : ∃ (oc : Value) (od : Option Addr) (kV doc pm : Value) (an : Option Addr) (ct : Value) (osl : Array (Option Value)),
    fd = PySem.W.fnOf x qual (defArgs st) (defBody st) (defScope st) .none kV doc pm an (.ref c) ct ∧ K.lookup f = some ⟨oc, od, .func fd, osl⟩ ∧ PySem.W.codeIn K (.ref c) qual = true
  kp : PySem.W.keepIn K (.ref f) = true
section
variable {P : Program} {w : World} {K : PySem.W.Frag} {mg : Str → Option Value} {base : Heap} {x qual : Str} {st : Stmt} {f c : Addr} {fd : FuncData}
theorem FunC.toFun (F : FunC K x qual st f fd c) : Fun K x qual st f fd := by
  obtain ⟨oc, od, kV, doc, pm, an, ct, osl, e, l, h⟩ := F.ex
  exact ⟨⟨oc, od, kV, doc, pm, an, .ref c, ct, osl, e, l, h⟩, F.kp⟩
theorem FunC.ok {N ps : List Str} {k : Nat} {sp : Sp} (F : FunC K x qual st f fd c) (S : FnScope N ps (defScope st)) (len : ∀ vs H Q E, sp vs H Q E → vs.length = ps.length)
    (body : ∀ (A : Around) (outer : List Env) (s : Shared) (H : Hp) (vs : List V) (Q : VK) (E : XK), Room k (A.deeper (envOfC qual (defScope st) s.heap.objs.size f (.ref c))) → sp vs H Q E →
      ∃ t, PSs (cxOf CX0 P w K mg base N qual (defScope st) f (.ref c) A outer s H E).nox (defBody st) t ∧ t { nx := fun _ H' => Q .non H', rt := Q } (start N vs) H) : FnOk P w K mg base CX0 (k + 1) f fd ps sp := by
  obtain ⟨oc, od, kV, doc, pm, an, ct, osl, rfl, l, h⟩ := F.ex
  refine fn_of l h S len fun A outer s H vs Q E hr hs => ?_
  obtain ⟨t, a, b⟩ := body A outer s H vs Q E hr hs
  exact ⟨t, a.nox, b⟩
end
/-- all but tables stays, and tables that were well stand well -/
structure Ex (T : List (Addr × Str)) (H H' : Hp) : Prop where
  ext : ExtN H H'
  tab : Tabs T H → Tabs T H'
theorem Ex.refl {T : List (Addr × Str)} (H : Hp) : Ex T H H := ⟨ExtN.refl H, id⟩
theorem Ex.trans {T : List (Addr × Str)} {H H1 H2 : Hp} (a : Ex T H H1) (b : Ex T H1 H2) : Ex T H H2 := ⟨a.ext.trans b.ext, fun t => b.tab (a.tab t)⟩
theorem Ex.of {T : List (Addr × Str)} {H H' : Hp} (e : Same H H') : Ex T H H' := ⟨ExtN.of e, fun t => t.ext e⟩
theorem Ex.lst {T : List (Addr × Str)} {H H' : Hp} (e : Ex T H H') {a : Addr} {xs : List V} (h : H a = some (.lst xs)) : H' a = some (.lst xs) := e.ext _ _ h fun _ z => by cases z
theorem Ex.tup {T : List (Addr × Str)} {H H' : Hp} (e : Ex T H H') {a : Addr} {xs : List V} (h : H a = some (.tup xs)) : H' a = some (.tup xs) := e.ext _ _ h fun _ z => by cases z
/-- the table that the code object at c names -/
def tabOf (K : PySem.W.Frag) (c : Addr) : Addr := match K.lookup c with
  | some ⟨_, _, .fields vs, _⟩ => (match (vs[11]? : Option Value) with | some (.ref P) => P | _ => 0)
  | _ => 0
/-- what a law's call wants, and gives, where tables of code objects may be filled -/
structure Ground (w : World) (K : PySem.W.Frag) (mg mb : Str → Option Value) (cs : List (Addr × Addr)) (h : Heap) : Prop where
  kin : K.In h
  ns : h.Ns mainGlobals mg
  bn : h.Ns builtinsNs mb
  bb : ∀ x : Str, x ≠ "__name__" → mb x = bootBuiltins x
  lim : h.NoLimit
  tab : ∀ p ∈ cs, h.get? p.2 = some (PySem.W.tabObj #[])
  nt : ∀ p ∈ cs, K.lookup p.2 = none
  code : ∀ p ∈ cs, PySem.W.CodeHd h p.1 p.2
  bm : ∃ (b : Addr) (o : Obj), mg "__builtins__" = some (.ref b) ∧ b ≠ builtinsNs ∧ h.get? b = some o ∧ o.cls = .type "module" ∧ o.dict = some builtinsNs ∧ o.data = .plain
section
variable {P : Program} {w : World} {K : PySem.W.Frag} {mg mb : Str → Option Value} {k : Nat} {fa a : Addr} {cs : List (Addr × Addr)} {fd : FuncData} {x : Str} {sp : Sp} {s : Shared} {vs : List Value} {ns : List Int}
/-- the heap's word at the start: the script where it is not written, the tables -/
noncomputable def startH (K : PySem.W.Frag) (a : Addr) (cs : List (Addr × Addr)) (o : Obj) (xs : List V) : Hp := fun b =>
  if b ∈ cs.map (·.2) then some (.tbl #[]) else if b = a ∧ K.lookup a = none then some (.frz o (.lst xs)) else none
theorem law_callGT (G : Ground w K mg mb cs s.heap) (hg : s.gens = #[]) (ha : s.heap.get? a = some { cls := .type "list", data := .seq vs.toArray }) (hi : IntsAre vs ns) (hl : ns.length ≤ sizeLine) (hr : Room k callerA)
    (F : ∀ base : Heap, K.In base → base.Ns mainGlobals mg → (∀ p ∈ cs, TabB base mg p.1 p.2) → FnG P w K mg base k fa fd [x] sp) (hb : ∀ (s : Shared) (u : Value), BindsTo s fd ⟨[u], []⟩ [(x, u)])
    (hsp : ∀ H : Hp, (∀ p ∈ cs, H p.2 = some (.tbl #[])) → SqL K H a (ns.map V.int) → sp [.ref a] H (fun v _ => v = .bl true) fun _ _ _ => False) :
    codeAny (model P w) callerA (.call (.ref fa) ⟨[.ref a], []⟩) (fun r s' => r = .ok (.ret (.bool true)) ∧ OldK s.heap s'.heap ∧ s'.os = s.os ∧ AllBare s'.gens) s := by
  let H := startH K a cs { cls := .type "list", data := .seq vs.toArray } (ns.map V.int)
  have inT : ∀ {b}, b ∈ cs.map (·.2) → H b = some (.tbl #[]) := fun hb => if_pos hb
  have atT : ∀ {b}, b ∈ cs.map (·.2) → s.heap.get? b = some (PySem.W.tabObj #[]) := fun {b} hb => by
    obtain ⟨p, hp, rfl⟩ := List.mem_map.mp hb
    exact G.tab p hp
  have aT : a ∉ cs.map (·.2) := fun z => by
    have q := atT z
    rw [ha] at q
    exact nomatch congrArg Obj.data (Option.some.inj q)
  -- who is told of: a table, or the script, that is not written then
  have told : ∀ {b o}, H b = some o → (b ∈ cs.map (·.2) ∧ o = .tbl #[]) ∨ (b = a ∧ K.lookup a = none ∧ o = .frz { cls := .type "list", data := .seq vs.toArray } (.lst (ns.map V.int))) := fun {b o} e => by
    by_cases h1 : b ∈ cs.map (·.2)
    · rw [inT h1] at e
      exact .inl ⟨h1, (Option.some.inj e).symm⟩
    · by_cases h2 : b = a ∧ K.lookup a = none
      · have e2 : H b = some (.frz { cls := .type "list", data := .seq vs.toArray } (.lst (ns.map V.int))) := (if_neg h1).trans (if_pos h2)
        rw [e2] at e
        exact .inr ⟨h2.1, h2.2, (Option.some.inj e).symm⟩
      · have e2 : H b = none := (if_neg h1).trans (if_neg h2)
        rw [e2] at e
        cases e
  have other : ∀ {b o}, s.heap.get? b = some o → o ≠ PySem.W.tabObj #[] → o.data ≠ .seq vs.toArray 0 → H b = none := fun {b o} e n1 n2 => by
    cases q : H b with
    | none => rfl
    | some u =>
      rcases told q with ⟨z, _⟩ | ⟨rfl, _⟩
      · rw [atT z] at e
        exact absurd (Option.some.inj e).symm n1
      · rw [ha] at e
        cases e
        exact absurd rfl n2
  have stays : ∀ {b o}, s.heap.get? b = some o → o ≠ PySem.W.tabObj #[] → o.data ≠ .seq vs.toArray 0 → (hidT s.heap H).get? b = some o := fun e n1 n2 => hidT_get e (other e n1 n2)
  have spaces : ∀ {b : Addr} {m : Str → Option Value}, s.heap.Ns b m → (hidT s.heap H).Ns b m := fun {b m} ⟨o, es, ep, e, d, r⟩ =>
    ⟨o, es, ep, stays e (fun z => by rw [z] at d; cases d) (fun z => by rw [d] at z; cases z), d, r⟩
  have kin : K.In (hidT s.heap H) := fun b o e => hidT_get (G.kin b o e) (by
    cases q : H b with
    | none => rfl
    | some u =>
      rcases told q with ⟨z, _⟩ | ⟨rfl, n, _⟩
      · obtain ⟨p, hp, rfl⟩ := List.mem_map.mp z
        rw [G.nt p hp] at e
        cases e
      · rw [n] at e
        cases e)
  have mods : L2.Mod K mg (hidT s.heap H) := ⟨kin, spaces G.ns, ⟨mb, spaces G.bn, G.bb⟩, let ⟨m, h1, h2⟩ := G.lim; ⟨m, spaces h1, h2⟩⟩
  have TB : ∀ p ∈ cs, TabB (hidT s.heap H) mg p.1 p.2 := fun p hp => by
    obtain ⟨bm, ob, b1, b2, b3, b4, b5, b6⟩ := G.bm
    obtain ⟨og, eg, pg, g1, g2, _⟩ := G.ns
    have tp := G.tab p hp
    refine ⟨?_, ⟨bm, ob, b1, b2, fun q => ?_, fun q => ?_, stays b3 (fun z => by rw [z] at b6; cases b6) (fun z => by rw [b6] at z; cases z), b4, b5, b6⟩, fun z => ?_⟩
    · obtain ⟨o, us, file, tf, flags, tg, inF, text, tt, e1, r1, r2, r3, r⟩ := G.code p hp
      exact ⟨o, us, file, tf, flags, tg, inF, text, tt, stays e1 (fun z => by rw [z] at r2; cases r2; simp at r3) (fun z => by rw [r2] at z; cases z), r1, r2, r3, r⟩
    · rw [q, g1] at b3
      cases b3
      rw [g2] at b6
      cases b6
    · rw [q, tp] at b3
      cases b3
      cases b6
    · rw [z, tp] at g1
      cases g1
      cases g2
  have rv := vals_ints hi
  have hok : HOk P w H s.heap := fun b u e => by
    rcases told e with ⟨z, rfl⟩ | ⟨rfl, _, rfl⟩
    · exact atT z
    · exact ⟨ha, by rw [List.length_map]; exact hl, vs, _, rv, ha⟩
  have hS : SqL K H a (ns.map V.int) := by
    cases q : K.lookup a with
    | none => exact .inl (.inr ⟨_, (if_neg aT).trans (if_pos ⟨rfl, q⟩)⟩)
    | some o =>
      have e := G.kin a o q
      rw [ha] at e
      cases e
      exact .inr ⟨_, vs.toArray, _, q, rfl, rfl, rfl, by rw [List.size_toArray, hi.length]; exact hl, by simpa using rv⟩
  have env : Env0 P w K mg (hidT s.heap H) callerA [] s H := ⟨rfl, mods, fun b o e => of_hidT e, Nat.le_of_eq (hidT_size _ _), trivial, fun b z => by simp [frs] at z, hok, .of_eq hg⟩
  refine codeAny_mono ((F _ kin (spaces G.ns) TB).go callerA [] s H [.ref a] [.ref a] _ _ ⟨[.ref a], []⟩ rfl hr env (hb s (.ref a)) (.cons rfl .nil) (hsp H (fun p hp => inT (List.mem_map.mpr ⟨p, hp, rfl⟩)) hS)) fun r s' h => ?_
  cases r with
  | error e => exact h.elim
  | ok fl =>
    cases fl with
    | next => exact False.elim h
    | brk => exact False.elim h
    | cont => exact False.elim h
    | ret u =>
      obtain ⟨v, H', os, bare, un, hok', rv', qv⟩ := h
      cases (show v = .bl true from qv)
      cases (show u = Value.bool true from rv')
      have filled : ∀ {b}, b ∈ cs.map (·.2) → ∃ more : Array Value, s'.heap.get? b = some (PySem.W.tabObj more) := fun {b} hb => by
        obtain ⟨more, z⟩ := un.tbls b #[] (inT hb)
        exact ⟨_, hok' b _ z⟩
      have same : ∀ {b o}, b ∉ cs.map (·.2) → s.heap.get? b = some o → s'.heap.get? b = some o := fun {b o} nb e => by
        cases q : H b with
        | none => exact un.keep b o e q (by simp [frs]) (by simp)
        | some y =>
          rcases told q with ⟨z, _⟩ | ⟨_, _, rfl⟩
          · exact absurd z nb
          · have e1 := (hok b _ q).1
            have e2 := (hok' b _ (un.frzs b _ _ q)).1
            rw [e] at e1
            cases e1
            exact e2
      refine ⟨rfl, ⟨fun b o e => ?_, fun b o e => ?_⟩, os, bare⟩
      · by_cases hb : b ∈ cs.map (·.2)
        · obtain ⟨more, hm⟩ := filled hb
          obtain ⟨p, hp, rfl⟩ := List.mem_map.mp hb
          have tp := G.tab p hp
          rw [tp] at e
          cases e
          exact .inr (.inl ⟨((G.code p hp).tab tp).isCodeTable, rfl, #[], more, rfl, by rw [Array.empty_append]; exact hm⟩)
        · exact .inl (same hb e)
      · by_cases hb : b ∈ cs.map (·.2)
        · obtain ⟨more, hm⟩ := filled hb
          exact ⟨_, hm⟩
        · exact ⟨o, same hb e⟩
end
theorem walkGT {l : PySem.W.OpenLaw} {n k : Nat} {q : Program} {loose : List Str} {XP : (Str → Option Value) → Heap → Prop} {YP : World → Heap → Prop} {d : DefRec} {K : Params → PySem.W.Frag} {x : Str}
    (hn : l.most = some n) (hn2 : n ≤ sizeLine) (hdf : d.params.defaults = []) (hr : Room k callerA) (hY : ∀ (w : World) (h : Heap), YP w h → (K w.params).In h)
    (F : ∀ (w : World) (mg : Str → Option Value) (fa : Addr) (h : Heap), YP w h → (K w.params).In h → h.Ns mainGlobals mg → mg d.name = some (.ref fa) →
      ∃ (fd : FuncData) (cs : List (Addr × Addr)) (sp : Sp), (∀ p ∈ cs, h.get? p.2 = some (PySem.W.tabObj #[])) ∧ (∀ p ∈ cs, (K w.params).lookup p.2 = none) ∧ (∀ p ∈ cs, PySem.W.CodeHd h p.1 p.2) ∧
        (∀ (s : Shared) (u : Value), BindsTo s fd ⟨[u], []⟩ [(x, u)]) ∧
        (∀ (H : Hp) (a : Addr) (ns : List Int), ns.length ≤ n → (∀ p ∈ cs, H p.2 = some (.tbl #[])) → SqL (K w.params) H a (ns.map V.int) → sp [.ref a] H (fun v _ => v = .bl true) fun _ _ _ => False) ∧
        ∀ base : Heap, (K w.params).In base → base.Ns mainGlobals mg → (∀ p ∈ cs, TabB base mg p.1 p.2) → FnG l.prog w (K w.params) mg base k fa fd [x] sp) :
    PySem.W.WalkO q loose XP YP l.row.toRowW d [] (fun f vs => PySem.call f vs) := by
  apply Att.attach_callB hn hdf
  intro w s₀ s₁ mg mb fa o pm cd doc a vs ns G Y ho hd hcd hmg hobj hints hlen hbits hg
  have KX := hY w _ Y
  obtain ⟨fd, cs, sp, h1, h2, h3, h4, h5, h6⟩ := F w mg fa _ Y KX G.T.g hmg
  exact law_callGT ⟨KX, G.T.g, G.T.b, G.T.builtins, G.T.nolimit, h1, h2, h3, G.T.bmain⟩ hg hobj hints (Nat.le_trans hlen hn2) hr h6 h4 (fun H hH hS => h5 H a ns hlen hH hS)
end LM

namespace M
open PySem L2

def top (i : Nat) : Stmt := PySem.Challenge.pw_stampedwait_k67_histories_looked_at.main.body.getD i (.Pass ⟨0, 0, 0, 0⟩)
abbrev s_is_whole : Stmt := top 1
abbrev s_is_from_to : Stmt := top 2
abbrev s_is_row_of_whole : Stmt := top 3
abbrev s_is_stamp : Stmt := top 4
abbrev s_is_key : Stmt := top 9
abbrev s_is_worth : Stmt := top 10
abbrev s_last_up_to : Stmt := top 12
abbrev s_shaped : Stmt := top 13
abbrev s_is_row : Stmt := top 22
abbrev s_is_dealing_row : Stmt := top 23
abbrev s_is_read_row : Stmt := top 24
abbrev s_is_told_worth : Stmt := top 25
abbrev s_is_list_of_pairs : Stmt := top 26
abbrev s_are_unlike : Stmt := top 27
abbrev s_have_unlike_keys : Stmt := top 28
abbrev s_of_word : Stmt := top 29
abbrev s_dealings_by_stamps : Stmt := top 30
abbrev s_are_fit : Stmt := top 31
abbrev s_go_as_true_time : Stmt := top 32
abbrev s_read_what_was_written : Stmt := top 33
abbrev s_versions_by_keys : Stmt := top 34
abbrev s_forms_by_times : Stmt := top 35
abbrev s_lacks_one_told : Stmt := top 36
abbrev s_are_reads_right : Stmt := top 37
abbrev s_is_ordered : Stmt := top 38
abbrev s_l_begun : Stmt := top 40
abbrev s_l_take : Stmt := top 41
abbrev s_l_formed : Stmt := top 42
abbrev s_l_fields : Stmt := top 43
abbrev s_l_worth_of : Stmt := top 44
abbrev s_l_pairs : Stmt := top 45
abbrev s_l_made : Stmt := top 46
abbrev s_l_reads : Stmt := top 47
abbrev s_l_history : Stmt := top 48
abbrev s_l_whole : Stmt := top 49
abbrev s_l_is_worth : Stmt := top 50
abbrev s_l_is_key : Stmt := top 51
abbrev s_l_are_pairs : Stmt := top 52
abbrev s_l_is_stamp : Stmt := top 53
abbrev s_l_is_told : Stmt := top 54
abbrev s_l_reading_fits : Stmt := top 55
abbrev s_l_is_ordered : Stmt := top 56
abbrev s_l_bent_deal : Stmt := top 57
abbrev s_l_bent : Stmt := top 58
abbrev s_l_right : Stmt := top 59
abbrev s_l_fixed_right : Stmt := top 60
abbrev s_law : Stmt := top 61
theorem sc_is_whole : FnScope ["thing"] ["thing"] (defScope s_is_whole) := ⟨rfl, rfl, rfl, by decide +kernel, rfl, by decide +kernel, by decide +kernel⟩
theorem sc_is_from_to : FnScope ["thing", "least", "most"] ["thing", "least", "most"] (defScope s_is_from_to) := ⟨rfl, rfl, rfl, by decide +kernel, rfl, by decide +kernel, by decide +kernel⟩
theorem sc_is_row_of_whole : FnScope ["thing", "least", "most", "part"] ["thing", "least", "most"] (defScope s_is_row_of_whole) := ⟨rfl, rfl, rfl, by decide +kernel, rfl, by decide +kernel, by decide +kernel⟩
theorem sc_is_stamp : FnScope ["thing"] ["thing"] (defScope s_is_stamp) := ⟨rfl, rfl, rfl, by decide +kernel, rfl, by decide +kernel, by decide +kernel⟩
theorem sc_is_key : FnScope ["thing"] ["thing"] (defScope s_is_key) := ⟨rfl, rfl, rfl, by decide +kernel, rfl, by decide +kernel, by decide +kernel⟩
theorem sc_is_worth : FnScope ["thing"] ["thing"] (defScope s_is_worth) := ⟨rfl, rfl, rfl, by decide +kernel, rfl, by decide +kernel, by decide +kernel⟩
theorem sc_last_up_to : FnScope ["rows", "time", "otherwise", "begun", "thing"] ["rows", "time", "otherwise"] (defScope s_last_up_to) := ⟨rfl, rfl, rfl, by decide +kernel, rfl, by decide +kernel, by decide +kernel⟩
theorem sc_shaped : FnScope ["worth", "fields"] ["worth", "fields"] (defScope s_shaped) := ⟨rfl, rfl, rfl, by decide +kernel, rfl, by decide +kernel, by decide +kernel⟩
theorem sc_is_row : FnScope ["thing"] ["thing"] (defScope s_is_row) := ⟨rfl, rfl, rfl, by decide +kernel, rfl, by decide +kernel, by decide +kernel⟩
theorem sc_is_dealing_row : FnScope ["row", "word", "number", "begun", "told", "stamp", "reads", "writes", "part"] ["row"] (defScope s_is_dealing_row) := ⟨rfl, rfl, rfl, by decide +kernel, rfl, by decide +kernel, by decide +kernel⟩
theorem sc_is_read_row : FnScope ["row", "word", "asked", "time", "key", "worth"] ["row"] (defScope s_is_read_row) := ⟨rfl, rfl, rfl, by decide +kernel, rfl, by decide +kernel, by decide +kernel⟩
theorem sc_is_told_worth : FnScope ["thing", "or_none"] ["thing", "or_none"] (defScope s_is_told_worth) := ⟨rfl, rfl, rfl, by decide +kernel, rfl, by decide +kernel, by decide +kernel⟩
theorem sc_is_list_of_pairs : FnScope ["thing", "or_none", "pair"] ["thing", "or_none"] (defScope s_is_list_of_pairs) := ⟨rfl, rfl, rfl, by decide +kernel, rfl, by decide +kernel, by decide +kernel⟩
theorem sc_are_unlike : FnScope ["things"] ["things"] (defScope s_are_unlike) := ⟨rfl, rfl, rfl, by decide +kernel, rfl, by decide +kernel, by decide +kernel⟩
theorem sc_have_unlike_keys : FnScope ["pairs", "key", "worth"] ["pairs"] (defScope s_have_unlike_keys) := ⟨rfl, rfl, rfl, by decide +kernel, rfl, by decide +kernel, by decide +kernel⟩
theorem sc_of_word : FnScope ["history", "word", "row"] ["history", "word"] (defScope s_of_word) := ⟨rfl, rfl, rfl, by decide +kernel, rfl, by decide +kernel, by decide +kernel⟩
theorem sc_dealings_by_stamps : FnScope ["history"] ["history"] (defScope s_dealings_by_stamps) := ⟨rfl, rfl, rfl, by decide +kernel, rfl, by decide +kernel, by decide +kernel⟩
theorem sc_are_fit : FnScope ["dealings", "word", "number", "begun", "told", "stamp", "reads", "writes", "row"] ["dealings"] (defScope s_are_fit) := ⟨rfl, rfl, rfl, by decide +kernel, rfl, by decide +kernel, by decide +kernel⟩
theorem sc_go_as_true_time : FnScope ["dealings", "latest", "word", "number", "begun", "told", "stamp", "reads", "writes"] ["dealings"] (defScope s_go_as_true_time) := ⟨rfl, rfl, rfl, by decide +kernel, rfl, by decide +kernel, by decide +kernel⟩
theorem sc_read_what_was_written : FnScope ["dealings", "worths", "word", "number", "begun", "told", "stamp", "reads", "writes", "key", "worth"] ["dealings"] (defScope s_read_what_was_written) := ⟨rfl, rfl, rfl, by decide +kernel, rfl, by decide +kernel, by decide +kernel⟩
theorem sc_versions_by_keys : FnScope ["dealings", "versions", "word", "number", "begun", "told", "stamp", "reads", "writes", "key", "worth", "rows"] ["dealings"] (defScope s_versions_by_keys) := ⟨rfl, rfl, rfl, by decide +kernel, rfl, by decide +kernel, by decide +kernel⟩
theorem sc_forms_by_times : FnScope ["history", "word", "time", "fields"] ["history"] (defScope s_forms_by_times) := ⟨rfl, rfl, rfl, by decide +kernel, rfl, by decide +kernel, by decide +kernel⟩
theorem sc_lacks_one_told : FnScope ["dealings", "asked", "time", "row"] ["dealings", "asked", "time"] (defScope s_lacks_one_told) := ⟨rfl, rfl, rfl, by decide +kernel, rfl, by decide +kernel, by decide +kernel⟩
theorem sc_are_reads_right : FnScope ["history", "dealings", "versions", "forms", "word", "asked", "time", "key", "worth", "fields"] ["history", "dealings"] (defScope s_are_reads_right) := ⟨rfl, rfl, rfl, by decide +kernel, rfl, by decide +kernel, by decide +kernel⟩
theorem sc_is_ordered : FnScope ["thing", "dealings", "row"] ["thing"] (defScope s_is_ordered) := ⟨rfl, rfl, rfl, by decide +kernel, rfl, by decide +kernel, by decide +kernel⟩
theorem sc_l_begun : FnScope ["_law_script", "_law_k", "_law_cell", "_law_number", "_law_mixed"] ["_law_script", "_law_k"] (defScope s_l_begun) := ⟨rfl, rfl, rfl, by decide +kernel, rfl, by decide +kernel, by decide +kernel⟩
theorem sc_l_take : FnScope ["_law_state", "_law_many", "_law_digit", "_law_made_here", "_law_turn"] ["_law_state", "_law_many"] (defScope s_l_take) := ⟨rfl, rfl, rfl, by decide +kernel, rfl, by decide +kernel, by decide +kernel⟩
theorem sc_l_formed : FnScope ["_law_worth", "_law_fields_here"] ["_law_worth", "_law_fields_here"] (defScope s_l_formed) := ⟨rfl, rfl, rfl, by decide +kernel, rfl, by decide +kernel, by decide +kernel⟩
theorem sc_l_fields : FnScope ["_law_history_here", "_law_time", "_law_some", "_law_number", "_law_one"] ["_law_history_here", "_law_time"] (defScope s_l_fields) := ⟨rfl, rfl, rfl, by decide +kernel, rfl, by decide +kernel, by decide +kernel⟩
theorem sc_l_worth_of : FnScope ["_law_deals", "_law_key", "_law_most", "_law_some", "_law_one", "_law_stamp", "_law_worth"] ["_law_deals", "_law_key", "_law_most"] (defScope s_l_worth_of) := ⟨rfl, rfl, rfl, by decide +kernel, rfl, by decide +kernel, by decide +kernel⟩
theorem sc_l_pairs : FnScope ["_law_state", "_law_some", "_law_keys", "_law_turn", "_law_key", "_law_part"] ["_law_state", "_law_some"] (defScope s_l_pairs) := ⟨rfl, rfl, rfl, by decide +kernel, rfl, by decide +kernel, by decide +kernel⟩
theorem sc_l_made : FnScope ["_law_state", "_law_size", "_law_deals", "_law_last", "_law_now", "_law_number", "_law_begun_here", "_law_reads_here", "_law_name", "_law_key", "_law_worth"] ["_law_state", "_law_size"] (defScope s_l_made) := ⟨rfl, rfl, rfl, by decide +kernel, rfl, by decide +kernel, by decide +kernel⟩
theorem sc_l_reads : FnScope ["_law_state", "_law_deals", "_law_history_here", "_law_found", "_law_turn", "_law_key", "_law_time", "_law_worth", "_law_word", "_law_asked", "_law_late", "_law_one"] ["_law_state", "_law_deals", "_law_history_here"] (defScope s_l_reads) := ⟨rfl, rfl, rfl, by decide +kernel, rfl, by decide +kernel, by decide +kernel⟩
theorem sc_l_history : FnScope ["_law_state", "_law_deals", "_law_forms", "_law_turn", "_law_history_here"] ["_law_state"] (defScope s_l_history) := ⟨rfl, rfl, rfl, by decide +kernel, rfl, by decide +kernel, by decide +kernel⟩
theorem sc_l_whole : FnScope ["_law_thing"] ["_law_thing"] (defScope s_l_whole) := ⟨rfl, rfl, rfl, by decide +kernel, rfl, by decide +kernel, by decide +kernel⟩
theorem sc_l_is_worth : FnScope ["_law_thing", "_law_one"] ["_law_thing"] (defScope s_l_is_worth) := ⟨rfl, rfl, rfl, by decide +kernel, rfl, by decide +kernel, by decide +kernel⟩
theorem sc_l_is_key : FnScope ["_law_thing", "_law_sign"] ["_law_thing"] (defScope s_l_is_key) := ⟨rfl, rfl, rfl, by decide +kernel, rfl, by decide +kernel, by decide +kernel⟩
theorem sc_l_are_pairs : FnScope ["_law_thing", "_law_or_none", "_law_one"] ["_law_thing", "_law_or_none"] (defScope s_l_are_pairs) := ⟨rfl, rfl, rfl, by decide +kernel, rfl, by decide +kernel, by decide +kernel⟩
theorem sc_l_is_stamp : FnScope ["_law_thing", "_law_one"] ["_law_thing"] (defScope s_l_is_stamp) := ⟨rfl, rfl, rfl, by decide +kernel, rfl, by decide +kernel, by decide +kernel⟩
theorem sc_l_is_told : FnScope ["_law_thing", "_law_one"] ["_law_thing"] (defScope s_l_is_told) := ⟨rfl, rfl, rfl, by decide +kernel, rfl, by decide +kernel, by decide +kernel⟩
theorem sc_l_reading_fits : FnScope ["_law_history_here", "_law_deals", "_law_one", "_law_word", "_law_asked", "_law_time", "_law_key", "_law_worth", "_law_newest", "_law_late", "_law_deal"] ["_law_history_here", "_law_deals", "_law_one"] (defScope s_l_reading_fits) := ⟨rfl, rfl, rfl, by decide +kernel, rfl, by decide +kernel, by decide +kernel⟩
theorem sc_l_is_ordered : FnScope ["_law_thing", "_law_deals", "_law_numbers", "_law_stamps", "_law_one", "_law_some", "_law_other", "_law_key", "_law_worth"] ["_law_thing"] (defScope s_l_is_ordered) := ⟨rfl, rfl, rfl, by decide +kernel, rfl, by decide +kernel, by decide +kernel⟩
theorem sc_l_bent_deal : FnScope ["_law_state", "_law_one", "_law_word", "_law_number", "_law_begun_here", "_law_told", "_law_stamp", "_law_reads_here", "_law_writes", "_law_way", "_law_key", "_law_worth"] ["_law_state", "_law_one"] (defScope s_l_bent_deal) := ⟨rfl, rfl, rfl, by decide +kernel, rfl, by decide +kernel, by decide +kernel⟩
theorem sc_l_bent : FnScope ["_law_state", "_law_history_here", "_law_at", "_law_one", "_law_way", "_law_worth"] ["_law_state", "_law_history_here"] (defScope s_l_bent) := ⟨rfl, rfl, rfl, by decide +kernel, rfl, by decide +kernel, by decide +kernel⟩
theorem sc_l_right : FnScope ["_law_history_here", "_law_kept", "_law_found"] ["_law_history_here"] (defScope s_l_right) := ⟨rfl, rfl, rfl, by decide +kernel, rfl, by decide +kernel, by decide +kernel⟩
theorem sc_l_fixed_right : FnScope ["_law_deal", "_law_some", "_law_forms", "_law_one"] [] (defScope s_l_fixed_right) := ⟨rfl, rfl, rfl, by decide +kernel, rfl, by decide +kernel, by decide +kernel⟩
theorem sc_law : FnScope ["_law_script", "_law_k", "_law_state", "_law_history_here", "_law_turn", "_law_other"] ["_law_script"] (defScope s_law) := ⟨rfl, rfl, rfl, by decide +kernel, rfl, by decide +kernel, by decide +kernel⟩
/-- what the top has written -/
structure Txt (K : PySem.W.Frag) (mg : Str → Option Value) (a : Nat → Addr) (d : Nat → FuncData) : Prop where
  g_is_whole : mg "is_whole" = some (.ref (a 0))
  F_is_whole : Fun K "is_whole" "is_whole" s_is_whole (a 0) (d 0)
  b_is_whole : Binds K (d 0) ["thing"] []
  g_is_from_to : mg "is_from_to" = some (.ref (a 1))
  F_is_from_to : Fun K "is_from_to" "is_from_to" s_is_from_to (a 1) (d 1)
  b_is_from_to : Binds K (d 1) ["thing", "least", "most"] []
  g_is_row_of_whole : mg "is_row_of_whole" = some (.ref (a 2))
  F_is_row_of_whole : Fun K "is_row_of_whole" "is_row_of_whole" s_is_row_of_whole (a 2) (d 2)
  b_is_row_of_whole : Binds K (d 2) ["thing", "least", "most"] []
  g_is_stamp : mg "is_stamp" = some (.ref (a 3))
  F_is_stamp : Fun K "is_stamp" "is_stamp" s_is_stamp (a 3) (d 3)
  b_is_stamp : Binds K (d 3) ["thing"] []
  g_is_key : mg "is_key" = some (.ref (a 4))
  F_is_key : Fun K "is_key" "is_key" s_is_key (a 4) (d 4)
  b_is_key : Binds K (d 4) ["thing"] []
  g_is_worth : mg "is_worth" = some (.ref (a 5))
  F_is_worth : Fun K "is_worth" "is_worth" s_is_worth (a 5) (d 5)
  b_is_worth : Binds K (d 5) ["thing"] []
  g_last_up_to : mg "last_up_to" = some (.ref (a 6))
  F_last_up_to : Fun K "last_up_to" "last_up_to" s_last_up_to (a 6) (d 6)
  b_last_up_to : Binds K (d 6) ["rows", "time", "otherwise"] []
  g_shaped : mg "shaped" = some (.ref (a 7))
  F_shaped : Fun K "shaped" "shaped" s_shaped (a 7) (d 7)
  b_shaped : Binds K (d 7) ["worth", "fields"] []
  g_is_row : mg "is_row" = some (.ref (a 8))
  F_is_row : Fun K "is_row" "is_row" s_is_row (a 8) (d 8)
  b_is_row : Binds K (d 8) ["thing"] []
  g_is_dealing_row : mg "is_dealing_row" = some (.ref (a 9))
  F_is_dealing_row : Fun K "is_dealing_row" "is_dealing_row" s_is_dealing_row (a 9) (d 9)
  b_is_dealing_row : Binds K (d 9) ["row"] []
  g_is_read_row : mg "is_read_row" = some (.ref (a 10))
  F_is_read_row : Fun K "is_read_row" "is_read_row" s_is_read_row (a 10) (d 10)
  b_is_read_row : Binds K (d 10) ["row"] []
  g_is_told_worth : mg "is_told_worth" = some (.ref (a 11))
  F_is_told_worth : Fun K "is_told_worth" "is_told_worth" s_is_told_worth (a 11) (d 11)
  b_is_told_worth : Binds K (d 11) ["thing", "or_none"] []
  g_is_list_of_pairs : mg "is_list_of_pairs" = some (.ref (a 12))
  F_is_list_of_pairs : Fun K "is_list_of_pairs" "is_list_of_pairs" s_is_list_of_pairs (a 12) (d 12)
  b_is_list_of_pairs : Binds K (d 12) ["thing", "or_none"] []
  g_are_unlike : mg "are_unlike" = some (.ref (a 13))
  F_are_unlike : Fun K "are_unlike" "are_unlike" s_are_unlike (a 13) (d 13)
  b_are_unlike : Binds K (d 13) ["things"] []
  g_have_unlike_keys : mg "have_unlike_keys" = some (.ref (a 14))
  F_have_unlike_keys : Fun K "have_unlike_keys" "have_unlike_keys" s_have_unlike_keys (a 14) (d 14)
  b_have_unlike_keys : Binds K (d 14) ["pairs"] []
  g_of_word : mg "of_word" = some (.ref (a 15))
  F_of_word : Fun K "of_word" "of_word" s_of_word (a 15) (d 15)
  b_of_word : Binds K (d 15) ["history", "word"] []
  g_dealings_by_stamps : mg "dealings_by_stamps" = some (.ref (a 16))
  F_dealings_by_stamps : LM.FunC K "dealings_by_stamps" "dealings_by_stamps" s_dealings_by_stamps (a 16) (d 16) (a 90)
  b_dealings_by_stamps : Binds K (d 16) ["history"] []
  g_are_fit : mg "are_fit" = some (.ref (a 17))
  F_are_fit : Fun K "are_fit" "are_fit" s_are_fit (a 17) (d 17)
  b_are_fit : Binds K (d 17) ["dealings"] []
  g_go_as_true_time : mg "go_as_true_time" = some (.ref (a 18))
  F_go_as_true_time : Fun K "go_as_true_time" "go_as_true_time" s_go_as_true_time (a 18) (d 18)
  b_go_as_true_time : Binds K (d 18) ["dealings"] []
  g_read_what_was_written : mg "read_what_was_written" = some (.ref (a 19))
  F_read_what_was_written : Fun K "read_what_was_written" "read_what_was_written" s_read_what_was_written (a 19) (d 19)
  b_read_what_was_written : Binds K (d 19) ["dealings"] []
  g_versions_by_keys : mg "versions_by_keys" = some (.ref (a 20))
  F_versions_by_keys : Fun K "versions_by_keys" "versions_by_keys" s_versions_by_keys (a 20) (d 20)
  b_versions_by_keys : Binds K (d 20) ["dealings"] []
  g_forms_by_times : mg "forms_by_times" = some (.ref (a 21))
  F_forms_by_times : LM.FunC K "forms_by_times" "forms_by_times" s_forms_by_times (a 21) (d 21) (a 92)
  b_forms_by_times : Binds K (d 21) ["history"] []
  g_lacks_one_told : mg "lacks_one_told" = some (.ref (a 22))
  F_lacks_one_told : Fun K "lacks_one_told" "lacks_one_told" s_lacks_one_told (a 22) (d 22)
  b_lacks_one_told : Binds K (d 22) ["dealings", "asked", "time"] []
  g_are_reads_right : mg "are_reads_right" = some (.ref (a 23))
  F_are_reads_right : Fun K "are_reads_right" "are_reads_right" s_are_reads_right (a 23) (d 23)
  b_are_reads_right : Binds K (d 23) ["history", "dealings"] []
  g_is_ordered : mg "is_ordered" = some (.ref (a 24))
  F_is_ordered : Fun K "is_ordered" "is_ordered" s_is_ordered (a 24) (d 24)
  b_is_ordered : Binds K (d 24) ["thing"] []
  g_l_begun : mg "_law_begun" = some (.ref (a 25))
  F_l_begun : Fun K "_law_begun" "_law_begun" s_l_begun (a 25) (d 25)
  b_l_begun : Binds K (d 25) ["_law_script", "_law_k"] []
  g_l_take : mg "_law_take" = some (.ref (a 26))
  F_l_take : Fun K "_law_take" "_law_take" s_l_take (a 26) (d 26)
  b_l_take : Binds K (d 26) ["_law_state", "_law_many"] []
  g_l_formed : mg "_law_formed" = some (.ref (a 27))
  F_l_formed : Fun K "_law_formed" "_law_formed" s_l_formed (a 27) (d 27)
  b_l_formed : Binds K (d 27) ["_law_worth", "_law_fields_here"] []
  g_l_fields : mg "_law_fields" = some (.ref (a 28))
  F_l_fields : Fun K "_law_fields" "_law_fields" s_l_fields (a 28) (d 28)
  b_l_fields : Binds K (d 28) ["_law_history_here", "_law_time"] []
  g_l_worth_of : mg "_law_worth_of" = some (.ref (a 29))
  F_l_worth_of : Fun K "_law_worth_of" "_law_worth_of" s_l_worth_of (a 29) (d 29)
  b_l_worth_of : Binds K (d 29) ["_law_deals", "_law_key", "_law_most"] []
  g_l_pairs : mg "_law_pairs" = some (.ref (a 30))
  F_l_pairs : Fun K "_law_pairs" "_law_pairs" s_l_pairs (a 30) (d 30)
  b_l_pairs : Binds K (d 30) ["_law_state", "_law_some"] []
  g_l_made : mg "_law_made" = some (.ref (a 31))
  F_l_made : Fun K "_law_made" "_law_made" s_l_made (a 31) (d 31)
  b_l_made : Binds K (d 31) ["_law_state", "_law_size"] []
  g_l_reads : mg "_law_reads" = some (.ref (a 32))
  F_l_reads : Fun K "_law_reads" "_law_reads" s_l_reads (a 32) (d 32)
  b_l_reads : Binds K (d 32) ["_law_state", "_law_deals", "_law_history_here"] []
  g_l_history : mg "_law_history" = some (.ref (a 33))
  F_l_history : Fun K "_law_history" "_law_history" s_l_history (a 33) (d 33)
  b_l_history : Binds K (d 33) ["_law_state"] []
  g_l_whole : mg "_law_whole" = some (.ref (a 34))
  F_l_whole : Fun K "_law_whole" "_law_whole" s_l_whole (a 34) (d 34)
  b_l_whole : Binds K (d 34) ["_law_thing"] []
  g_l_is_worth : mg "_law_is_worth" = some (.ref (a 35))
  F_l_is_worth : Fun K "_law_is_worth" "_law_is_worth" s_l_is_worth (a 35) (d 35)
  b_l_is_worth : Binds K (d 35) ["_law_thing"] []
  g_l_is_key : mg "_law_is_key" = some (.ref (a 36))
  F_l_is_key : Fun K "_law_is_key" "_law_is_key" s_l_is_key (a 36) (d 36)
  b_l_is_key : Binds K (d 36) ["_law_thing"] []
  g_l_are_pairs : mg "_law_are_pairs" = some (.ref (a 37))
  F_l_are_pairs : Fun K "_law_are_pairs" "_law_are_pairs" s_l_are_pairs (a 37) (d 37)
  b_l_are_pairs : Binds K (d 37) ["_law_thing", "_law_or_none"] []
  g_l_is_stamp : mg "_law_is_stamp" = some (.ref (a 38))
  F_l_is_stamp : Fun K "_law_is_stamp" "_law_is_stamp" s_l_is_stamp (a 38) (d 38)
  b_l_is_stamp : Binds K (d 38) ["_law_thing"] []
  g_l_is_told : mg "_law_is_told" = some (.ref (a 39))
  F_l_is_told : Fun K "_law_is_told" "_law_is_told" s_l_is_told (a 39) (d 39)
  b_l_is_told : Binds K (d 39) ["_law_thing"] []
  g_l_reading_fits : mg "_law_reading_fits" = some (.ref (a 40))
  F_l_reading_fits : Fun K "_law_reading_fits" "_law_reading_fits" s_l_reading_fits (a 40) (d 40)
  b_l_reading_fits : Binds K (d 40) ["_law_history_here", "_law_deals", "_law_one"] []
  g_l_is_ordered : mg "_law_is_ordered" = some (.ref (a 41))
  F_l_is_ordered : Fun K "_law_is_ordered" "_law_is_ordered" s_l_is_ordered (a 41) (d 41)
  b_l_is_ordered : Binds K (d 41) ["_law_thing"] []
  g_l_bent_deal : mg "_law_bent_deal" = some (.ref (a 42))
  F_l_bent_deal : Fun K "_law_bent_deal" "_law_bent_deal" s_l_bent_deal (a 42) (d 42)
  b_l_bent_deal : Binds K (d 42) ["_law_state", "_law_one"] []
  g_l_bent : mg "_law_bent" = some (.ref (a 43))
  F_l_bent : Fun K "_law_bent" "_law_bent" s_l_bent (a 43) (d 43)
  b_l_bent : Binds K (d 43) ["_law_state", "_law_history_here"] []
  g_l_right : mg "_law_right" = some (.ref (a 44))
  F_l_right : Fun K "_law_right" "_law_right" s_l_right (a 44) (d 44)
  b_l_right : Binds K (d 44) ["_law_history_here"] []
  g_l_fixed_right : mg "_law_fixed_right" = some (.ref (a 45))
  F_l_fixed_right : Fun K "_law_fixed_right" "_law_fixed_right" s_l_fixed_right (a 45) (d 45)
  b_l_fixed_right : Binds K (d 45) [] []
  g_law : mg "law" = some (.ref (a 46))
  F_law : Fun K "law" "law" s_law (a 46) (d 46)
  b_law : Binds K (d 46) ["_law_script"] []
  g_LETTERS : ∃ t, mg "LETTERS" = some (.str "abcdefghijklmnopqrstuvwxyz" t)
  g_MOST_LETTERS : ∃ t, mg "MOST_LETTERS" = some (.int (6) t)
  g_MOST_FIELDS : ∃ t, mg "MOST_FIELDS" = some (.int (4) t)
  g_DEALING_ROW : ∃ t, mg "DEALING_ROW" = some (.str "dealing" t)
  g_FORM_ROW : ∃ t, mg "FORM_ROW" = some (.str "form" t)
  g_READ_ROW : ∃ t, mg "READ_ROW" = some (.str "read" t)
  g_NOW_ROW : ∃ t, mg "NOW_ROW" = some (.str "now" t)
  g_DEALING_PARTS : ∃ t, mg "DEALING_PARTS" = some (.int (7) t)
  g_FORM_PARTS : ∃ t, mg "FORM_PARTS" = some (.int (3) t)
  g_READ_PARTS : ∃ t, mg "READ_PARTS" = some (.int (5) t)
  z_max : mg "max" = none
  z_min : mg "min" = none
  z_len : mg "len" = none
  z_int : mg "int" = none
  z_range : mg "range" = none
  z_isinstance : mg "isinstance" = none
  z_tuple : mg "tuple" = none
  z_repr : mg "repr" = none
  z_list : mg "list" = none
  z_str : mg "str" = none
  z_sorted : mg "sorted" = none
  z_set : mg "set" = none
  z_dict : mg "dict" = none
  z_enumerate : mg "enumerate" = none
  z_reversed : mg "reversed" = none
  z_all : mg "all" = none
  z_any : mg "any" = none
  z_bool : mg "bool" = none
def TT (a : Nat → Addr) : List (Addr × Str) := [(a 91, ((("dealings_by_stamps" : Str) ++ ".<locals>.") ++ "<lambda>")), (a 93, ((("forms_by_times" : Str) ++ ".<locals>.") ++ "<lambda>"))]
/-- the tables of code objects, told of the module -/
structure Tb (base : Heap) (mg : Str → Option Value) (a : Nat → Addr) : Prop where
  t_dealings_by_stamps : LamX.TabB base mg (a 90) (a 91)
  t_forms_by_times : LamX.TabB base mg (a 92) (a 93)
  ne : a 91 ≠ a 93
theorem TT.one {a : Nat → Addr} (h : a 91 ≠ a 93) : ∀ p ∈ TT a, p.1 = a 91 → p.2 = ((("dealings_by_stamps" : Str) ++ ".<locals>.") ++ "<lambda>") := by
  intro p hp e
  rcases List.mem_cons.mp hp with rfl | hp
  · rfl
  · cases List.mem_singleton.mp hp
    exact absurd e.symm h
theorem TT.two {a : Nat → Addr} (h : a 91 ≠ a 93) : ∀ p ∈ TT a, p.1 = a 93 → p.2 = ((("forms_by_times" : Str) ++ ".<locals>.") ++ "<lambda>") := by
  intro p hp e
  rcases List.mem_cons.mp hp with rfl | hp
  · exact absurd e h
  · cases List.mem_singleton.mp hp
    rfl


/-- a state of draws stands at s -/
def StAt (H : Hp) (s : Addr) : Prop := ∃ (a b : Int) (c : Bool), H s = some (.lst [.int a, .int b, .bl c]) ∧ 0 ≤ b ∧ b < 2147483647
/-- all else that was tracked stands; at s a state -/
def Kp (s : Addr) (H H' : Hp) : Prop := (∀ b o, b ≠ s → H b = some o → H' b = some o) ∧ StAt H' s
theorem StAt.kp {H : Hp} {s : Addr} (h : StAt H s) : Kp s H H := ⟨fun _ _ _ e => e, h⟩
theorem Kp.trans {s : Addr} {H H1 H2 : Hp} (a : Kp s H H1) (b : Kp s H1 H2) : Kp s H H2 := ⟨fun c o n e => b.1 c o n (a.1 c o n e), b.2⟩
theorem StAt.ne_new {H : Hp} {s p : Addr} (h : StAt H s) (hp : H p = none) : p ≠ s := by
  obtain ⟨a, b, c, e, _⟩ := h
  exact (ne_of_none e hp).symm
theorem StAt.new {H : Hp} {s p : Addr} {o : HO} (h : StAt H s) (hp : H p = none) : StAt (upd H p o) s := by
  obtain ⟨a, b, c, e, r⟩ := h
  exact ⟨a, b, c, by rw [upd_ne (ne_of_none e hp)]; exact e, r⟩
theorem Kp.new {s p : Addr} {H H1 : Hp} {o : HO} (k : Kp s H H1) (hp : H1 p = none) : Kp s H (upd H1 p o) :=
  ⟨fun b u n e => by rw [upd_ne (ne_of_none (k.1 b u n e) hp)]; exact k.1 b u n e, k.2.new hp⟩
theorem StAt.ne_tup {H : Hp} {s p : Addr} {xs : List V} (h : StAt H s) (hp : H p = some (.tup xs)) : p ≠ s := by
  obtain ⟨a, b, c, e, _⟩ := h
  exact ne_of hp e (by intro q; cases q)
theorem Kp.tup {s p : Addr} {H H1 : Hp} {xs : List V} (k : Kp s H H1) (h0 : StAt H s) (hp : H p = some (.tup xs)) : H1 p = some (.tup xs) := k.1 p _ (h0.ne_tup hp) hp
theorem Kp.free {s p : Addr} {H H1 : Hp} (k : Kp s H H1) (h0 : StAt H s) (hp : H1 p = none) : H p = none := by
  cases e : H p with
  | none => rfl
  | some o =>
    have z := k.1 p o (k.2.ne_new hp) e
    rw [hp] at z
    cases z
theorem Kp.same {s : Addr} {H0 H H1 : Hp} (a : Same H0 H) (hs : H0 s = none) (k : Kp s H H1) : Same H0 H1 := fun b o e => k.1 b o (ne_of_none e hs) (a b o e)
theorem same_new {H0 H : Hp} {p : Addr} {o : HO} (a : Same H0 H) (hp : H p = none) : Same H0 (upd H p o) := fun b u e => by
  rw [upd_ne (ne_of_none (a b u e) hp)]
  exact a b u e
theorem m64 {i : Int} (a : -18446744073709551616 < i) (b : i < 18446744073709551616) : -(2 ^ 64) < i ∧ i < 2 ^ 64 := by
  have e : (2 : Int) ^ 64 = 18446744073709551616 := by decide
  rw [e]
  exact ⟨a, b⟩
theorem divW {i j : Int} (h : 0 < j) (hb : j < 2 ^ 2000) : CDivW i j := wide_div (b := 2000) h (by
  have e : (j.natAbs : Int) = j := by omega
  have q : (j.natAbs : Int) < ((2 ^ 2000 : Nat) : Int) := by rw [e]; exact hb
  exact Int.ofNat_lt.mp q) (by decide) (by decide)
theorem p2000 {j : Int} (h : j ≤ 1000000000000000000000000000000) : j < 2 ^ 2000 := Int.lt_of_le_of_lt h (by decide)
theorem cell_at (ns : List Int) (lo hi : Option Int) : ∃ c : Int, atI (cutV (ns.map V.int) lo hi ++ [V.int 0]) 0 = some (V.int c) := by
  unfold cutV
  rw [← List.map_drop, ← List.map_take]
  generalize ((List.drop _ ns).take _) = l
  cases l with
  | nil => exact ⟨0, rfl⟩
  | cons x xs => exact ⟨x, atI_nat (j := 0) rfl⟩
theorem cut_len (xs : List V) (lo hi : Option Int) : (cutV xs lo hi).length ≤ xs.length := by
  unfold cutV
  rw [List.length_take, List.length_drop]
  omega
theorem bl_of {Q : VK} {H : Hp} {c : Prop} [Decidable c] (h : c) (q : Q (.bl true) H) : Q (.bl (decide c)) H := by
  rw [decide_eq_true h]
  exact q
theorem iteDT {c A B : Prop} [Decidable c] (h : c) (a : A) : if decide c = true then A else B := by
  rw [if_pos (decide_eq_true h)]
  exact a
theorem iteDF {c A B : Prop} [Decidable c] (h : ¬ c) (b : B) : if decide c = true then A else B := by
  rw [decide_eq_false h]
  exact iteF b
theorem iteND {c A B : Prop} [Decidable c] (h : ¬ c) (a : A) : if (!decide c) = true then A else B := by
  rw [decide_eq_false h]
  exact iteT a
theorem len3 : 3 ≤ sizeLine := by decide
theorem len2 : 2 ≤ sizeLine := by decide
theorem len1 : 1 ≤ sizeLine := by decide
def spBegun (K : PySem.W.Frag) : Sp := fun vs H Q _ => ∃ (l : Addr) (ns : List Int) (k : Int), vs = [.ref l, .int k] ∧ SqL K H l (ns.map V.int) ∧ ns.length ≤ 63 ∧ 0 ≤ k ∧ k ≤ 100 ∧ ∀ (p : Addr) (H' : Hp), H p = none → Same H H' → StAt H' p → Q (.ref p) H'
def spTake : Sp := fun vs H Q _ => ∃ (s : Addr) (m : Int), vs = [.ref s, .int m] ∧ StAt H s ∧ 0 < m ∧ m ≤ 1000000000000000000000000000000 ∧ ∀ (r : Int) (H' : Hp), 0 ≤ r → r < m → Kp s H H' → Q (.int r) H'
section
def isStr : PyData → Bool
  | .str _ => true
  | _ => false
theorem An.isS {K : PySem.W.Frag} {H : Hp} {v : V} {d : PyData} (h : An K H v d) : ∃ (t : Value) (b : Bool), TyX K H v t ∧ PySem.W.kitOne K t (.type "str") = some b ∧ b = isStr d := by
  cases h with
  | dict e => exact ⟨_, false, .base (.dK e), kit_ty (by decide +kernel), rfl⟩
  | dp h =>
    cases h with
    | non => exact ⟨_, false, .base .non, kit_ty (by decide +kernel), rfl⟩
    | bl b => exact ⟨_, false, .base (.bl b), kit_ty (by decide +kernel), rfl⟩
    | int i => exact ⟨_, false, .base (.int i), kit_ty (by decide +kernel), rfl⟩
    | str x => exact ⟨_, true, .base (.str x), kit_ty (by decide +kernel), rfl⟩
    | lst h _ => exact ⟨_, false, sql_ty h, kit_ty (by decide +kernel), rfl⟩
    | tup h _ => exact ⟨_, false, sqt_tyA h, kit_ty (by decide +kernel), rfl⟩
theorem An.str {K : PySem.W.Frag} {H : Hp} {v : V} {z : Str} (h : An K H v (.str z)) : v = .str z := by
  cases h with
  | dp h =>
    cases h with
    | str x => rfl
theorem nostr {d : PyData} (h : isStr d = false) : ∀ z, d ≠ .str z := fun z e => by
  subst e
  cases h
theorem isstr {d : PyData} (h : isStr d = true) : ∃ z, d = .str z := by
  cases d <;> first | exact ⟨_, rfl⟩ | (exact absurd h (by simp [isStr]))
end
theorem bl_no {Q : VK} {H : Hp} {c : Prop} [Decidable c] (h : ¬ c) (q : Q (.bl false) H) : Q (.bl (decide c)) H := by
  rw [decide_eq_false h]
  exact q
theorem iteBT {c : Bool} {A B : Prop} (h : c = true) (a : A) : if c = true then A else B := by
  rw [if_pos h]
  exact a
theorem iteBF {c : Bool} {A B : Prop} (h : c = false) (b : B) : if c = true then A else B := by
  rw [h]
  exact iteF b
theorem bq {Q : VK} {H : Hp} {b c : Bool} (e : b = c) (q : Q (.bl b) H) : Q (.bl c) H := e ▸ q
def spLaw0 (K : PySem.W.Frag) : Sp := fun vs H Q _ => ∃ (a : Addr) (ns : List Int), vs = [.ref a] ∧ SqL K H a (ns.map V.int) ∧ ns.length ≤ 63 ∧ ∀ H', Q (.bl true) H'
theorem istup {d : PyData} (h : isTup d = true) : ∃ ds, d = .tuple ds := by
  cases d <;> first | exact ⟨_, rfl⟩ | (exact absurd h (by simp [isTup]))
/-! ### texts -/
/-- a short text of plain signs -/
structure Sh (n : Nat) (z : Str) : Prop where
  ln : z.cps.toList.length ≤ n
  as : ∀ c ∈ z.cps.toList, c < 128
def ltr (c : Nat) : Bool := decide (97 ≤ c) && decide (c ≤ 122)
theorem Sh.up {n m : Nat} {z : Str} (h : Sh n z) (e : n ≤ m) : Sh m z := ⟨Nat.le_trans h.ln e, h.as⟩
theorem Sh.len {n : Nat} {z : Str} (h : Sh n z) : z.length ≤ n := by
  have z := h.ln
  rw [Array.length_toList] at z
  exact z
theorem app_tl (x y : Str) : (x ++ y).cps.toList = x.cps.toList ++ y.cps.toList := TL.tl_append x y
theorem Sh.app {n m : Nat} {x y : Str} (a : Sh n x) (b : Sh m y) : Sh (n + m) (x ++ y) := by
  refine ⟨?_, ?_⟩
  · rw [app_tl, List.length_append]
    exact Nat.add_le_add a.ln b.ln
  · intro c hc
    rw [app_tl] at hc
    exact (List.mem_append.mp hc).elim (a.as c) (b.as c)
theorem Sh.cut {n : Nat} {z : Str} (a : Sh n z) (lo hi : Option Int) : Sh n (cutS z lo hi) := by
  refine ⟨?_, ?_⟩
  · have := a.ln
    show ((List.take _ (List.drop _ z.cps.toList)).toArray.toList).length ≤ n
    rw [List.length_take, List.length_drop]
    omega
  · intro c hc
    exact a.as c (List.mem_of_mem_drop (List.mem_of_mem_take hc))
/-- a text of small letters -/
def Lw (z : Str) : Prop := ∀ c ∈ z.cps.toList, ltr c = true
theorem Lw.sh {z : Str} {n : Nat} (h : Lw z) (l : z.cps.toList.length ≤ n) : Sh n z := ⟨l, fun c hc => by
  have z := h c hc
  simp only [ltr, Bool.and_eq_true, decide_eq_true_eq] at z
  omega⟩
theorem joined : ∀ (cs : List Nat), (Str.join "" (cs.map fun c => (⟨#[c]⟩ : Str))).cps.toList = cs
  | [] => rfl
  | [c] => rfl
  | c :: d :: r => by
    have ih := joined (d :: r)
    show ((⟨#[c]⟩ : Str) ++ ("" : Str) ++ Str.join "" ((d :: r).map fun c => (⟨#[c]⟩ : Str))).cps.toList = _
    rw [app_tl, app_tl, ih]
    rfl
theorem up_one : ∀ c : Fin 123, ltr c.val = true → (Unicode.upperOf c.val).length = 1 ∧ ∀ x ∈ Unicode.upperOf c.val, x < 128 := by decide +kernel
theorem up_ltr {c : Nat} (h : ltr c = true) : (Unicode.upperOf c).length = 1 ∧ ∀ x ∈ Unicode.upperOf c, x < 128 := by
  have z := h
  simp only [ltr, Bool.and_eq_true, decide_eq_true_eq] at z
  exact up_one ⟨c, by omega⟩ h
theorem placed_tl (x : Str) (f : Nat → List Nat) : (placed x fun _ c => f c).toList = (x.cps.toList.map f).flatten := by
  unfold placed
  rw [Array.toList_flatten, Array.toList_mapIdx]
  congr 1
  apply List.ext_getElem?
  intro i
  simp [List.getElem?_mapIdx, Function.comp_def]
theorem flat_len : ∀ (l : List Nat), (∀ c ∈ l, ltr c = true) → ((l.map Unicode.upperOf).flatten).length = l.length
  | [], _ => rfl
  | c :: r, h => by
    rw [List.map_cons, List.flatten_cons, List.length_append, flat_len r fun x hx => h x (List.mem_cons_of_mem _ hx), (up_ltr (h c (List.mem_cons_self ..))).1, List.length_cons]
    omega
theorem Lw.upper {z : Str} {n : Nat} (h : Lw z) (l : z.cps.toList.length ≤ n) : Sh n (Txt.upper z) := by
  have e : (Txt.upper z).cps.toList = (z.cps.toList.map Unicode.upperOf).flatten := placed_tl z Unicode.upperOf
  refine ⟨?_, ?_⟩
  · rw [e, flat_len _ h]
    exact l
  · intro c hc
    rw [e] at hc
    obtain ⟨l', hl, hc⟩ := List.mem_flatten.mp hc
    obtain ⟨x, hx, rfl⟩ := List.mem_map.mp hl
    exact (up_ltr (h x hx)).2 c hc
theorem letters_eq : (Str.ofString "abcdefghijklmnopqrstuvwxyz").cps.toList = List.range' 97 26 := by decide +kernel
theorem letters_in (c : Nat) : decide (c ∈ (Str.ofString "abcdefghijklmnopqrstuvwxyz").cps.toList) = ltr c := by
  rw [letters_eq]
  unfold ltr
  rw [← Bool.decide_and]
  exact decide_eq_decide.mpr ⟨fun h => by have := List.mem_range'_1.mp h; omega, fun h => List.mem_range'_1.mpr (by omega)⟩
theorem lt_one (a b : Nat) : ([a] < [b]) ↔ a < b := by
  rw [List.cons_lt_cons_iff]
  simp
theorem a_le (c : Nat) : (!decide ((⟨#[c]⟩ : Str).cps.toList < (Str.ofString "a").cps.toList)) = decide (97 ≤ c) := by
  have e : (Str.ofString "a").cps.toList = [97] := by decide +kernel
  rw [e]
  show (!decide ([c] < [97])) = _
  rw [← decide_not]
  exact decide_eq_decide.mpr (by rw [lt_one]; omega)
theorem le_z (c : Nat) : (!decide ((Str.ofString "z").cps.toList < (⟨#[c]⟩ : Str).cps.toList)) = decide (c ≤ 122) := by
  have e : (Str.ofString "z").cps.toList = [122] := by decide +kernel
  rw [e]
  show (!decide ([122] < [c])) = _
  rw [← decide_not]
  exact decide_eq_decide.mpr (by rw [lt_one]; omega)
/-! ### what the looks say of data -/
def keyD : PyData → Bool
  | .str z => decide (1 ≤ z.cps.toList.length) && decide (z.cps.toList.length ≤ 6) && z.cps.toList.all ltr
  | _ => false
def worthD : PyData → Bool
  | .tuple ds => decide (1 ≤ ds.length) && decide (ds.length ≤ 4) && ds.all wholeD
  | _ => false
theorem key_no {d : PyData} (h : isStr d = false) : keyD d = false := by
  cases d <;> first | rfl | (exact absurd h (by simp [isStr]))
theorem worth_no {d : PyData} (h : isTup d = false) : worthD d = false := by
  cases d <;> first | rfl | (exact absurd h (by simp [isTup]))
/-- what can be shown -/
structure Shw (d : PyData) : Prop where
  sh : d.showable = true
  dp : d.depth ≤ 64
  sz : d.shown.length ≤ sizeLine
/-- small leaves -/
def lf (d : PyData) : Bool := d.showable && decide (d.depth = 0) && d.leavesShort 200 && decide (d.weight ≤ 200) && d.canLay0
theorem int_len {i : Int} (h : i.natAbs < 2 ^ 110) : (Str.ofString (toString i)).length ≤ 200 := by
  have z := PySem.int_text_length_le (k := 110) (by decide) (PySem.Flt.log2_lt_of (by decide) h)
  rw [ofString_length]
  omega
theorem int_leaf {i : Int} (h : i.natAbs < 2 ^ 110) : lf (.int i) = true := by
  have hl : i.natAbs.log2 < 110 := PySem.Flt.log2_lt_of (by decide) h
  have e1 : (PyData.int i).showable = true := decide_eq_true (by omega)
  have e3 : (PyData.int i).weight ≤ 200 := by
    show Builtin.Int.intBits i ≤ 200
    unfold Builtin.Int.intBits
    split <;> omega
  have e4 : (PyData.int i).leavesShort 200 = true := by
    refine decide_eq_true ?_
    show (Str.ofString (toString i)).length ≤ 200
    exact int_len h
  unfold lf
  rw [e1, e4, decide_eq_true e3]
  rfl
theorem int_leaf2 {i : Int} (h : -1000000000000000000000000000000 ≤ i) (h2 : i ≤ 1000000000000000000000000000000) : lf (.int i) = true := by
  refine int_leaf ?_
  have e : (2 : Nat) ^ 110 = 1298074214633706907132624082305024 := by decide
  rw [e]
  omega
theorem str_leaf {z : Str} {n : Nat} (h : Sh n z) (hn : n ≤ 200) : lf (.str z) = true := by
  have e1 : (PyData.str z).showable = true := rfl
  have e2 : (PyData.str z).depth = 0 := rfl
  have e3 : (PyData.str z).leavesShort 200 = true := by
    show (z.cps.toList.all fun c => decide (c < 16 ^ 8)) = true
    refine List.all_eq_true.mpr fun c hc => decide_eq_true ?_
    have := h.as c hc
    omega
  have e4 : (PyData.str z).weight ≤ 200 := by
    show z.cps.size ≤ 200
    have := h.ln
    rw [Array.length_toList] at this
    omega
  have e5 : (PyData.str z).canLay0 = true := by
    show z.cps.all (· < 0x110000) = true
    rw [← Array.all_toList]
    refine List.all_eq_true.mpr fun c hc => decide_eq_true ?_
    have := h.as c hc
    omega
  unfold lf
  rw [e1, e2, e3, e5, decide_eq_true e4]
  rfl
theorem lf_all : ∀ {ds : List PyData}, ds.all lf = true → PyData.showableAll ds = true ∧ PyData.depthAll ds = 0 ∧ PyData.leavesShortAll 200 ds = true ∧ PyData.weightAll ds ≤ 201 * ds.length ∧ PyData.canLayAll0 ds = true
  | [], _ => ⟨rfl, rfl, rfl, by decide, rfl⟩
  | d :: ds, h => by
    simp only [List.all_cons, Bool.and_eq_true] at h
    obtain ⟨h1, h2, h3, h4, h5⟩ := lf_all h.2
    have h0 := h.1
    simp only [lf, Bool.and_eq_true, decide_eq_true_eq] at h0
    obtain ⟨⟨⟨⟨a1, a2⟩, a3⟩, a4⟩, a5⟩ := h0
    refine ⟨?_, ?_, ?_, ?_, ?_⟩
    · simp only [PyData.showableAll, a1, h1, Bool.and_self]
    · simp only [PyData.depthAll, a2, h2, Nat.max_self]
    · simp only [PyData.leavesShortAll, a3, h3, Bool.and_self]
    · simp only [PyData.weightAll, List.length_cons]
      omega
    · simp only [PyData.canLayAll0, a5, h5, Bool.and_self]
theorem shw_tup {ds : List PyData} (h : ds.all lf = true) (hl : ds.length ≤ 10) : Shw (.tuple ds) := by
  obtain ⟨h1, h2, h3, h4, _⟩ := lf_all h
  refine ⟨by simp only [PyData.showable]; exact h1, by simp only [PyData.depth, h2]; decide, ?_⟩
  have z := PyData.shown_le 200 (by decide) (.tuple ds) (by simp only [PyData.leavesShort]; exact h3)
  have w : (PyData.tuple ds).weight ≤ 2100 := by
    simp only [PyData.weight]
    omega
  rw [sizeLine_eq]
  omega
theorem shw_lst {ds : List PyData} (h : ds.all lf = true) (hl : ds.length ≤ 10) : Shw (.list ds) := by
  obtain ⟨h1, h2, h3, h4, _⟩ := lf_all h
  refine ⟨by simp only [PyData.showable]; exact h1, by simp only [PyData.depth, h2]; decide, ?_⟩
  have z := PyData.shown_le 200 (by decide) (.list ds) (by simp only [PyData.leavesShort]; exact h3)
  have w : (PyData.list ds).weight ≤ 2100 := by
    simp only [PyData.weight]
    omega
  rw [sizeLine_eq]
  omega
theorem shw_lf {d : PyData} (h : lf d = true) : Shw d := by
  simp only [lf, Bool.and_eq_true, decide_eq_true_eq] at h
  obtain ⟨⟨⟨⟨a1, a2⟩, a3⟩, a4⟩, _⟩ := h
  have z := PyData.shown_le 200 (by decide) d a3
  refine ⟨a1, by omega, ?_⟩
  rw [sizeLine_eq]
  omega
theorem shw_one {ds : List PyData} (h : ds.all lf = true) (hl : ds.length ≤ 10) : Shw (.tuple [.tuple ds]) := by
  obtain ⟨h1, h2, h3, h4, _⟩ := lf_all h
  refine ⟨by simp only [PyData.showable, PyData.showableAll, h1, Bool.and_self], by simp only [PyData.depth, PyData.depthAll, h2]; decide, ?_⟩
  have z := PyData.shown_le 200 (by decide) (.tuple [.tuple ds]) (by simp only [PyData.leavesShort, PyData.leavesShortAll, h3, Bool.and_self])
  have w : (PyData.tuple [.tuple ds]).weight ≤ 2200 := by
    simp only [PyData.weight, PyData.weightAll]
    omega
  rw [sizeLine_eq]
  omega
theorem dpall_app {K : PySem.W.Frag} {H : Hp} : ∀ {xs ys : List V} {ds es : List PyData}, DpAll K H xs ds → DpAll K H ys es → DpAll K H (xs ++ ys) (ds ++ es)
  | _, _, _, _, .nil, h => h
  | _, _, _, _, .cons a r, h => .cons a (dpall_app r h)
theorem dpall_ints {K : PySem.W.Frag} {H : Hp} : ∀ (ns : List Int), DpAll K H (ns.map V.int) (ns.map PyData.int)
  | [] => .nil
  | n :: r => .cons (.int n) (dpall_ints r)
theorem dpall_signs {K : PySem.W.Frag} {H : Hp} : ∀ (cs : List Nat), DpAll K H (cs.map fun c => V.str ⟨#[c]⟩) (cs.map fun c => PyData.str ⟨#[c]⟩)
  | [] => .nil
  | n :: r => .cons (.str _) (dpall_signs r)
theorem lf_app {a b : List PyData} (h : a.all lf = true) (h2 : b.all lf = true) : (a ++ b).all lf = true := by
  rw [List.all_append, h, h2]
  rfl
theorem lay_filter (p : PyData → Bool) : ∀ (ds : List PyData), PyData.canLayAll0 ds = true → PyData.canLayAll0 (ds.filter p) = true ∧ PyData.depthAll (ds.filter p) ≤ PyData.depthAll ds
  | [], _ => ⟨rfl, Nat.le_refl _⟩
  | d :: ds, h => by
    simp only [PyData.canLayAll0, Bool.and_eq_true] at h
    obtain ⟨h1, h2⟩ := lay_filter p ds h.2
    rw [List.filter_cons]
    split
    · refine ⟨by simp only [PyData.canLayAll0, h.1, h1, Bool.and_self], ?_⟩
      simp only [PyData.depthAll]
      omega
    · refine ⟨h1, ?_⟩
      simp only [PyData.depthAll]
      omega
theorem signs_lay {n : Nat} {z : Str} (h : Sh n z) (p : Nat → Bool) : PyData.canLayAll0 ((z.cps.toList.filter p).map fun c => PyData.str ⟨#[c]⟩) = true ∧ PyData.depthAll ((z.cps.toList.filter p).map fun c => PyData.str ⟨#[c]⟩) = 0 := by
  have : ∀ cs : List Nat, (∀ c ∈ cs, c < 128) → PyData.canLayAll0 (cs.map fun c => PyData.str ⟨#[c]⟩) = true ∧ PyData.depthAll (cs.map fun c => PyData.str ⟨#[c]⟩) = 0 := by
    intro cs
    induction cs with
    | nil => exact fun _ => ⟨rfl, rfl⟩
    | cons c r ih =>
      intro hc
      obtain ⟨i1, i2⟩ := ih fun x hx => hc x (List.mem_cons_of_mem _ hx)
      have c1 := hc c (List.mem_cons_self ..)
      have e : (PyData.str ⟨#[c]⟩).canLay0 = true := by
        show (#[c] : Array Nat).all (· < 0x110000) = true
        rw [← Array.all_toList]
        simp
        omega
      refine ⟨?_, ?_⟩
      · simp only [List.map_cons, PyData.canLayAll0, e, i1, Bool.and_self]
      · simp only [List.map_cons, PyData.depthAll, i2]
        rfl
  exact this _ fun c hc => h.as c (List.mem_filter.mp hc).1
theorem eqv_nil (ds : List PyData) : PyData.eqv (.list ds) (.list []) = ds.isEmpty := by
  cases ds <;> simp [PyData.eqv, PyData.eqvAll]
theorem two_bools (a b : Bool) : Shw (.list [.bool a, .bool b]) := by
  refine shw_lst ?_ (by show 2 ≤ 10; decide)
  cases a <;> cases b <;> decide +kernel
theorem all_filter {α : Type} (p : α → Bool) (l : List α) : (l.filter fun e => !p e).isEmpty = l.all p := by
  induction l with
  | nil => rfl
  | cons x r ih =>
    rw [List.filter_cons, List.all_cons]
    cases p x with
    | true => simpa using ih
    | false => simp

theorem take_all {ds : List PyData} {i : Nat} {e : PyData} {f : PyData → Bool} (h : (ds.take i).all f = true) (he : ds[i]? = some e) (hf : f e = true) : (ds.take (i + 1)).all f = true := by
  rw [List.take_add_one, he, List.all_append, h]
  simp [hf]
theorem mem_notall {ds : List PyData} {i : Nat} {e : PyData} {f : PyData → Bool} (he : ds[i]? = some e) (hf : f e = false) : ds.all f = false := by
  rw [← Bool.not_eq_true, List.all_eq_true]
  intro h
  have z := h e (List.mem_of_getElem? he)
  rw [hf] at z
  cases z
section
open PySem PySem.Builtin.Str
theorem take_lt {f : Nat → Bool} : ∀ {l : List Nat}, (∃ c ∈ l, f c = false) → (l.takeWhile f).length < l.length
  | [], h => by
    obtain ⟨c, hc, _⟩ := h
    cases hc
  | x :: r, h => by
    rw [List.takeWhile_cons]
    cases hx : f x with
    | false => simp
    | true =>
      obtain ⟨c, hc, e⟩ := h
      have hr : c ∈ r := by
        rcases List.mem_cons.mp hc with rfl | hc
        · rw [hx] at e
          cases e
        · exact hc
      have := take_lt (f := f) (l := r) ⟨c, hr, e⟩
      simp only [if_true, List.length_cons]
      omega
theorem take_whole {f : Nat → Bool} : ∀ {l : List Nat}, (∀ c ∈ l, f c = true) → l.takeWhile f = l
  | [], _ => rfl
  | x :: r, h => by
    rw [List.takeWhile_cons, h x (List.mem_cons_self ..), if_pos rfl, take_whole fun c hc => h c (List.mem_cons_of_mem _ hc)]
theorem take_drop_no {f : Nat → Bool} : ∀ {l : List Nat}, (∃ c ∈ l, f c = false) → ∃ c ∈ l.drop (l.takeWhile f).length, f c = false
  | [], h => by
    obtain ⟨c, hc, _⟩ := h
    cases hc
  | x :: r, h => by
    rw [List.takeWhile_cons]
    cases hx : f x with
    | false => exact ⟨x, List.mem_cons_self .., hx⟩
    | true =>
      obtain ⟨c, hc, e⟩ := h
      have hr : c ∈ r := by
        rcases List.mem_cons.mp hc with rfl | hc
        · rw [hx] at e
          cases e
        · exact hc
      obtain ⟨c2, h2, e2⟩ := take_drop_no (f := f) (l := r) ⟨c, hr, e⟩
      exact ⟨c2, by simpa using h2, e2⟩
/-- a text whose signs are all struck off at the ends -/
theorem strip_empty (z b : Str) : (Txt.stripChars z b = (⟨#[]⟩ : Str)) ↔ ∀ c ∈ z.cps.toList, b.cps.contains c = true := by
  have hz : z.length = z.cps.toList.length := (Array.length_toList (xs := z.cps)).symm
  constructor
  · intro h
    by_cases ha : ∀ c ∈ z.cps.toList, b.cps.contains c = true
    · exact ha
    · exfalso
      have hn : ∃ c ∈ z.cps.toList, b.cps.contains c = false := by
        apply Classical.byContradiction
        intro hno
        apply ha
        intro c hc
        cases e : b.cps.contains c with
        | true => rfl
        | false => exact absurd ⟨c, hc, e⟩ hno
      have l1 := take_lt hn
      have l2 := take_lt (f := b.cps.contains) (l := (z.cps.toList.drop (z.cps.toList.takeWhile b.cps.contains).length).reverse) (by
        obtain ⟨c, hc, e⟩ := take_drop_no hn
        exact ⟨c, List.mem_reverse.mpr hc, e⟩)
      rw [List.length_reverse, List.length_drop] at l2
      unfold Txt.stripChars Txt.stripBy at h
      split at h
      · have : z.cps.toList.length = 0 := by rw [h]; rfl
        omega
      · have h3 := congrArg (fun s : Str => s.cps.size) h
        simp only [stripped, strSub, Array.size_extract, stripLo, stripHi, if_true] at h3
        have hs : z.cps.size = z.cps.toList.length := (Array.length_toList (xs := z.cps)).symm
        have he : (#[] : Array Nat).size = 0 := rfl
        rw [he] at h3
        omega
  · intro ha
    have e1 := take_whole ha
    have lo : stripLo b.cps.contains true z = z.cps.toList.length := by
      unfold stripLo
      rw [if_pos rfl, e1]
    have hi : stripHi b.cps.contains true z (z.cps.toList.length) = z.cps.toList.length := by
      unfold stripHi
      rw [if_pos rfl, List.drop_length]
      exact hz
    unfold Txt.stripChars Txt.stripBy
    split
    next h =>
      unfold stripSame at h
      rw [lo, hi] at h
      simp only [Bool.and_eq_true, beq_iff_eq] at h
      have hl : z.cps.toList = [] := List.length_eq_zero_iff.mp h.1
      cases z with
      | mk cps =>
        have : cps = #[] := Array.toList_inj.mp hl
        rw [this]
    next h =>
      unfold stripped
      rw [lo, hi]
      unfold strSub
      have : z.cps.extract z.cps.toList.length z.cps.toList.length = #[] := by
        apply Array.toList_inj.mp
        simp
      rw [this]
end
theorem strip_key (z : Str) : decide (V.str (Txt.stripChars z (Str.ofString "abcdefghijklmnopqrstuvwxyz")) = V.str (Str.ofString "")) = z.cps.toList.all ltr := by
  have e0 : Str.ofString "" = (⟨#[]⟩ : Str) := by decide +kernel
  have hc : ∀ c, (Str.ofString "abcdefghijklmnopqrstuvwxyz").cps.contains c = ltr c := fun c => by
    rw [← letters_in c, Bool.eq_iff_iff]
    simp
  rw [e0, Bool.eq_iff_iff, decide_eq_true_eq, V.str.injEq, strip_empty, List.all_eq_true]
  constructor
  · intro h c m
    rw [← hc c]
    exact h c m
  · intro h c m
    rw [hc c]
    exact h c m

theorem iteNSD {c A B : Prop} [Decidable c] (h : c) (b : B) : if (!decide c) = true then A else B := by
  rw [decide_eq_true h]
  exact iteF b
theorem iteNSB {b : Bool} {A B : Prop} (h : b = true) (y : B) : if (!b) = true then A else B := by
  rw [h]
  exact iteF y
theorem call_or {X : Cx} {f : Value} {r1 r2 : List V → Hp → VK → Prop} (h1 : CallR X f r1) (h2 : CallR X f r2) : CallR X f (fun xs H Q => r1 xs H Q ∨ r2 xs H Q) := by
  intro pins s σ H xs us Q I r h
  rcases h with h | h
  · exact h1 pins s σ H xs us Q I r h
  · exact h2 pins s σ H xs us Q I r h
theorem iteNB {b : Bool} {A B : Prop} (h : b = false) (x : A) : if (!b) = true then A else B := by
  rw [h]
  exact iteT x

/-! ### data of any kind, an empty dict among them -/
mutual
inductive Gd (K : PySem.W.Frag) (H : Hp) : V → PyData → Prop
  | non : Gd K H .non .none
  | bl (b : Bool) : Gd K H (.bl b) (.bool b)
  | int (i : Int) : Gd K H (.int i) (.int i)
  | str (x : Str) (h : x.length ≤ 1000) : Gd K H (.str x) (.str x)
  | dict {p : Addr} (e : H p = some (.dK [])) : Gd K H (.ref p) (.dict [])
  | lst {p : Addr} {xs : List V} {ds : List PyData} (h : SqL K H p xs) (hl : xs.length ≤ 1000) (hs : GdAll K H xs ds) : Gd K H (.ref p) (.list ds)
  | tup {p : Addr} {xs : List V} {ds : List PyData} (h : SqT K H p xs) (hs : GdAll K H xs ds) : Gd K H (.ref p) (.tuple ds)
inductive GdAll (K : PySem.W.Frag) (H : Hp) : List V → List PyData → Prop
  | nil : GdAll K H [] []
  | cons {v : V} {d : PyData} {vs : List V} {ds : List PyData} (h : Gd K H v d) (hs : GdAll K H vs ds) : GdAll K H (v :: vs) (d :: ds)
end
mutual
theorem Gd.up {K : PySem.W.Frag} {H H' : Hp} (k : LamX.ExtN H H') : ∀ {v : V} {d : PyData}, Gd K H v d → Gd K H' v d
  | _, _, .non => .non
  | _, _, .bl b => .bl b
  | _, _, .int i => .int i
  | _, _, .str x h => .str x h
  | _, _, .dict e => .dict (k _ _ e fun _ z => by cases z)
  | _, _, .lst h hl hs => .lst (SL.SqL.extN h k) hl (GdAll.up k hs)
  | _, _, .tup h hs => .tup (SL.SqT.extN h k) (GdAll.up k hs)
theorem GdAll.up {K : PySem.W.Frag} {H H' : Hp} (k : LamX.ExtN H H') : ∀ {vs : List V} {ds : List PyData}, GdAll K H vs ds → GdAll K H' vs ds
  | _, _, .nil => .nil
  | _, _, .cons h hs => .cons (Gd.up k h) (GdAll.up k hs)
end
theorem Gd.same {K : PySem.W.Frag} {H H' : Hp} (k : Same H H') {v : V} {d : PyData} (h : Gd K H v d) : Gd K H' v d := h.up (LamX.ExtN.of k)
theorem GdAll.same {K : PySem.W.Frag} {H H' : Hp} (k : Same H H') {vs : List V} {ds : List PyData} (h : GdAll K H vs ds) : GdAll K H' vs ds := h.up (LamX.ExtN.of k)
theorem GdAll.len {K : PySem.W.Frag} {H : Hp} : ∀ {vs : List V} {ds : List PyData}, GdAll K H vs ds → vs.length = ds.length
  | _, _, .nil => rfl
  | _, _, .cons _ hs => congrArg Nat.succ hs.len
theorem GdAll.get {K : PySem.W.Frag} {H : Hp} : ∀ {vs : List V} {ds : List PyData}, GdAll K H vs ds → ∀ {i : Nat} {v : V}, vs[i]? = some v → ∃ d, ds[i]? = some d ∧ Gd K H v d
  | _, _, .nil, i, v, e => by simp at e
  | _, _, .cons h hs, 0, v, e => by
    simp at e
    subst e
    exact ⟨_, rfl, h⟩
  | _, _, .cons h hs, i + 1, v, e => hs.get (i := i) (by simpa using e)
mutual
theorem dp_ext {K : PySem.W.Frag} {H H' : Hp} (k : LamX.ExtN H H') : ∀ {v : V} {d : PyData}, Dp K H v d → Dp K H' v d
  | _, _, .non => .non
  | _, _, .bl b => .bl b
  | _, _, .int i => .int i
  | _, _, .str x => .str x
  | _, _, .lst h hs => .lst (SL.SqL.extN h k) (dpall_ext k hs)
  | _, _, .tup h hs => .tup (SL.SqT.extN h k) (dpall_ext k hs)
theorem dpall_ext {K : PySem.W.Frag} {H H' : Hp} (k : LamX.ExtN H H') : ∀ {vs : List V} {ds : List PyData}, DpAll K H vs ds → DpAll K H' vs ds
  | _, _, .nil => .nil
  | _, _, .cons h hs => .cons (dp_ext k h) (dpall_ext k hs)
end
def isI : PyData → Bool
  | .int _ => true
  | .bool _ => true
  | _ => false
def isB : PyData → Bool
  | .bool _ => true
  | _ => false
def isL : PyData → Bool
  | .list _ => true
  | _ => false
/-- what isinstance says of it -/
structure TyG (K : PySem.W.Frag) (u : Value) (d : PyData) : Prop where
  i : PySem.W.kitOne K u (.type "int") = some (isI d)
  b : PySem.W.kitOne K u (.type "bool") = some (isB d)
  t : PySem.W.kitOne K u (.type "tuple") = some (isTup d)
  s : PySem.W.kitOne K u (.type "str") = some (isStr d)
  l : PySem.W.kitOne K u (.type "list") = some (isL d)
theorem Gd.ty {K : PySem.W.Frag} {H : Hp} {v : V} {d : PyData} (h : Gd K H v d) : ∃ t, TyX K H v t ∧ TyG K t d := by
  cases h with
  | non => exact ⟨_, .base .non, ⟨kit_ty (by decide +kernel : L2.kitB "NoneType" "int" = some false), kit_ty (by decide +kernel : L2.kitB "NoneType" "bool" = some false), kit_ty (by decide +kernel : L2.kitB "NoneType" "tuple" = some false), kit_ty (by decide +kernel : L2.kitB "NoneType" "str" = some false), kit_ty (by decide +kernel : L2.kitB "NoneType" "list" = some false)⟩⟩
  | bl b => exact ⟨_, .base (.bl b), ⟨kit_ty (by decide +kernel : L2.kitB "bool" "int" = some true), kit_ty (by decide +kernel : L2.kitB "bool" "bool" = some true), kit_ty (by decide +kernel : L2.kitB "bool" "tuple" = some false), kit_ty (by decide +kernel : L2.kitB "bool" "str" = some false), kit_ty (by decide +kernel : L2.kitB "bool" "list" = some false)⟩⟩
  | int i => exact ⟨_, .base (.int i), ⟨kit_ty (by decide +kernel : L2.kitB "int" "int" = some true), kit_ty (by decide +kernel : L2.kitB "int" "bool" = some false), kit_ty (by decide +kernel : L2.kitB "int" "tuple" = some false), kit_ty (by decide +kernel : L2.kitB "int" "str" = some false), kit_ty (by decide +kernel : L2.kitB "int" "list" = some false)⟩⟩
  | str x => exact ⟨_, .base (.str x), ⟨kit_ty (by decide +kernel : L2.kitB "str" "int" = some false), kit_ty (by decide +kernel : L2.kitB "str" "bool" = some false), kit_ty (by decide +kernel : L2.kitB "str" "tuple" = some false), kit_ty (by decide +kernel : L2.kitB "str" "str" = some true), kit_ty (by decide +kernel : L2.kitB "str" "list" = some false)⟩⟩
  | dict e => exact ⟨_, .base (.dK e), ⟨kit_ty (by decide +kernel : L2.kitB "dict" "int" = some false), kit_ty (by decide +kernel : L2.kitB "dict" "bool" = some false), kit_ty (by decide +kernel : L2.kitB "dict" "tuple" = some false), kit_ty (by decide +kernel : L2.kitB "dict" "str" = some false), kit_ty (by decide +kernel : L2.kitB "dict" "list" = some false)⟩⟩
  | lst h _ _ => exact ⟨_, sql_ty h, ⟨kit_ty (by decide +kernel : L2.kitB "list" "int" = some false), kit_ty (by decide +kernel : L2.kitB "list" "bool" = some false), kit_ty (by decide +kernel : L2.kitB "list" "tuple" = some false), kit_ty (by decide +kernel : L2.kitB "list" "str" = some false), kit_ty (by decide +kernel : L2.kitB "list" "list" = some true)⟩⟩
  | tup h _ => exact ⟨_, sqt_tyA h, ⟨kit_ty (by decide +kernel : L2.kitB "tuple" "int" = some false), kit_ty (by decide +kernel : L2.kitB "tuple" "bool" = some false), kit_ty (by decide +kernel : L2.kitB "tuple" "tuple" = some true), kit_ty (by decide +kernel : L2.kitB "tuple" "str" = some false), kit_ty (by decide +kernel : L2.kitB "tuple" "list" = some false)⟩⟩
theorem Gd.tupI {K : PySem.W.Frag} {H : Hp} {v : V} {ds : List PyData} (h : Gd K H v (.tuple ds)) : ∃ p xs, v = .ref p ∧ SqT K H p xs ∧ GdAll K H xs ds := by
  cases h with
  | tup h hs => exact ⟨_, _, rfl, h, hs⟩
theorem Gd.lstI {K : PySem.W.Frag} {H : Hp} {v : V} {ds : List PyData} (h : Gd K H v (.list ds)) : ∃ p xs, v = .ref p ∧ SqL K H p xs ∧ xs.length ≤ 1000 ∧ GdAll K H xs ds := by
  cases h with
  | lst h hl hs => exact ⟨_, _, rfl, h, hl, hs⟩
theorem Gd.intI {K : PySem.W.Frag} {H : Hp} {v : V} {i : Int} (h : Gd K H v (.int i)) : v = .int i := by
  cases h
  rfl
theorem Gd.strI {K : PySem.W.Frag} {H : Hp} {v : V} {z : Str} (h : Gd K H v (.str z)) : v = .str z ∧ z.length ≤ 1000 := by
  cases h with
  | str x h => exact ⟨rfl, h⟩
theorem islst {d : PyData} (h : isL d = true) : ∃ ds, d = .list ds := by
  cases d <;> first | exact ⟨_, rfl⟩ | (exact absurd h (by simp [isL]))
/-! ### looks -/
def fromToD (lo hi : Int) : PyData → Bool
  | .int n => decide (lo ≤ n) && decide (n ≤ hi)
  | _ => false
def rowD (lo hi : Int) : PyData → Bool
  | .tuple ds => decide (lo ≤ ds.length) && decide ((ds.length : Int) ≤ hi) && ds.all wholeD
  | _ => false
def natD : PyData → Bool
  | .int n => decide (0 ≤ n)
  | _ => false
def stampD (d : PyData) : Bool := rowD 3 3 d && match d with
  | .tuple [_, b, c] => natD b && natD c
  | _ => false
def noneD : PyData → Bool
  | .none => true
  | _ => false
def wthD (d : PyData) : Bool := rowD 1 4 d
def toldD (o : Bool) (d : PyData) : Bool := wthD d || (o && noneD d)
def pairD (o : Bool) : PyData → Bool
  | .tuple [k, w] => keyD k && toldD o w
  | _ => false
def pairsD (o : Bool) : PyData → Bool
  | .list ds => ds.all (pairD o)
  | _ => false
def dealD : List PyData → Bool
  | [_, a, b, c, s, rs, ws] => wholeD a && wholeD b && wholeD c && stampD s && pairsD true rs && pairsD false ws
  | _ => false
def readD : List PyData → Bool
  | [_, a, t, k, w] => wholeD a && wholeD t && keyD k && toldD true w
  | _ => false
def formD : List PyData → Bool
  | [_, t, f] => wholeD t && fromToD 1 4 f
  | _ => false
def rowLook : PyData → Bool
  | .tuple (.str z :: r) => if z = "dealing" then dealD (.str z :: r) else if z = "form" then formD (.str z :: r) else if z = "read" ∨ z = "now" then readD (.str z :: r) else false
  | _ => false
theorem rowD_no {lo hi : Int} {d : PyData} (h : isTup d = false) : rowD lo hi d = false := by
  cases d <;> first | rfl | (exact absurd h (by simp [isTup]))
/-! ### histories -/
structure Deal where
  num : Int
  beg : Int
  told : Int
  s1 : Int
  s2 : Int
  s3 : Int
  rs : List (Str × Option (List Int))
  ws : List (Str × List Int)
def Deal.st (d : Deal) : List Int := [d.s1, d.s2, d.s3]
inductive Row
  | deal (d : Deal)
  | form (t f : Int)
  | read (n : Bool) (a t : Int) (k : Str) (w : Option (List Int))
def woD (w : List Int) : PyData := .tuple (w.map .int)
def owD : Option (List Int) → PyData
  | none => .none
  | some w => woD w
def rpD (p : Str × Option (List Int)) : PyData := .tuple [.str p.1, owD p.2]
def wpD (p : Str × List Int) : PyData := .tuple [.str p.1, woD p.2]
def rwName (n : Bool) : Str := if n then "now" else "read"
def Deal.d (d : Deal) : PyData := .tuple [.str "dealing", .int d.num, .int d.beg, .int d.told, .tuple (d.st.map .int), .list (d.rs.map rpD), .list (d.ws.map wpD)]
def Row.word : Row → Str
  | .deal _ => "dealing"
  | .form _ _ => "form"
  | .read n _ _ _ _ => rwName n
def Row.d : Row → PyData
  | .deal d => d.d
  | .form t f => .tuple [.str "form", .int t, .int f]
  | .read n a t k w => .tuple [.str (rwName n), .int a, .int t, .str k, owD w]
def wgood (w : List Int) : Prop := 1 ≤ w.length ∧ w.length ≤ 4
def owgood : Option (List Int) → Prop
  | none => True
  | some w => wgood w
def kgood (k : Str) : Prop := keyD (.str k) = true
/-- what the look lets by -/
def Row.good : Row → Prop
  | .deal d => 0 ≤ d.s2 ∧ 0 ≤ d.s3 ∧ (∀ p ∈ d.rs, kgood p.1 ∧ owgood p.2) ∧ ∀ p ∈ d.ws, kgood p.1 ∧ wgood p.2
  | .form _ f => 1 ≤ f ∧ f ≤ 4
  | .read _ _ _ k w => kgood k ∧ owgood w
theorem rw_ne : rwName true ≠ rwName false := by decide +kernel
theorem w_deal_form : ("dealing" : Str) ≠ "form" := by decide +kernel
theorem w_deal_rw (n : Bool) : ("dealing" : Str) ≠ rwName n := by cases n <;> decide +kernel
theorem w_form_rw (n : Bool) : ("form" : Str) ≠ rwName n := by cases n <;> decide +kernel
theorem whole_int {d : PyData} (h : wholeD d = true) : ∃ i, d = .int i := by
  cases d <;> first | exact ⟨_, rfl⟩ | (exact absurd h (by simp [wholeD]))
theorem wholes {ds : List PyData} (h : ds.all wholeD = true) : ∃ ns : List Int, ds = ns.map .int := by
  induction ds with
  | nil => exact ⟨[], rfl⟩
  | cons d r ih =>
    rw [List.all_cons, Bool.and_eq_true] at h
    obtain ⟨i, rfl⟩ := whole_int h.1
    obtain ⟨ns, rfl⟩ := ih h.2
    exact ⟨i :: ns, rfl⟩
theorem row_ints {lo hi : Int} {d : PyData} (h : rowD lo hi d = true) : ∃ ns : List Int, d = woD ns ∧ lo ≤ ns.length ∧ (ns.length : Int) ≤ hi := by
  cases d with
  | tuple ds =>
    simp only [rowD, Bool.and_eq_true, decide_eq_true_eq] at h
    obtain ⟨ns, rfl⟩ := wholes h.2
    rw [List.length_map] at h
    exact ⟨ns, rfl, h.1.1, h.1.2⟩
  | _ => cases h
theorem stamp_of {d : PyData} (h : stampD d = true) : ∃ a b c : Int, d = .tuple ([a, b, c].map .int) ∧ 0 ≤ b ∧ 0 ≤ c := by
  unfold stampD at h
  rw [Bool.and_eq_true] at h
  obtain ⟨ns, rfl, h1, h2⟩ := row_ints h.1
  obtain ⟨a, b, c, rfl⟩ : ∃ a b c, ns = [a, b, c] := by
    match ns, h1, h2 with
    | [a, b, c], _, _ => exact ⟨a, b, c, rfl⟩
    | [], h, _ => simp at h
    | [_], h, _ => simp at h
    | [_, _], h, _ => simp at h
    | _ :: _ :: _ :: _ :: _, _, h => simp at h; omega
  have h3 := h.2
  simp only [woD, List.map_cons, List.map_nil, natD, Bool.and_eq_true, decide_eq_true_eq] at h3
  exact ⟨a, b, c, rfl, h3.1, h3.2⟩
theorem wth_of {d : PyData} (h : wthD d = true) : ∃ w, d = woD w ∧ wgood w := by
  obtain ⟨ns, e, h1, h2⟩ := row_ints h
  exact ⟨ns, e, by omega, by omega⟩
theorem told_of {o : Bool} {d : PyData} (h : toldD o d = true) : (∃ w, d = woD w ∧ wgood w) ∨ (o = true ∧ d = .none) := by
  unfold toldD at h
  rw [Bool.or_eq_true, Bool.and_eq_true] at h
  rcases h with h | ⟨h1, h2⟩
  · exact .inl (wth_of h)
  · refine .inr ⟨h1, ?_⟩
    cases d <;> first | rfl | cases h2
theorem key_str {d : PyData} (h : keyD d = true) : ∃ k, d = .str k ∧ kgood k := by
  cases d with
  | str k => exact ⟨k, rfl, h⟩
  | _ => cases h
theorem pair_inv {o : Bool} {d : PyData} (h : pairD o d = true) : ∃ k v, d = .tuple [k, v] ∧ keyD k = true ∧ toldD o v = true :=
  match d, h with
  | .tuple [k, v], h => ⟨k, v, rfl, (Bool.and_eq_true _ _ ▸ h).1, (Bool.and_eq_true _ _ ▸ h).2⟩
theorem rpairs_of {d : PyData} (h : pairsD true d = true) : ∃ ps : List (Str × Option (List Int)), d = .list (ps.map rpD) ∧ ∀ p ∈ ps, kgood p.1 ∧ owgood p.2 := by
  cases d with
  | list ds =>
    have h : ds.all (pairD true) = true := h
    induction ds with
    | nil => exact ⟨[], rfl, fun p hp => by cases hp⟩
    | cons d r ih =>
      rw [List.all_cons, Bool.and_eq_true] at h
      obtain ⟨ps, e, g⟩ := ih h.2 h.2
      have e : r = ps.map rpD := PyData.list.inj e
      have h1 := h.1
      obtain ⟨p, rfl, gp⟩ : ∃ p : Str × Option (List Int), d = rpD p ∧ kgood p.1 ∧ owgood p.2 := by
        obtain ⟨k, v, rfl, hk, hv⟩ := pair_inv h1
        obtain ⟨k, rfl, hk⟩ := key_str hk
        rcases told_of hv with ⟨y, rfl, hw⟩ | ⟨_, rfl⟩
        · exact ⟨(k, some y), rfl, hk, hw⟩
        · exact ⟨(k, none), rfl, hk, trivial⟩
      refine ⟨p :: ps, by rw [e]; rfl, fun q hq => ?_⟩
      rcases List.mem_cons.mp hq with rfl | hq
      · exact gp
      · exact g q hq
  | _ => cases h
theorem wpairs_of {d : PyData} (h : pairsD false d = true) : ∃ ps : List (Str × List Int), d = .list (ps.map wpD) ∧ ∀ p ∈ ps, kgood p.1 ∧ wgood p.2 := by
  cases d with
  | list ds =>
    have h : ds.all (pairD false) = true := h
    induction ds with
    | nil => exact ⟨[], rfl, fun p hp => by cases hp⟩
    | cons d r ih =>
      rw [List.all_cons, Bool.and_eq_true] at h
      obtain ⟨ps, e, g⟩ := ih h.2 h.2
      have e : r = ps.map wpD := PyData.list.inj e
      have h1 := h.1
      obtain ⟨p, rfl, gp⟩ : ∃ p : Str × List Int, d = wpD p ∧ kgood p.1 ∧ wgood p.2 := by
        obtain ⟨k, v, rfl, hk, hv⟩ := pair_inv h1
        obtain ⟨k, rfl, hk⟩ := key_str hk
        rcases told_of hv with ⟨y, rfl, hw⟩ | ⟨z, _⟩
        · exact ⟨(k, y), rfl, hk, hw⟩
        · cases z
      refine ⟨p :: ps, by rw [e]; rfl, fun q hq => ?_⟩
      rcases List.mem_cons.mp hq with rfl | hq
      · exact gp
      · exact g q hq
  | _ => cases h
theorem row_of {d : PyData} (h : rowLook d = true) : ∃ r : Row, d = r.d ∧ r.good := by
  unfold rowLook at h
  split at h
  · rename_i z r
    split at h
    · rename_i hz
      subst hz
      unfold dealD at h
      split at h
      · rename_i w a b c s rs ws e
        cases e
        simp only [Bool.and_eq_true] at h
        obtain ⟨⟨⟨⟨⟨h1, h2⟩, h3⟩, h4⟩, h5⟩, h6⟩ := h
        obtain ⟨i, rfl⟩ := whole_int h1
        obtain ⟨j, rfl⟩ := whole_int h2
        obtain ⟨k, rfl⟩ := whole_int h3
        obtain ⟨x, y, z, rfl, y0, z0⟩ := stamp_of h4
        obtain ⟨ps, rfl, g1⟩ := rpairs_of h5
        obtain ⟨qs, rfl, g2⟩ := wpairs_of h6
        exact ⟨.deal ⟨i, j, k, x, y, z, ps, qs⟩, rfl, y0, z0, g1, g2⟩
      · cases h
    · split at h
      · rename_i _ hz
        subst hz
        unfold formD at h
        split at h
        · rename_i w t f e
          cases e
          rw [Bool.and_eq_true] at h
          obtain ⟨i, rfl⟩ := whole_int h.1
          have h2 := h.2
          obtain ⟨j, rfl, j1, j2⟩ : ∃ j, f = .int j ∧ 1 ≤ j ∧ j ≤ 4 := by
            cases f with
            | int j =>
              simp only [fromToD, Bool.and_eq_true, decide_eq_true_eq] at h2
              exact ⟨j, rfl, h2.1, h2.2⟩
            | _ => cases h2
          exact ⟨.form i j, rfl, j1, j2⟩
        · cases h
      · split at h
        · rename_i hz
          obtain ⟨n, rfl⟩ : ∃ n, z = rwName n := by
            rcases hz with rfl | rfl
            · exact ⟨false, rfl⟩
            · exact ⟨true, rfl⟩
          unfold readD at h
          split at h
          · rename_i w a t k w' e
            cases e
            simp only [Bool.and_eq_true] at h
            obtain ⟨⟨⟨h1, h2⟩, h3⟩, h4⟩ := h
            obtain ⟨i, rfl⟩ := whole_int h1
            obtain ⟨j, rfl⟩ := whole_int h2
            obtain ⟨k, rfl, hk⟩ := key_str h3
            rcases told_of h4 with ⟨w, rfl, hw⟩ | ⟨_, rfl⟩
            · exact ⟨.read n i j k (some w), rfl, hk, hw⟩
            · exact ⟨.read n i j k none, rfl, hk, trivial⟩
          · cases h
        · cases h
  · cases h
theorem rows_of {ds : List PyData} (h : ds.all rowLook = true) : ∃ rs : List Row, ds = rs.map Row.d ∧ ∀ r ∈ rs, r.good := by
  induction ds with
  | nil => exact ⟨[], rfl, fun r hr => by cases hr⟩
  | cons d l ih =>
    rw [List.all_cons, Bool.and_eq_true] at h
    obtain ⟨r, rfl, hr⟩ := row_of h.1
    obtain ⟨rs, rfl, hrs⟩ := ih h.2
    refine ⟨r :: rs, rfl, fun x hx => ?_⟩
    rcases List.mem_cons.mp hx with rfl | hx
    · exact hr
    · exact hrs x hx
/-- the other way: what a row's data read as -/
def strOf : PyData → Str
  | .str z => z
  | _ => ""
def intOf : PyData → Int
  | .int i => i
  | _ => 0
def intsOf : PyData → List Int
  | .tuple ds => ds.map intOf
  | _ => []
def owOf : PyData → Option (List Int)
  | .none => none
  | d => some (intsOf d)
def rpOf : PyData → Str × Option (List Int)
  | .tuple [k, w] => (strOf k, owOf w)
  | _ => ("", none)
def wpOf : PyData → Str × List Int
  | .tuple [k, w] => (strOf k, intsOf w)
  | _ => ("", [])
def lstOf : PyData → List PyData
  | .list ds => ds
  | _ => []
def rowOf : PyData → Row
  | .tuple [_, a, b, c, s, rs, ws] => .deal ⟨intOf a, intOf b, intOf c, (intsOf s).getD 0 0, (intsOf s).getD 1 0, (intsOf s).getD 2 0, (lstOf rs).map rpOf, (lstOf ws).map wpOf⟩
  | .tuple [_, t, f] => .form (intOf t) (intOf f)
  | .tuple [w, a, t, k, v] => .read (decide (strOf w = "now")) (intOf a) (intOf t) (strOf k) (owOf v)
  | _ => .form 0 0
theorem intsOf_wo (w : List Int) : intsOf (woD w) = w := by
  show (w.map PyData.int).map intOf = w
  rw [List.map_map]
  exact (List.map_congr_left fun x _ => rfl).trans (List.map_id w)
theorem owOf_ow (w : Option (List Int)) : owOf (owD w) = w := by
  cases w with
  | none => rfl
  | some w => exact congrArg some (intsOf_wo w)
theorem rowOf_d (r : Row) : rowOf r.d = r := by
  cases r with
  | deal d =>
    have h1 : (d.rs.map rpD).map rpOf = d.rs := by
      rw [List.map_map]
      exact (List.map_congr_left fun p _ => by show (p.1, owOf (owD p.2)) = p; rw [owOf_ow]).trans (List.map_id _)
    have h2 : (d.ws.map wpD).map wpOf = d.ws := by
      rw [List.map_map]
      exact (List.map_congr_left fun p _ => by show (p.1, intsOf (woD p.2)) = p; rw [intsOf_wo]).trans (List.map_id _)
    show Row.deal ⟨d.num, d.beg, d.told, d.s1, d.s2, d.s3, (d.rs.map rpD).map rpOf, (d.ws.map wpD).map wpOf⟩ = _
    rw [h1, h2]
  | form t f => rfl
  | read n a t k w =>
    show Row.read (decide (rwName n = "now")) a t k (owOf (owD w)) = _
    rw [owOf_ow]
    cases n <;> rfl
theorem rowOf_all (rs : List Row) : (rs.map Row.d).map rowOf = rs := by
  rw [List.map_map]
  exact (List.map_congr_left fun r _ => rowOf_d r).trans (List.map_id _)
/-! ### what makes a history ordered -/
def stLe (a b : List Int) : Bool := PySem.W.dataLe false (fun x : List Int => PyData.tuple (x.map .int)) a b
def dealOf : Row → Option Deal
  | .deal d => some d
  | _ => none
def srt (ds : List Deal) : List Deal := ds.mergeSort fun a b => stLe a.st b.st
def dealsOf (rs : List Row) : List Deal := rs.filterMap dealOf
def fitB (ds : List Deal) : Bool := decide (ds.map (·.num)).Nodup && decide (ds.map (·.st)).Nodup && ds.all fun d => !decide (d.told < d.beg) && (decide (d.rs.map (·.1)).Nodup && decide (d.ws.map (·.1)).Nodup)
def goB : Option Int → List Deal → Bool
  | _, [] => true
  | none, d :: r => goB (some d.beg) r
  | some l, d :: r => !decide (d.told ≤ l) && goB (some (max l d.beg)) r
def putW (m : Str → Option (List Int)) (p : Str × List Int) : Str → Option (List Int) := fun k => if k = p.1 then some p.2 else m k
def rdB : (Str → Option (List Int)) → List Deal → Bool
  | _, [] => true
  | m, d :: r => (d.rs.all fun p => decide (m p.1 = p.2)) && rdB (d.ws.foldl putW m) r
def addV (t : Int) (m : Str → List (Int × List Int)) (p : Str × List Int) : Str → List (Int × List Int) := fun k => if k = p.1 then m k ++ [(t, p.2)] else m k
def verS (ds : List Deal) : Str → List (Int × List Int) := ds.foldl (fun m d => d.ws.foldl (addV d.s1) m) fun _ => []
def formOf : Row → Option (Int × Int)
  | .form t f => some (t, f)
  | _ => none
def formS (rs : List Row) : List (Int × Int) := (rs.filterMap formOf).mergeSort (PySem.W.dataLe false fun p : Int × Int => PyData.int p.1)
def lastUp {α : Type} (rows : List (Int × α)) (t : Int) : Option α := (rows.reverse.find? fun p => decide (p.1 ≤ t)).map (·.2)
def shp : Option (List Int) → Option Int → Option (List Int)
  | none, _ => none
  | some w, none => some w
  | some w, some f => some ((w ++ List.replicate f.toNat 0).take f.toNat)
def lackB (ds : List Deal) (a t : Int) : Bool := ds.any fun d => decide (d.told ≤ a) && decide (t < d.s1)
def readB (rs : List Row) (ds : List Deal) : Row → Bool
  | .read n a t k w => decide (shp (lastUp (verS ds k) t) (lastUp (formS rs) t) = w) && !(n && lackB ds a t)
  | _ => true
def isRw (n : Bool) : Row → Bool
  | .read m _ _ _ _ => m == n
  | _ => false
def readsB (rs : List Row) (ds : List Deal) : Bool := (rs.filter (isRw false) ++ rs.filter (isRw true)).all (readB rs ds)
def ordR (rs : List Row) : Bool :=
  rs.isEmpty || (fitB (srt (dealsOf rs)) && goB none (srt (dealsOf rs)) && rdB (fun _ => none) (srt (dealsOf rs)) && readsB rs (srt (dealsOf rs)))
def ordD : PyData → Bool
  | .list ds => ds.all rowLook && ordR (ds.map rowOf)
  | _ => false
/-! ### promises: looks -/
theorem SqT.of' {K : PySem.W.Frag} {H : Hp} {p : Addr} {xs : List V} (h : SqT K H p xs) : SqT K H p xs := h
def spWholeG (K : PySem.W.Frag) : Sp := fun vs H Q _ => ∃ (v : V) (d : PyData), vs = [v] ∧ Gd K H v d ∧ Q (.bl (wholeD d)) H
def spFromG (K : PySem.W.Frag) : Sp := fun vs H Q _ => ∃ (v : V) (d : PyData) (lo hi : Int), vs = [v, .int lo, .int hi] ∧ Gd K H v d ∧ Q (.bl (fromToD lo hi d)) H
def spRowG (K : PySem.W.Frag) : Sp := fun vs H Q _ => ∃ (v : V) (d : PyData) (lo hi : Int), vs = [v, .int lo, .int hi] ∧ Gd K H v d ∧ Q (.bl (rowD lo hi d)) H
def spLook (K : PySem.W.Frag) (f : PyData → Bool) : Sp := fun vs H Q _ => ∃ (v : V) (d : PyData), vs = [v] ∧ Gd K H v d ∧ Q (.bl (f d)) H
def spLookN (K : PySem.W.Frag) (f : PyData → Bool) : Sp := fun vs H Q _ => ∃ (v : V) (d : PyData), vs = [v] ∧ Gd K H v d ∧ ∀ H', Same H H' → Q (.bl (f d)) H'
def spToldG (K : PySem.W.Frag) : Sp := fun vs H Q _ => ∃ (v : V) (d : PyData) (o : Bool), vs = [v, .bl o] ∧ Gd K H v d ∧ Q (.bl (toldD o d)) H
def spPairsG (K : PySem.W.Frag) : Sp := fun vs H Q _ => ∃ (v : V) (d : PyData) (o : Bool), vs = [v, .bl o] ∧ Gd K H v d ∧ ∀ H', Same H H' → Q (.bl (pairsD o d)) H'
def spRowsG (K : PySem.W.Frag) (f : List PyData → Bool) : Sp := fun vs H Q _ => ∃ (p : Addr) (xs : List V) (ds : List PyData), vs = [.ref p] ∧ SqT K H p xs ∧ GdAll K H xs ds ∧ ∀ H', Same H H' → Q (.bl (f ds)) H'
def spRows5 (K : PySem.W.Frag) (f : List PyData → Bool) (n : Nat) : Sp := fun vs H Q _ => ∃ (p : Addr) (xs : List V) (ds : List PyData), vs = [.ref p] ∧ SqT K H p xs ∧ GdAll K H xs ds ∧ ds.length = n ∧ ∀ H', Same H H' → Q (.bl (f ds)) H'
theorem gd_consI {K : PySem.W.Frag} {H : Hp} {vs : List V} {d : PyData} {ds : List PyData} (h : GdAll K H vs (d :: ds)) : ∃ v r, vs = v :: r ∧ Gd K H v d ∧ GdAll K H r ds := by
  cases h with
  | cons a b => exact ⟨_, _, rfl, a, b⟩
theorem len5 {α : Type} {l : List α} (h : l.length = 5) : ∃ a b c d e, l = [a, b, c, d, e] := by
  match l, h with
  | [a, b, c, d, e], _ => exact ⟨a, b, c, d, e, rfl⟩
theorem len7 {α : Type} {l : List α} (h : l.length = 7) : ∃ a b c d e f g, l = [a, b, c, d, e, f, g] := by
  match l, h with
  | [a, b, c, d, e, f, g], _ => exact ⟨a, b, c, d, e, f, g, rfl⟩
theorem len3' {α : Type} {l : List α} (h : l.length = 3) : ∃ a b c, l = [a, b, c] := by
  match l, h with
  | [a, b, c], _ => exact ⟨a, b, c, rfl⟩
theorem noneD_dec {K : PySem.W.Frag} {H : Hp} {v : V} {d : PyData} (h : Gd K H v d) : decide (v = V.non) = noneD d := by
  cases h <;> rfl
/-! ### data taken apart -/
theorem same_sqt {K : PySem.W.Frag} {H H' : Hp} {p : Addr} {xs : List V} (k : Same H H') (h : SqT K H p xs) : SqT K H' p xs := SL.SqT.extN h (LamX.ExtN.of k)
theorem sqt_upd {K : PySem.W.Frag} {H : Hp} {D p : Addr} {xs ys : List V} {o : HO} (hD : H D = some (.lst ys)) (h : SqT K H p xs) : SqT K (upd H D o) p xs := by
  rcases h with (h | ⟨u, h⟩) | h
  · exact .inl (.inl (by rw [upd_ne (ne_of h hD (by intro z; cases z))]; exact h))
  · exact .inl (.inr ⟨u, by rw [upd_ne (ne_of h hD (by intro z; cases z))]; exact h⟩)
  · exact .inr h
theorem sqt_updD {K : PySem.W.Frag} {H : Hp} {D p : Addr} {xs : List V} {kvs : List (Key × V)} {o : HO} (hD : H D = some (.dK kvs)) (h : SqT K H p xs) : SqT K (upd H D o) p xs := by
  rcases h with (h | ⟨u, h⟩) | h
  · exact .inl (.inl (by rw [upd_ne (ne_of h hD (by intro z; cases z))]; exact h))
  · exact .inl (.inr ⟨u, by rw [upd_ne (ne_of h hD (by intro z; cases z))]; exact h⟩)
  · exact .inr h
theorem dp_intI {K : PySem.W.Frag} {H : Hp} {v : V} {i : Int} (h : Dp K H v (.int i)) : v = .int i := by
  cases h
  rfl
theorem dp_strI {K : PySem.W.Frag} {H : Hp} {v : V} {z : Str} (h : Dp K H v (.str z)) : v = .str z := by
  cases h
  rfl
theorem dp_noneI {K : PySem.W.Frag} {H : Hp} {v : V} (h : Dp K H v .none) : v = .non := by
  cases h
  rfl
theorem dp_tupI {K : PySem.W.Frag} {H : Hp} {v : V} {ds : List PyData} (h : Dp K H v (.tuple ds)) : ∃ p xs, v = .ref p ∧ SqT K H p xs ∧ DpAll K H xs ds := by
  cases h with
  | tup h hs => exact ⟨_, _, rfl, h, hs⟩
theorem dp_lstI {K : PySem.W.Frag} {H : Hp} {v : V} {ds : List PyData} (h : Dp K H v (.list ds)) : ∃ p xs, v = .ref p ∧ SqL K H p xs ∧ DpAll K H xs ds := by
  cases h with
  | lst h hs => exact ⟨_, _, rfl, h, hs⟩
theorem dpall_consI {K : PySem.W.Frag} {H : Hp} {vs : List V} {d : PyData} {ds : List PyData} (h : DpAll K H vs (d :: ds)) : ∃ v r, vs = v :: r ∧ Dp K H v d ∧ DpAll K H r ds := by
  cases h with
  | cons a b => exact ⟨_, _, rfl, a, b⟩
theorem dpall_nilI {K : PySem.W.Frag} {H : Hp} {vs : List V} (h : DpAll K H vs []) : vs = [] := by
  cases h
  rfl
theorem dpall_intI {K : PySem.W.Frag} {H : Hp} : ∀ {ns : List Int} {vs : List V}, DpAll K H vs (ns.map .int) → vs = ns.map V.int
  | [], _, .nil => rfl
  | n :: r, _, .cons h hs => by
    rw [dp_intI h, dpall_intI hs]
    rfl
theorem wo_at {K : PySem.W.Frag} {H : Hp} {v : V} {w : List Int} (h : Dp K H v (woD w)) : ∃ p, v = .ref p ∧ SqT K H p (w.map V.int) := by
  obtain ⟨p, xs, rfl, hp, hx⟩ := dp_tupI h
  rw [dpall_intI hx] at hp
  exact ⟨p, rfl, hp⟩
theorem wo_dp {K : PySem.W.Frag} {H : Hp} {p : Addr} {w : List Int} (h : SqT K H p (w.map V.int)) : Dp K H (.ref p) (woD w) := .tup h (dpall_ints w)
theorem rp_at {K : PySem.W.Frag} {H : Hp} {v : V} {p : Str × Option (List Int)} (h : Dp K H v (rpD p)) : ∃ q u, v = .ref q ∧ SqT K H q [.str p.1, u] ∧ Dp K H u (owD p.2) := by
  obtain ⟨q, xs, rfl, hq, hx⟩ := dp_tupI h
  obtain ⟨a, r, rfl, h1, hx⟩ := dpall_consI hx
  obtain ⟨b, r, rfl, h2, hx⟩ := dpall_consI hx
  rw [dpall_nilI hx, dp_strI h1] at hq
  exact ⟨q, b, rfl, hq, h2⟩
theorem wp_at {K : PySem.W.Frag} {H : Hp} {v : V} {p : Str × List Int} (h : Dp K H v (wpD p)) : ∃ q u, v = .ref q ∧ SqT K H q [.str p.1, u] ∧ Dp K H u (woD p.2) := by
  obtain ⟨q, xs, rfl, hq, hx⟩ := dp_tupI h
  obtain ⟨a, r, rfl, h1, hx⟩ := dpall_consI hx
  obtain ⟨b, r, rfl, h2, hx⟩ := dpall_consI hx
  rw [dpall_nilI hx, dp_strI h1] at hq
  exact ⟨q, b, rfl, hq, h2⟩
/-- a dealing's row at v -/
structure DealAt (K : PySem.W.Frag) (H : Hp) (v : V) (d : Deal) (p ps rl wl : Addr) (xs ys : List V) : Prop where
  e : v = .ref p
  row : SqT K H p [.str "dealing", .int d.num, .int d.beg, .int d.told, .ref ps, .ref rl, .ref wl]
  st : SqT K H ps (d.st.map V.int)
  rl : SqL K H rl xs
  rs : DpAll K H xs (d.rs.map rpD)
  wl : SqL K H wl ys
  ws : DpAll K H ys (d.ws.map wpD)
theorem deal_at {K : PySem.W.Frag} {H : Hp} {v : V} {d : Deal} (h : Dp K H v d.d) : ∃ p ps rl wl xs ys, DealAt K H v d p ps rl wl xs ys := by
  obtain ⟨q, zs, rfl, hq, hx⟩ := dp_tupI h
  obtain ⟨a1, r, rfl, h1, hx⟩ := dpall_consI hx
  obtain ⟨a2, r, rfl, h2, hx⟩ := dpall_consI hx
  obtain ⟨a3, r, rfl, h3, hx⟩ := dpall_consI hx
  obtain ⟨a4, r, rfl, h4, hx⟩ := dpall_consI hx
  obtain ⟨a5, r, rfl, h5, hx⟩ := dpall_consI hx
  obtain ⟨a6, r, rfl, h6, hx⟩ := dpall_consI hx
  obtain ⟨a7, r, rfl, h7, hx⟩ := dpall_consI hx
  obtain ⟨ps, e5, hs⟩ := wo_at (w := d.st) h5
  obtain ⟨rl, xs, e6, hr, hrs⟩ := dp_lstI h6
  obtain ⟨wl, ys, e7, hw, hws⟩ := dp_lstI h7
  rw [dpall_nilI hx, dp_strI h1, dp_intI h2, dp_intI h3, dp_intI h4, e5, e6, e7] at hq
  exact ⟨q, ps, rl, wl, xs, ys, rfl, hq, hs, hr, hrs, hw, hws⟩
theorem form_at {K : PySem.W.Frag} {H : Hp} {v : V} {t f : Int} (h : Dp K H v (Row.form t f).d) : ∃ p, v = .ref p ∧ SqT K H p [.str "form", .int t, .int f] := by
  obtain ⟨q, zs, rfl, hq, hx⟩ := dp_tupI h
  obtain ⟨a1, r, rfl, h1, hx⟩ := dpall_consI hx
  obtain ⟨a2, r, rfl, h2, hx⟩ := dpall_consI hx
  obtain ⟨a3, r, rfl, h3, hx⟩ := dpall_consI hx
  rw [dpall_nilI hx, dp_strI h1, dp_intI h2, dp_intI h3] at hq
  exact ⟨q, rfl, hq⟩
theorem read_at {K : PySem.W.Frag} {H : Hp} {v : V} {n : Bool} {a t : Int} {k : Str} {w : Option (List Int)} (h : Dp K H v (Row.read n a t k w).d) : ∃ p u, v = .ref p ∧ SqT K H p [.str (rwName n), .int a, .int t, .str k, u] ∧ Dp K H u (owD w) := by
  obtain ⟨q, zs, rfl, hq, hx⟩ := dp_tupI h
  obtain ⟨a1, r, rfl, h1, hx⟩ := dpall_consI hx
  obtain ⟨a2, r, rfl, h2, hx⟩ := dpall_consI hx
  obtain ⟨a3, r, rfl, h3, hx⟩ := dpall_consI hx
  obtain ⟨a4, r, rfl, h4, hx⟩ := dpall_consI hx
  obtain ⟨a5, r, rfl, h5, hx⟩ := dpall_consI hx
  rw [dpall_nilI hx, dp_strI h1, dp_intI h2, dp_intI h3, dp_strI h4] at hq
  exact ⟨q, a5, rfl, hq, h5⟩
theorem row_head {K : PySem.W.Frag} {H : Hp} {v : V} {r : Row} (h : Dp K H v r.d) : ∃ p xs, v = .ref p ∧ SqT K H p (.str r.word :: xs) := by
  cases r with
  | deal d =>
    obtain ⟨p, ps, rl, wl, xs, ys, D⟩ := deal_at (d := d) h
    exact ⟨p, _, D.e, D.row⟩
  | form t f =>
    obtain ⟨p, e, hp⟩ := form_at h
    exact ⟨p, _, e, hp⟩
  | read n a t k w =>
    obtain ⟨p, u, e, hp, _⟩ := read_at h
    exact ⟨p, _, e, hp⟩
/-- values and rows side by side -/
def RsAt (K : PySem.W.Frag) (H : Hp) (bs : List (V × Row)) : Prop := ∀ b ∈ bs, Dp K H b.1 b.2.d
def DsAt (K : PySem.W.Frag) (H : Hp) (zs : List (V × Deal)) : Prop := ∀ z ∈ zs, Dp K H z.1 z.2.d
theorem RsAt.ext {K : PySem.W.Frag} {H H' : Hp} {bs : List (V × Row)} (h : RsAt K H bs) (k : LamX.ExtN H H') : RsAt K H' bs := fun b hb => dp_ext k (h b hb)
theorem DsAt.ext {K : PySem.W.Frag} {H H' : Hp} {zs : List (V × Deal)} (h : DsAt K H zs) (k : LamX.ExtN H H') : DsAt K H' zs := fun b hb => dp_ext k (h b hb)
theorem sides {K : PySem.W.Frag} {H : Hp} {α : Type} {f : α → PyData} : ∀ {rs : List α} {vs : List V}, DpAll K H vs (rs.map f) → ∃ bs : List (V × α), vs = bs.map (·.1) ∧ rs = bs.map (·.2) ∧ ∀ b ∈ bs, Dp K H b.1 (f b.2)
  | [], _, .nil => ⟨[], rfl, rfl, fun b hb => by cases hb⟩
  | r :: rs, _, .cons h hs => by
    obtain ⟨bs, e1, e2, g⟩ := sides hs
    refine ⟨(_, r) :: bs, by rw [e1]; rfl, by rw [e2]; rfl, fun b hb => ?_⟩
    rcases List.mem_cons.mp hb with rfl | hb
    · exact h
    · exact g b hb
theorem unsides {K : PySem.W.Frag} {H : Hp} {α : Type} {f : α → PyData} : ∀ {bs : List (V × α)}, (∀ b ∈ bs, Dp K H b.1 (f b.2)) → DpAll K H (bs.map (·.1)) ((bs.map (·.2)).map f)
  | [], _ => .nil
  | b :: r, h => .cons (h b (.head _)) (unsides fun c hc => h c (.tail _ hc))
theorem cut_to (xs : List V) {f : Int} (h : 0 ≤ f) : cutV xs none (some f) = xs.take f.toNat := by
  unfold cutV
  obtain ⟨n, rfl⟩ : ∃ n : Nat, f = n := ⟨f.toNat, by omega⟩
  rw [HT.sIx_nat, HT.sIx_none, List.drop_zero, Nat.sub_zero, Int.toNat_natCast]
  by_cases c : n ≤ xs.length
  · rw [Nat.min_eq_left c]
  · rw [Nat.min_eq_right (by omega), List.take_length, List.take_of_length_le (by omega)]
theorem rep_one (n : Nat) (v : V) : (List.replicate n [v]).flatten = List.replicate n v := by
  induction n with
  | zero => rfl
  | succ n ih => rw [List.replicate_succ, List.flatten_cons, ih]; rfl
def fV : Option Int → V
  | none => .non
  | some f => .int f
def spLastUp (K : PySem.W.Frag) : Sp := fun vs H Q _ => ∃ (l : Addr) (zs : List (V × Int × V)) (t : Int) (o : V), vs = [.ref l, .int t, o] ∧ SqL K H l (zs.map (·.1)) ∧ (∀ z ∈ zs, ∃ p, z.1 = .ref p ∧ SqT K H p [.int z.2.1, z.2.2]) ∧ Q ((lastUp (zs.map (·.2)) t).getD o) H
def spShaped (K : PySem.W.Frag) : Sp := fun vs H Q _ => ∃ (v : V) (w : Option (List Int)) (f : Option Int), vs = [v, fV f] ∧ Dp K H v (owD w) ∧ owgood w ∧ (∀ i, f = some i → 1 ≤ i ∧ i ≤ 4) ∧ ∀ v' H', Same H H' → Dp K H' v' (owD (shp w f)) → Q v' H'
def spOfWord (K : PySem.W.Frag) : Sp := fun vs H Q _ => ∃ (l : Addr) (bs : List (V × Row)) (w : Str), vs = [.ref l, .str w] ∧ SqL K H l (bs.map (·.1)) ∧ RsAt K H bs ∧ bs.length ≤ 1000 ∧ ∀ p H', Same H H' → H p = none → H' p = some (.lst ((bs.filter fun b => decide (b.2.word = w)).map (·.1))) → Q (.ref p) H'

/-! ### lists without doubles; dealings and forms by the side of their values -/
def spUnlike (K : PySem.W.Frag) : Sp := fun vs H Q _ => ∃ l : Addr, vs = [.ref l] ∧
  ((∃ ks : List Key, SqL K H l (ks.map kV) ∧ ks.length ≤ 1000 ∧ ∀ H', Same H H' → Q (.bl (decide ks.Nodup)) H') ∨
   ∃ ts : List (Addr × List Int), SqL K H l (ts.map fun p => V.ref p.1) ∧ (∀ p ∈ ts, SqT K H p.1 (p.2.map V.int)) ∧ ts.length < 64 ∧ ∀ H', Same H H' → Q (.bl (decide (ts.map (·.2)).Nodup)) H')
theorem nodup_sub {α : Type} [DecidableEq α] : ∀ {l m : List α}, l.Nodup → (∀ x ∈ l, x ∈ m) → m.length ≤ l.length → m.Nodup ∧ m.length = l.length
  | [], m, _, _, h => by
    have : m = [] := List.eq_nil_of_length_eq_zero (Nat.le_zero.mp h)
    subst this
    exact ⟨List.nodup_nil, rfl⟩
  | x :: l, m, hn, hs, h => by
    obtain ⟨h1, h2⟩ := List.nodup_cons.mp hn
    have hx : x ∈ m := hs x (.head _)
    have hl : (m.erase x).length = m.length - 1 := List.length_erase_of_mem hx
    have hpos : 0 < m.length := List.length_pos_of_mem hx
    have ih := nodup_sub (m := m.erase x) h2 (fun y hy => (List.mem_erase_of_ne (fun e => h1 (by rw [← e]; exact hy))).mpr (hs y (.tail _ hy))) (by rw [List.length_cons] at h; omega)
    have hm : (x :: m.erase x).Perm m := (List.perm_cons_erase hx).symm
    have hlen : m.length = l.length + 1 := by have := ih.2; omega
    refine ⟨?_, by rw [List.length_cons]; exact hlen⟩
    rw [← hm.nodup_iff, List.nodup_cons]
    refine ⟨fun hc => ?_, ih.1⟩
    -- x twice: then l would be short
    have hs2 : ∀ y ∈ x :: l, y ∈ m.erase x := fun y hy => by
      rcases List.mem_cons.mp hy with rfl | hy
      · exact hc
      · exact (List.mem_erase_of_ne (fun e => h1 (by rw [← e]; exact hy))).mpr (hs y (.tail _ hy))
    have : (x :: l).length ≤ (m.erase x).length := by
      have key : ∀ {l m : List α}, l.Nodup → (∀ x ∈ l, x ∈ m) → l.length ≤ m.length := by
        intro l
        induction l with
        | nil => intro m _ _; exact Nat.zero_le _
        | cons y r ih =>
          intro m hn hs
          obtain ⟨a, b⟩ := List.nodup_cons.mp hn
          have hy : y ∈ m := hs y (.head _)
          have := ih (m := m.erase y) b fun z hz => (List.mem_erase_of_ne (fun e => a (by rw [← e]; exact hz))).mpr (hs z (.tail _ hz))
          have e := List.length_erase_of_mem hy
          have hp := List.length_pos_of_mem hy
          rw [List.length_cons]
          omega
      exact key hn hs2
    rw [List.length_cons] at this
    omega
theorem nodup_le {α : Type} [DecidableEq α] : ∀ {l m : List α}, l.Nodup → (∀ x ∈ l, x ∈ m) → l.length ≤ m.length := by
  intro l
  induction l with
  | nil => intro m _ _; exact Nat.zero_le _
  | cons y r ih =>
    intro m hn hs
    obtain ⟨a, b⟩ := List.nodup_cons.mp hn
    have hy : y ∈ m := hs y (.head _)
    have := ih (m := m.erase y) b fun z hz => (List.mem_erase_of_ne (fun e => a (by rw [← e]; exact hz))).mpr (hs z (.tail _ hz))
    have e := List.length_erase_of_mem hy
    have hp := List.length_pos_of_mem hy
    rw [List.length_cons]
    omega
/-- as many in the set as in the list: no doubles -/
theorem few_iff {L ts : List (List Int)} (hn : L.Nodup) (h1 : ∀ x ∈ L, x ∈ ts) (h2 : ∀ x ∈ ts, x ∈ L) : L.length = ts.length ↔ ts.Nodup :=
  ⟨fun e => (nodup_sub hn h1 (Nat.le_of_eq e.symm)).1, fun h => Nat.le_antisymm (nodup_le hn h1) (nodup_le h h2)⟩
theorem dec_int {n m : Nat} {p : Prop} [Decidable p] (h : n = m ↔ p) : decide (V.int (n : Int) = V.int (m : Int)) = decide p := by
  have : (V.int (n : Int) = V.int (m : Int)) ↔ n = m := ⟨fun e => by have := V.int.inj e; omega, fun e => by rw [e]⟩
  exact decide_eq_decide.mpr (this.trans h)
def spUnlikeKeys (K : PySem.W.Frag) : Sp := fun vs H Q _ => ∃ (l : Addr) (xs : List V) (ks : List Str), vs = [.ref l] ∧ SqL K H l xs ∧ xs.length ≤ 1000 ∧ xs.length = ks.length ∧ (∀ (i : Nat) (v : V) (k : Str), xs[i]? = some v → ks[i]? = some k → ∃ p u, v = .ref p ∧ SqT K H p [.str k, u]) ∧ ∀ H', Same H H' → Q (.bl (decide ks.Nodup)) H'
theorem nodup_inr {ks : List Str} : ((ks.map Sum.inr : List Key)).Nodup ↔ ks.Nodup := by
  constructor
  · exact fun h => List.Pairwise.of_map _ (fun _ _ hne e => hne (congrArg Sum.inr e)) h
  · exact fun h => List.Pairwise.map _ (fun _ _ hne e => hne (Sum.inr.inj e)) h
theorem nodup_inl {ks : List Int} : ((ks.map Sum.inl : List Key)).Nodup ↔ ks.Nodup := by
  constructor
  · exact fun h => List.Pairwise.of_map _ (fun _ _ hne e => hne (congrArg Sum.inl e)) h
  · exact fun h => List.Pairwise.map _ (fun _ _ hne e => hne (Sum.inl.inj e)) h
def dealV (b : V × Row) : Option (V × Deal) := (dealOf b.2).map fun d => (b.1, d)
def dealsV (bs : List (V × Row)) : List (V × Deal) := bs.filterMap dealV
def srtV (zs : List (V × Deal)) : List (V × Deal) := zs.mergeSort fun a b => stLe a.2.st b.2.st
theorem srtV_snd (zs : List (V × Deal)) : (srtV zs).map (·.2) = srt (zs.map (·.2)) := List.map_mergeSort fun _ _ _ _ => rfl
theorem dealsV_snd (bs : List (V × Row)) : (dealsV bs).map (·.2) = dealsOf (bs.map (·.2)) := by
  induction bs with
  | nil => rfl
  | cons b r ih =>
    have e : dealsOf ((b :: r).map (·.2)) = (match dealOf b.2 with | some d => d :: dealsOf (r.map (·.2)) | none => dealsOf (r.map (·.2))) := by
      unfold dealsOf
      rw [List.map_cons, List.filterMap_cons]
      cases dealOf b.2 <;> rfl
    rw [e, ← ih]
    unfold dealsV
    rw [List.filterMap_cons]
    unfold dealV
    cases dealOf b.2 <;> rfl
theorem dealsV_fst (bs : List (V × Row)) : (dealsV bs).map (·.1) = (bs.filter fun b => decide (b.2.word = ("dealing" : Str))).map (·.1) := by
  induction bs with
  | nil => rfl
  | cons b r ih =>
    rw [List.filter_cons]
    unfold dealsV
    rw [List.filterMap_cons]
    obtain ⟨v, row⟩ := b
    cases row with
    | deal d =>
      show v :: (dealsV r).map (·.1) = _
      rw [ih]
      rfl
    | form t f =>
      have e : decide ((Row.form t f).word = ("dealing" : Str)) = false := decide_eq_false fun z => w_deal_form z.symm
      show (dealsV r).map (·.1) = _
      rw [ih]
      simp only [e]
      rfl
    | read n a t k w =>
      have e : decide ((Row.read n a t k w).word = ("dealing" : Str)) = false := decide_eq_false fun z => w_deal_rw n z.symm
      show (dealsV r).map (·.1) = _
      rw [ih]
      simp only [e]
      rfl
theorem dealsV_at {K : PySem.W.Frag} {H : Hp} {bs : List (V × Row)} (h : RsAt K H bs) : DsAt K H (dealsV bs) := by
  intro z hz
  obtain ⟨b, hb, e⟩ := List.mem_filterMap.mp hz
  obtain ⟨v, row⟩ := b
  cases row with
  | deal d =>
    cases e
    exact h _ hb
  | form t f => cases e
  | read n a t k w => cases e
theorem srtV_mem {zs : List (V × Deal)} {z : V × Deal} : z ∈ srtV zs ↔ z ∈ zs := List.mem_mergeSort
theorem srtV_at {K : PySem.W.Frag} {H : Hp} {zs : List (V × Deal)} (h : DsAt K H zs) : DsAt K H (srtV zs) := fun z hz => h z (srtV_mem.mp hz)
theorem srtV_len (zs : List (V × Deal)) : (srtV zs).length = zs.length := List.length_mergeSort _
theorem dealsV_len (bs : List (V × Row)) : (dealsV bs).length ≤ bs.length := List.length_filterMap_le _ _
def spBySt (K : PySem.W.Frag) (a : Nat → Addr) : Sp := fun vs H Q _ => ∃ (l : Addr) (bs : List (V × Row)), vs = [.ref l] ∧ SqL K H l (bs.map (·.1)) ∧ RsAt K H bs ∧ bs.length ≤ 1000 ∧ LamX.Tabs (TT a) H ∧
  ∀ p H', LM.Ex (TT a) H H' → LamX.Tabs (TT a) H' → H' p = some (.lst ((srtV (dealsV bs)).map (·.1))) → Q (.ref p) H'
def formV (b : V × Row) : Option (V × Int × Int) := (formOf b.2).map fun p => (b.1, p)
def spForms (K : PySem.W.Frag) (a : Nat → Addr) : Sp := fun vs H Q _ => ∃ (l : Addr) (bs : List (V × Row)), vs = [.ref l] ∧ SqL K H l (bs.map (·.1)) ∧ RsAt K H bs ∧ bs.length ≤ 1000 ∧ LamX.Tabs (TT a) H ∧
  ∀ (p : Addr) (zs : List (V × Int × Int)) (H' : Hp), LM.Ex (TT a) H H' → LamX.Tabs (TT a) H' → H' p = some (.lst (zs.map (·.1))) → (∀ z ∈ zs, ∃ q, z.1 = .ref q ∧ SqT K H' q [.int z.2.1, .int z.2.2]) → zs.map (·.2) = formS (bs.map (·.2)) → Q (.ref p) H'
/-! ### promises of the looks at an order -/
def spFit (K : PySem.W.Frag) : Sp := fun vs H Q _ => ∃ (l : Addr) (zs : List (V × Deal)), vs = [.ref l] ∧ SqL K H l (zs.map (·.1)) ∧ DsAt K H zs ∧ zs.length < 64 ∧ (∀ z ∈ zs, z.2.rs.length ≤ 1000 ∧ z.2.ws.length ≤ 1000) ∧ ∀ H', Same H H' → Q (.bl (fitB (zs.map (·.2)))) H'
def spGo (K : PySem.W.Frag) : Sp := fun vs H Q _ => ∃ (l : Addr) (zs : List (V × Deal)), vs = [.ref l] ∧ SqL K H l (zs.map (·.1)) ∧ DsAt K H zs ∧ ∀ H', Same H H' → Q (.bl (goB none (zs.map (·.2)))) H'
def spRead (K : PySem.W.Frag) : Sp := fun vs H Q _ => ∃ (l : Addr) (zs : List (V × Deal)), vs = [.ref l] ∧ SqL K H l (zs.map (·.1)) ∧ DsAt K H zs ∧ zs.length < 64 ∧ (∀ z ∈ zs, z.2.rs.length ≤ 1000 ∧ z.2.ws.length ≤ 1000 ∧ (∀ p ∈ z.2.rs, owgood p.2) ∧ ∀ p ∈ z.2.ws, wgood p.2) ∧ ∀ H', Same H H' → Q (.bl (rdB (fun _ => none) (zs.map (·.2)))) H'
def spLack (K : PySem.W.Frag) : Sp := fun vs H Q _ => ∃ (l : Addr) (zs : List (V × Deal)) (x t : Int), vs = [.ref l, .int x, .int t] ∧ SqL K H l (zs.map (·.1)) ∧ DsAt K H zs ∧ zs.length < 64 ∧ ∀ H', Same H H' → Q (.bl (lackB (zs.map (·.2)) x t)) H'
/-- latest: none yet, or a time -/
def goFrom (ds : List Deal) : Option Int → Bool := fun o => goB o ds
theorem take_zip {α : Type} {l : List α} {i : Nat} {x : α} (h : l[i]? = some x) : l.drop i = x :: l.drop (i + 1) := by
  have hlt := (List.getElem?_eq_some_iff.mp h).1
  have h2 := (List.getElem?_eq_some_iff.mp h).2
  rw [← h2, List.getElem_cons_drop]
theorem formV_len (bs : List (V × Row)) : (bs.filterMap formV).length ≤ bs.length := List.length_filterMap_le _ _
theorem formV_fst (bs : List (V × Row)) : (bs.filterMap formV).map (·.1) = (bs.filter fun b => decide (b.2.word = ("form" : Str))).map (·.1) := by
  induction bs with
  | nil => rfl
  | cons b r ih =>
    rw [List.filter_cons, List.filterMap_cons]
    obtain ⟨v, row⟩ := b
    cases row with
    | form t f =>
      show v :: (r.filterMap formV).map (·.1) = _
      rw [ih]
      rfl
    | deal d =>
      have e : decide ((Row.deal d).word = ("form" : Str)) = false := decide_eq_false w_deal_form
      show (r.filterMap formV).map (·.1) = _
      rw [ih]
      simp only [e]
      rfl
    | read n a t k w =>
      have e : decide ((Row.read n a t k w).word = ("form" : Str)) = false := decide_eq_false fun z => w_form_rw n z.symm
      show (r.filterMap formV).map (·.1) = _
      rw [ih]
      simp only [e]
      rfl
theorem formV_snd (bs : List (V × Row)) : (bs.filterMap formV).map (·.2) = (bs.map (·.2)).filterMap formOf := by
  induction bs with
  | nil => rfl
  | cons b r ih =>
    rw [List.filterMap_cons, List.map_cons, List.filterMap_cons]
    obtain ⟨v, row⟩ := b
    cases row with
    | form t f => exact congrArg ((t, f) :: ·) ih
    | deal d => exact ih
    | read n a t k w => exact ih
theorem formV_at {K : PySem.W.Frag} {H : Hp} {bs : List (V × Row)} (h : RsAt K H bs) : ∀ z ∈ bs.filterMap formV, ∃ p, z.1 = .ref p ∧ SqT K H p [.str "form", .int z.2.1, .int z.2.2] := by
  intro z hz
  obtain ⟨b, hb, e⟩ := List.mem_filterMap.mp hz
  obtain ⟨v, row⟩ := b
  cases row with
  | form t f =>
    cases e
    exact form_at (h _ hb)
  | deal d => cases e
  | read n a t k w => cases e
/-- new pairs of times and things, laid one by one -/
def PrAt (K : PySem.W.Frag) (H : Hp) (zs : List (V × Int × Int)) : Prop := ∀ z ∈ zs, ∃ q, z.1 = .ref q ∧ SqT K H q [.int z.2.1, .int z.2.2]
theorem PrAt.ext {K : PySem.W.Frag} {H H' : Hp} {zs : List (V × Int × Int)} (h : PrAt K H zs) (k : LamX.ExtN H H') : PrAt K H' zs := fun z hz => by
  obtain ⟨q, e, hq⟩ := h z hz
  exact ⟨q, e, SL.SqT.extN hq k⟩
theorem formS_of (zs : List (V × Int × Int)) : (zs.mergeSort (PySem.W.dataLe false fun z : V × Int × Int => PyData.int z.2.1)).map (·.2) = (zs.map (·.2)).mergeSort (PySem.W.dataLe false fun p : Int × Int => PyData.int p.1) := List.map_mergeSort fun _ _ _ _ => rfl

/-! ### worths and versions in dicts -/
theorem eqv_ints : ∀ (a b : List Int), PyData.eqvAll (a.map .int) (b.map .int) = decide (a = b)
  | [], [] => rfl
  | [], _ :: _ => rfl
  | _ :: _, [] => rfl
  | x :: a, y :: b => by
    rw [List.map_cons, List.map_cons]
    simp only [PyData.eqvAll, PyData.eqv, eqv_ints a b]
    by_cases h : x = y
    · subst h
      by_cases h2 : a = b
      · subst h2; simp
      · simp [h2]
    · simp [h]
theorem eqv_wo (a b : List Int) : PyData.eqv (woD a) (woD b) = decide (a = b) := by
  unfold woD
  simp only [PyData.eqv]
  exact eqv_ints a b
theorem eqv_ow (a b : Option (List Int)) : PyData.eqv (owD a) (owD b) = decide (a = b) := by
  cases a with
  | none =>
    cases b with
    | none => rfl
    | some b => rfl
  | some a =>
    cases b with
    | none => rfl
    | some b =>
      show PyData.eqv (woD a) (woD b) = _
      rw [eqv_wo]
      exact decide_eq_decide.mpr ⟨fun h => by rw [h], fun h => Option.some.inj h⟩
theorem shaped_ow (a : Option (List Int)) : SeqAt.shaped (owD a) = true := by
  have lay : ∀ l : List Int, PyData.canLayAll0 (l.map .int) = true ∧ PyData.depthAll (l.map .int) = 0 := by
    intro l
    induction l with
    | nil => exact ⟨rfl, rfl⟩
    | cons x r ih =>
      rw [List.map_cons]
      exact ⟨by simp only [PyData.canLayAll0, PyData.canLay0, ih.1, Bool.and_self], by simp only [PyData.depthAll, PyData.depth, ih.2, Nat.max_self]⟩
  cases a with
  | none => rfl
  | some a =>
    unfold SeqAt.shaped owD woD
    simp only [PyData.canLay0, PyData.depth, (lay a).1, (lay a).2]
    rfl
/-- what a dict of worths has -/
def WM (K : PySem.W.Frag) (H : Hp) (kvs : List (Key × V)) (m : Str → Option (List Int)) : Prop := ∀ k : Str, Dp K H ((valV kvs (Sum.inr k)).getD .non) (owD (m k))
theorem WM.nil {K : PySem.W.Frag} {H : Hp} : WM K H [] fun _ => none := fun k => .non
theorem WM.put {K : PySem.W.Frag} {H : Hp} {kvs : List (Key × V)} {m : Str → Option (List Int)} (h : WM K H kvs m) {p : Str × List Int} {v : V} (hv : Dp K H v (woD p.2)) : WM K H (putK kvs (Sum.inr p.1) v) (putW m p) := fun k => by
  rw [valV_put]
  unfold putW
  by_cases e : k = p.1
  · subst e
    rw [if_pos rfl, if_pos rfl]
    exact hv
  · rw [if_neg (fun z => e (Sum.inr.inj z)), if_neg e]
    exact h k
theorem foldl_take {α β : Type} (f : β → α → β) (b : β) {l : List α} {j : Nat} {x : α} (h : l[j]? = some x) : (l.take (j + 1)).foldl f b = f ((l.take j).foldl f b) x := by
  rw [List.take_add_one, h, List.foldl_append]
  rfl
/-- rows of versions, told at a heap: values and pairs (time, worth) -/
def VrAt (K : PySem.W.Frag) (H : Hp) (zs : List (V × Int × V)) (xs : List (Int × List Int)) : Prop := zs.length = xs.length ∧ ∀ (i : Nat) (z : V × Int × V) (x : Int × List Int), zs[i]? = some z → xs[i]? = some x → (∃ p, z.1 = .ref p ∧ SqT K H p [.int z.2.1, z.2.2]) ∧ z.2.1 = x.1 ∧ Dp K H z.2.2 (woD x.2)
theorem VrAt.ext {K : PySem.W.Frag} {H H' : Hp} {zs : List (V × Int × V)} {xs : List (Int × List Int)} (h : VrAt K H zs xs) (k : ∀ p ys, SqT K H p ys → SqT K H' p ys) (kd : ∀ v w, Dp K H v (woD w) → Dp K H' v (woD w)) : VrAt K H' zs xs :=
  ⟨h.1, fun i z x hz hx => by
    obtain ⟨⟨p, e, hp⟩, h2, h3⟩ := h.2 i z x hz hx
    exact ⟨⟨p, e, k _ _ hp⟩, h2, kd _ _ h3⟩⟩
theorem VrAt.snoc {K : PySem.W.Frag} {H : Hp} {zs : List (V × Int × V)} {xs : List (Int × List Int)} (h : VrAt K H zs xs) {z : V × Int × V} {x : Int × List Int} (h1 : ∃ p, z.1 = .ref p ∧ SqT K H p [.int z.2.1, z.2.2]) (h2 : z.2.1 = x.1) (h3 : Dp K H z.2.2 (woD x.2)) : VrAt K H (zs ++ [z]) (xs ++ [x]) := by
  refine ⟨by rw [List.length_append, List.length_append, h.1]; rfl, fun i y w hy hw => ?_⟩
  by_cases c : i < zs.length
  · rw [List.getElem?_append_left c] at hy
    rw [List.getElem?_append_left (by rw [← h.1]; exact c)] at hw
    exact h.2 i y w hy hw
  · rw [List.getElem?_append_right (by omega)] at hy
    rw [List.getElem?_append_right (by rw [← h.1]; omega), ← h.1] at hw
    cases e : i - zs.length with
    | zero =>
      rw [e] at hy hw
      cases hy
      cases hw
      exact ⟨h1, h2, h3⟩
    | succ n =>
      rw [e] at hy
      simp at hy
theorem wo_upd {K : PySem.W.Frag} {H : Hp} {D : Addr} {ys : List V} {o : HO} (hD : H D = some (.lst ys)) {v : V} {w : List Int} (h : Dp K H v (woD w)) : Dp K (upd H D o) v (woD w) := by
  obtain ⟨p, rfl, hp⟩ := wo_at h
  exact wo_dp (sqt_upd hD hp)
/-- what the dict of versions at the heap H' has: its lists are new since H -/
structure VM (K : PySem.W.Frag) (H H' : Hp) (kvs : List (Key × V)) (m : Str → List (Int × List Int)) : Prop where
  no : ∀ k, valV kvs (Sum.inr k) = none → m k = []
  yes : ∀ k v, valV kvs (Sum.inr k) = some v → ∃ (l : Addr) (zs : List (V × Int × V)), v = .ref l ∧ H l = none ∧ H' l = some (.lst (zs.map (·.1))) ∧ VrAt K H' zs (m k)
  inj : ∀ k k' v, valV kvs (Sum.inr k) = some v → valV kvs (Sum.inr k') = some v → k = k'
def spVers (K : PySem.W.Frag) : Sp := fun vs H Q _ => ∃ (l : Addr) (zs : List (V × Deal)), vs = [.ref l] ∧ SqL K H l (zs.map (·.1)) ∧ DsAt K H zs ∧ zs.length < 64 ∧ (∀ z ∈ zs, z.2.ws.length ≤ 1000) ∧
  ∀ (p : Addr) (kvs : List (Key × V)) (H' : Hp), Same H H' → H' p = some (.dK kvs) → VM K H H' kvs (verS (zs.map (·.2))) → Q (.ref p) H'
theorem last_fst {zs : List (V × Int × V)} {K : PySem.W.Frag} {H : Hp} {xs : List (Int × List Int)} (h : VrAt K H zs xs) (t : Int) : Dp K H ((lastUp (zs.map (·.2)) t).getD .non) (owD (lastUp xs t)) := by
  have key : ∀ (A : List (V × Int × V)) (B : List (Int × List Int)), A.length = B.length → (∀ (i : Nat) (z : V × Int × V) (x : Int × List Int), A[i]? = some z → B[i]? = some x → z.2.1 = x.1 ∧ Dp K H z.2.2 (woD x.2)) →
      Dp K H ((((A.map (·.2)).find? fun p => decide (p.1 ≤ t)).map (·.2)).getD .non) (owD ((B.find? fun p => decide (p.1 ≤ t)).map (·.2))) := by
    intro A
    induction A with
    | nil =>
      intro B hl _
      have : B = [] := List.eq_nil_of_length_eq_zero hl.symm
      subst this
      exact .non
    | cons z r ih =>
      intro B hl hr
      cases B with
      | nil => cases hl
      | cons x s =>
        obtain ⟨e, hd⟩ := hr 0 z x rfl rfl
        rw [List.map_cons, List.find?_cons, List.find?_cons, e]
        by_cases c : x.1 ≤ t
        · rw [decide_eq_true c]
          exact hd
        · rw [decide_eq_false c]
          exact ih s (by simpa using hl) fun i z' x' h1 h2 => hr (i + 1) z' x' (by simpa using h1) (by simpa using h2)
  unfold lastUp
  rw [← List.map_reverse]
  refine key zs.reverse xs.reverse (by rw [List.length_reverse, List.length_reverse, h.1]) fun i z x h1 h2 => ?_
  have i1 : i < zs.length := by have := (List.getElem?_eq_some_iff.mp h1).1; rw [List.length_reverse] at this; exact this
  rw [List.getElem?_reverse i1] at h1
  rw [List.getElem?_reverse (by rw [← h.1]; exact i1), ← h.1] at h2
  exact (h.2 _ z x h1 h2).2
theorem VM.put {K : PySem.W.Frag} {H HB HD : Hp} {kvs : List (Key × V)} {m : Str → List (Int × List Int)} (h : VM K H HB kvs m) {p : Str × List Int} {t : Int} {r : Addr} {zs : List (V × Int × V)} {z : V × Int × V}
    (hr : valV kvs (Sum.inr p.1) = some (.ref r) ∨ (valV kvs (Sum.inr p.1) = none ∧ ∀ k, valV kvs (Sum.inr k) ≠ some (.ref r))) (hnr : H r = none) (hD : HD r = some (.lst ((zs ++ [z]).map (·.1)))) (hV : VrAt K HD (zs ++ [z]) (m p.1 ++ [(t, p.2)]))
    (keep : ∀ l ys, l ≠ r → HB l = some (.lst ys) → HD l = some (.lst ys)) (kt : ∀ q ys, SqT K HB q ys → SqT K HD q ys) : VM K H HD (putK kvs (Sum.inr p.1) (.ref r)) (addV t m p) := by
  have only : ∀ k, k ≠ p.1 → valV kvs (Sum.inr k) ≠ some (.ref r) := fun k hk e => by
    rcases hr with hr | ⟨_, hr⟩
    · exact hk (h.inj _ _ _ e hr)
    · exact hr k e
  have at_ : ∀ k, valV (putK kvs (Sum.inr p.1) (.ref r)) (Sum.inr k) = if k = p.1 then some (.ref r) else valV kvs (Sum.inr k) := fun k => by
    rw [valV_put]
    by_cases e : k = p.1
    · rw [if_pos e, if_pos (congrArg Sum.inr e)]
    · rw [if_neg e, if_neg (fun z => e (Sum.inr.inj z))]
  refine ⟨fun k e => ?_, fun k v e => ?_, fun k k' v e e' => ?_⟩
  · rw [at_ k] at e
    by_cases c : k = p.1
    · rw [if_pos c] at e
      cases e
    · rw [if_neg c] at e
      unfold addV
      rw [if_neg c]
      exact h.no k e
  · rw [at_ k] at e
    unfold addV
    by_cases c : k = p.1
    · rw [if_pos c] at e
      cases e
      rw [if_pos c, c]
      exact ⟨r, _, rfl, hnr, hD, hV⟩
    · rw [if_neg c] at e
      rw [if_neg c]
      obtain ⟨l, ys, rfl, hl, hy, hv⟩ := h.yes k v e
      have hlr : l ≠ r := fun z => only k c (by rw [e, z])
      exact ⟨l, ys, rfl, hl, keep _ _ hlr hy, hv.ext kt fun v w hw => by
        obtain ⟨q, rfl, hq⟩ := wo_at hw
        exact wo_dp (kt _ _ hq)⟩
  · rw [at_ k] at e
    rw [at_ k'] at e'
    by_cases c : k = p.1
    · by_cases c' : k' = p.1
      · rw [c, c']
      · rw [if_pos c] at e
        rw [if_neg c'] at e'
        cases e
        exact absurd e' (only k' c')
    · by_cases c' : k' = p.1
      · rw [if_pos c'] at e'
        rw [if_neg c] at e
        cases e'
        exact absurd e (only k c)
      · rw [if_neg c] at e
        rw [if_neg c'] at e'
        exact h.inj _ _ _ e e'
theorem VM.ext {K : PySem.W.Frag} {H HB HD : Hp} {kvs : List (Key × V)} {m : Str → List (Int × List Int)} (h : VM K H HB kvs m) (k : LamX.ExtN HB HD) : VM K H HD kvs m :=
  ⟨h.no, fun k' v e => by
    obtain ⟨l, ys, rfl, hl, hy, hv⟩ := h.yes k' v e
    exact ⟨l, ys, rfl, hl, k _ _ hy (fun _ z => by cases z), hv.ext (fun q ys hq => SL.SqT.extN hq k) fun v w hw => dp_ext k hw⟩, h.inj⟩
theorem VM.nil {K : PySem.W.Frag} {H H' : Hp} : VM K H H' [] fun _ => [] := ⟨fun _ _ => rfl, fun k v e => (by cases e), fun k k' v e _ => (by cases e)⟩
/-! ### readings -/
theorem read_word {r : Row} {n : Bool} (h : r.word = rwName n) : ∃ a t k w, r = .read n a t k w := by
  cases r with
  | deal d => exact absurd h (w_deal_rw n)
  | form t f => exact absurd h (w_form_rw n)
  | read m a t k w =>
    have : m = n := by
      have h : rwName m = rwName n := h
      cases m <;> cases n <;> first | rfl | exact absurd h rw_ne | exact absurd h.symm rw_ne
    subst this
    exact ⟨a, t, k, w, rfl⟩
theorem isRw_word (r : Row) (n : Bool) : decide (r.word = rwName n) = isRw n r := by
  cases r with
  | deal d => exact decide_eq_false (w_deal_rw n)
  | form t f => exact decide_eq_false (w_form_rw n)
  | read m a t k w =>
    show decide (rwName m = rwName n) = (m == n)
    cases m <;> cases n <;> decide +kernel
theorem filter_rw (bs : List (V × Row)) (n : Bool) : (bs.filter fun b => decide (b.2.word = rwName n)).map (·.2) = (bs.map (·.2)).filter (isRw n) := by
  rw [List.filter_map]
  congr 1
  exact List.filter_congr fun b _ => isRw_word b.2 n
theorem lastUp_map {α β : Type} (f : α → β) (xs : List (Int × α)) (t : Int) : lastUp (xs.map fun p => (p.1, f p.2)) t = (lastUp xs t).map f := by
  unfold lastUp
  rw [← List.map_reverse, List.find?_map]
  show Option.map _ (Option.map _ (xs.reverse.find? fun p => decide (p.1 ≤ t))) = _
  cases xs.reverse.find? fun p => decide (p.1 ≤ t) <;> rfl
theorem lastUp_mem {α : Type} {xs : List (Int × α)} {t : Int} {y : α} (h : lastUp xs t = some y) : ∃ p ∈ xs, p.2 = y := by
  unfold lastUp at h
  cases e : xs.reverse.find? fun p => decide (p.1 ≤ t) with
  | none => rw [e] at h; cases h
  | some p =>
    rw [e] at h
    cases h
    exact ⟨p, List.mem_reverse.mp (List.mem_of_find?_eq_some e), rfl⟩
theorem verS_good {ds : List Deal} (h : ∀ d ∈ ds, ∀ p ∈ d.ws, wgood p.2) : ∀ k, ∀ x ∈ verS ds k, wgood x.2 := by
  have inner : ∀ (t : Int) (ws : List (Str × List Int)) (m : Str → List (Int × List Int)), (∀ p ∈ ws, wgood p.2) → (∀ k, ∀ x ∈ m k, wgood x.2) → ∀ k, ∀ x ∈ ws.foldl (addV t) m k, wgood x.2 := by
    intro t ws
    induction ws with
    | nil => intro m _ hm; exact hm
    | cons p r ih =>
      intro m hp hm
      rw [List.foldl_cons]
      refine ih _ (fun q hq => hp q (.tail _ hq)) fun k x hx => ?_
      unfold addV at hx
      split at hx
      · rcases List.mem_append.mp hx with hx | hx
        · exact hm k x hx
        · cases List.mem_singleton.mp hx
          exact hp p (.head _)
      · exact hm k x hx
  unfold verS
  have : ∀ (ds : List Deal) (m : Str → List (Int × List Int)), (∀ d ∈ ds, ∀ p ∈ d.ws, wgood p.2) → (∀ k, ∀ x ∈ m k, wgood x.2) → ∀ k, ∀ x ∈ ds.foldl (fun m d => d.ws.foldl (addV d.s1) m) m k, wgood x.2 := by
    intro ds
    induction ds with
    | nil => intro m _ hm; exact hm
    | cons d r ih =>
      intro m hd hm
      rw [List.foldl_cons]
      exact ih _ (fun q hq => hd q (.tail _ hq)) (inner _ _ _ (hd d (.head _)) hm)
  exact this ds _ h fun k x hx => by cases hx
theorem formS_good {rs : List Row} (h : ∀ r ∈ rs, r.good) : ∀ p ∈ formS rs, 1 ≤ p.2 ∧ p.2 ≤ 4 := by
  intro p hp
  have hp := List.mem_mergeSort.mp hp
  obtain ⟨r, hr, e⟩ := List.mem_filterMap.mp hp
  cases r with
  | form t f =>
    cases e
    exact h _ hr
  | deal d => cases e
  | read n a t k w => cases e
theorem owgood_last {ds : List Deal} (h : ∀ d ∈ ds, ∀ p ∈ d.ws, wgood p.2) (k : Str) (t : Int) : owgood (lastUp (verS ds k) t) := by
  cases e : lastUp (verS ds k) t with
  | none => trivial
  | some w =>
    obtain ⟨x, hx, rfl⟩ := lastUp_mem e
    exact verS_good h k x hx
theorem now_dec (n : Bool) : decide (V.str (rwName n) = V.str "now") = n := by cases n <;> decide +kernel
def spRgs (K : PySem.W.Frag) (a : Nat → Addr) : Sp := fun vs H Q _ => ∃ (l m : Addr) (bs : List (V × Row)) (zs : List (V × Deal)), vs = [.ref l, .ref m] ∧ SqL K H l (bs.map (·.1)) ∧ RsAt K H bs ∧ bs.length ≤ 1000 ∧ (∀ b ∈ bs, b.2.good) ∧
  SqL K H m (zs.map (·.1)) ∧ DsAt K H zs ∧ zs.length < 64 ∧ (∀ z ∈ zs, z.2.ws.length ≤ 1000 ∧ ∀ p ∈ z.2.ws, wgood p.2) ∧ LamX.Tabs (TT a) H ∧ ∀ H', LM.Ex (TT a) H H' → LamX.Tabs (TT a) H' → Q (.bl (readsB (bs.map (·.2)) (zs.map (·.2)))) H'
/-! ### rows of a list that is let by -/
mutual
theorem Gd.dp {K : PySem.W.Frag} {H : Hp} : ∀ {v : V} {d : PyData}, Gd K H v d → d.hasDict = false → Dp K H v d
  | _, _, .non, _ => .non
  | _, _, .bl b, _ => .bl b
  | _, _, .int i, _ => .int i
  | _, _, .str x _, _ => .str x
  | _, _, .dict _, h => absurd h (by simp [PyData.hasDict])
  | _, _, .lst h _ hs, e => .lst h (GdAll.dp hs (by simpa [PyData.hasDict] using e))
  | _, _, .tup h hs, e => .tup h (GdAll.dp hs (by simpa [PyData.hasDict] using e))
theorem GdAll.dp {K : PySem.W.Frag} {H : Hp} : ∀ {vs : List V} {ds : List PyData}, GdAll K H vs ds → PyData.hasDictAll ds = false → DpAll K H vs ds
  | _, _, .nil, _ => .nil
  | _, _, .cons h hs, e => by
    simp only [PyData.hasDictAll, Bool.or_eq_false_iff] at e
    exact .cons (h.dp e.1) (hs.dp e.2)
end
theorem nodict_map {α : Type} (f : α → PyData) (h : ∀ x, (f x).hasDict = false) : ∀ l : List α, PyData.hasDictAll (l.map f) = false
  | [] => rfl
  | x :: r => by
    rw [List.map_cons]
    simp only [PyData.hasDictAll, h x, nodict_map f h r, Bool.or_self]
theorem nodict_wo (w : List Int) : (woD w).hasDict = false := by
  unfold woD
  simp only [PyData.hasDict]
  exact nodict_map _ (fun _ => rfl) w
theorem nodict_ow (w : Option (List Int)) : (owD w).hasDict = false := by
  cases w with
  | none => rfl
  | some w => exact nodict_wo w
theorem nodict_row (r : Row) : r.d.hasDict = false := by
  cases r with
  | deal d =>
    have h1 : PyData.hasDictAll (d.rs.map rpD) = false := nodict_map _ (fun p => by
      unfold rpD
      simp only [PyData.hasDict, PyData.hasDictAll, nodict_ow, Bool.or_self]) _
    have h2 : PyData.hasDictAll (d.ws.map wpD) = false := nodict_map _ (fun p => by
      unfold wpD
      simp only [PyData.hasDict, PyData.hasDictAll, nodict_wo, Bool.or_self]) _
    have h3 : PyData.hasDictAll (d.st.map PyData.int) = false := nodict_map _ (fun _ => rfl) _
    show d.d.hasDict = false
    unfold Deal.d
    simp only [PyData.hasDict, PyData.hasDictAll, h1, h2, h3, Bool.or_self]
  | form t f => rfl
  | read n a t k w =>
    show PyData.hasDict (.tuple [.str (rwName n), .int a, .int t, .str k, owD w]) = false
    simp only [PyData.hasDict, PyData.hasDictAll, nodict_ow, Bool.or_self]
theorem gd_deal_len {K : PySem.W.Frag} {H : Hp} {v : V} {d : Deal} (h : Gd K H v d.d) : d.rs.length ≤ 1000 ∧ d.ws.length ≤ 1000 := by
  obtain ⟨q, zs, rfl, hq, hx⟩ := Gd.tupI h
  obtain ⟨a1, r, rfl, h1, hx⟩ := gd_consI hx
  obtain ⟨a2, r, rfl, h2, hx⟩ := gd_consI hx
  obtain ⟨a3, r, rfl, h3, hx⟩ := gd_consI hx
  obtain ⟨a4, r, rfl, h4, hx⟩ := gd_consI hx
  obtain ⟨a5, r, rfl, h5, hx⟩ := gd_consI hx
  obtain ⟨a6, r, rfl, h6, hx⟩ := gd_consI hx
  obtain ⟨a7, r, rfl, h7, hx⟩ := gd_consI hx
  obtain ⟨_, xs, _, _, l1, g1⟩ := h6.lstI
  obtain ⟨_, ys, _, _, l2, g2⟩ := h7.lstI
  have e1 := g1.len
  have e2 := g2.len
  rw [List.length_map] at e1 e2
  omega
/-- a list's rows, all let by -/
theorem rows_let {K : PySem.W.Frag} {H : Hp} {xs : List V} {ds : List PyData} (hg : GdAll K H xs ds) (h : ds.all rowLook = true) :
    ∃ bs : List (V × Row), xs = bs.map (·.1) ∧ ds.map rowOf = bs.map (·.2) ∧ RsAt K H bs ∧ (∀ b ∈ bs, b.2.good) ∧ ∀ b ∈ bs, ∀ d, b.2 = .deal d → d.rs.length ≤ 1000 ∧ d.ws.length ≤ 1000 := by
  obtain ⟨rs, rfl, hgood⟩ := rows_of h
  have hd := hg.dp (nodict_map _ nodict_row rs)
  obtain ⟨bs, e1, e2, e3⟩ := sides hd
  refine ⟨bs, e1, by rw [rowOf_all, e2], e3, fun b hb => hgood _ (by rw [e2]; exact List.mem_map_of_mem hb), ?_⟩
  have : ∀ {vs : List V} {rs : List Row}, GdAll K H vs (rs.map Row.d) → ∀ r ∈ rs, ∀ d, r = .deal d → d.rs.length ≤ 1000 ∧ d.ws.length ≤ 1000 := by
    intro vs rs
    induction rs generalizing vs with
    | nil => intro _ r hr; cases hr
    | cons x l ih =>
      intro h r hr d e
      obtain ⟨v, r', rfl, g1, g2⟩ := gd_consI h
      rcases List.mem_cons.mp hr with rfl | hr
      · subst e
        exact gd_deal_len g1
      · exact ih g2 r hr d e
  intro b hb d e
  exact this hg b.2 (by rw [e2]; exact List.mem_map_of_mem hb) d e
theorem dealsV_of {bs : List (V × Row)} {z : V × Deal} (h : z ∈ dealsV bs) : (z.1, Row.deal z.2) ∈ bs := by
  obtain ⟨b, hb, e⟩ := List.mem_filterMap.mp h
  obtain ⟨v, row⟩ := b
  cases row with
  | deal d =>
    cases e
    exact hb
  | form t f => cases e
  | read n a t k w => cases e
/-- fewer than 64 rows, where it is a list -/
def Few : PyData → Prop
  | .list ds => ds.length < 64
  | _ => True
def spOrd (K : PySem.W.Frag) (a : Nat → Addr) : Sp := fun vs H Q _ => ∃ (v : V) (d : PyData), vs = [v] ∧ Gd K H v d ∧ Few d ∧ LamX.Tabs (TT a) H ∧ ∀ H', LM.Ex (TT a) H H' → LamX.Tabs (TT a) H' → Q (.bl (ordD d)) H'
def numsOf (d : PyData) : List Int := match d with
  | .list ds => (srt (dealsOf (ds.map rowOf))).map (·.num)
  | _ => []
/-- not told of, but as a table -/
def Fr (H : Hp) (p : Addr) : Prop := ∀ o, H p = some o → ∃ ps, o = .tbl ps
theorem Fr.of {H H1 : Hp} {p : Addr} (k : LamX.ExtN H H1) (h : H1 p = none) : Fr H p := fun o e => by
  cases o with
  | tbl ps => exact ⟨ps, rfl⟩
  | _ =>
    have := k _ _ e fun _ z => by cases z
    rw [h] at this
    cases this

theorem ok_is_whole {P : Program} {w : World} {K : PySem.W.Frag} {mg : Str → Option Value} {base : Heap} {a : Nat → Addr} {d : Nat → FuncData} (T : Txt K mg a d) : FnOk P w K mg base CX0 1 (a 0) (d 0) ["thing"] (spWholeG K) := by
  refine T.F_is_whole.ok sc_is_whole (fun vs H Q E h => ?_) (fun cdv A outer s0 H vs Q E hr h => ?_)
  · obtain ⟨v, d', rfl, hg, q⟩ := h
    rfl
  · obtain ⟨v, d', rfl, hg, q⟩ := h
    refine ⟨_, (pss_one (ps_ret (pe_and (pe_callB call_isi (by rfl) T.z_isinstance (by decide +kernel) (pa_cons (pv 0) (pa_cons (pe_bltn (v := .ty "int") (by rfl) T.z_int (by decide +kernel) rfl) pa_nil))) (pe_one (pe_not (pe_callB call_isi (by rfl) T.z_isinstance (by decide +kernel) (pa_cons (pv 0) (pa_cons (pe_bltn (v := .ty "bool") (by rfl) T.z_bool (by decide +kernel) rfl) pa_nil)))))))), ?_⟩
    obtain ⟨t, ty, k⟩ := hg.ty
    refine ⟨_, rfl, v, .ty "int", t, .type "int", isI d', rfl, .ty "int", ty, k.i, _, rfl, ?_⟩
    have e : wholeD d' = (isI d' && !isB d') := by cases d' <;> rfl
    rw [e] at q
    cases c : isI d' with
    | false =>
      rw [c] at q
      exact iteF q
    | true =>
      rw [c] at q
      exact iteT ⟨_, rfl, v, .ty "bool", t, .type "bool", isB d', rfl, .ty "bool", ty, k.b, _, rfl, q⟩

theorem ok_is_from_to {P : Program} {w : World} {K : PySem.W.Frag} {mg : Str → Option Value} {base : Heap} {a : Nat → Addr} {d : Nat → FuncData} (T : Txt K mg a d) : FnOk P w K mg base CX0 1 (a 1) (d 1) ["thing", "least", "most"] (spFromG K) := by
  refine T.F_is_from_to.ok sc_is_from_to (fun vs H Q E h => ?_) (fun cdv A outer s0 H vs Q E hr h => ?_)
  · obtain ⟨v, d', lo, hi, rfl, hg, q⟩ := h
    rfl
  · obtain ⟨v, d', lo, hi, rfl, hg, q⟩ := h
    refine ⟨_, (pss_one (ps_ret (pe_and (pe_callB call_isi (by rfl) T.z_isinstance (by decide +kernel) (pa_cons (pv 0) (pa_cons (pe_bltn (v := .ty "int") (by rfl) T.z_int (by decide +kernel) rfl) pa_nil))) (pe_and (pe_not (pe_callB call_isi (by rfl) T.z_isinstance (by decide +kernel) (pa_cons (pv 0) (pa_cons (pe_bltn (v := .ty "bool") (by rfl) T.z_bool (by decide +kernel) rfl) pa_nil)))) (pe_one (pe_chain op_le op_le (pv 1) (pv 0) (pv 2))))))), ?_⟩
    obtain ⟨t, ty, k⟩ := hg.ty
    refine ⟨_, rfl, v, .ty "int", t, .type "int", isI d', rfl, .ty "int", ty, k.i, _, rfl, ?_⟩
    have e : wholeD d' = (isI d' && !isB d') := by cases d' <;> rfl
    have no : wholeD d' = false → fromToD lo hi d' = false := fun z => by cases d' <;> first | rfl | cases z
    cases c : isI d' with
    | false => exact iteF (bq (Q := Q) (no (by rw [e, c]; rfl)) q)
    | true =>
      refine iteT ⟨_, rfl, v, .ty "bool", t, .type "bool", isB d', rfl, .ty "bool", ty, k.b, _, rfl, _, rfl, ?_⟩
      cases b : isB d' with
      | true => exact iteF (bq (Q := Q) (no (by rw [e, c, b]; rfl)) q)
      | false =>
        obtain ⟨i, rfl⟩ := whole_int (show wholeD d' = true by rw [e, c, b]; rfl)
        cases hg.intI
        refine iteT ⟨_, rfl, _, rfl, lo, i, rfl, rfl, _, rfl, ?_⟩
        by_cases h1 : lo ≤ i
        · refine iteDT h1 ⟨_, rfl, i, hi, rfl, rfl, ?_⟩
          refine bq (Q := Q) ?_ q
          show (decide (lo ≤ i) && decide (i ≤ hi)) = _
          rw [decide_eq_true h1, Bool.true_and]
        · refine iteDF h1 ?_
          refine bq (Q := Q) ?_ q
          show (decide (lo ≤ i) && decide (i ≤ hi)) = _
          rw [decide_eq_false h1, Bool.false_and]

theorem ok_is_row_of_whole {P : Program} {w : World} {K : PySem.W.Frag} {mg : Str → Option Value} {base : Heap} {a : Nat → Addr} {d : Nat → FuncData} (T : Txt K mg a d) : FnOk P w K mg base CX0 1 (a 2) (d 2) ["thing", "least", "most"] (spRowG K) := by
  refine T.F_is_row_of_whole.ok sc_is_row_of_whole (fun vs H Q E h => ?_) (fun cdv A outer s0 H vs Q E hr h => ?_)
  · obtain ⟨v, d', lo, hi, rfl, hg, q⟩ := h
    rfl
  · obtain ⟨v, d', lo, hi, rfl, hg, q⟩ := h
    refine ⟨_, (pss_cons (ps_if (PW.pt (pw_or (pt_not (pt_truth (pe_callB call_isi (by rfl) T.z_isinstance (by decide +kernel) (pa_cons (pv 0) (pa_cons (pe_bltn (v := .ty "tuple") (by rfl) T.z_tuple (by decide +kernel) rfl) pa_nil))) (by intro _; rfl))) (pw_or1 (pt_not (pt_chain op_le op_le (pv 1) (pe_callB call_len_seq (by rfl) T.z_len PySem.boot_len (pa_cons (pv 0) pa_nil)) (pv 2)))))) (pss_one (ps_ret pe_bl)) pss_nil) (pss_cons (ps_for PassesOwn.never rfl (pi_tup (pv 0)) (pg_name (i := 3) sc_is_row_of_whole.nd rfl (.inl rfl)) (pss_one (ps_if (PW.pt (pw_or (pt_not (pt_truth (pe_callB call_isi (by rfl) T.z_isinstance (by decide +kernel) (pa_cons (pv 3) (pa_cons (pe_bltn (v := .ty "int") (by rfl) T.z_int (by decide +kernel) rfl) pa_nil))) (by intro _; rfl))) (pw_or1 (pt_truth (pe_callB call_isi (by rfl) T.z_isinstance (by decide +kernel) (pa_cons (pv 3) (pa_cons (pe_bltn (v := .ty "bool") (by rfl) T.z_bool (by decide +kernel) rfl) pa_nil))) (by intro _; rfl))))) (pss_one (ps_ret pe_bl)) pss_nil))) (pss_one (ps_ret pe_bl)))), ?_⟩
    obtain ⟨t, ty, k⟩ := hg.ty
    refine ⟨_, rfl, v, .ty "tuple", t, .type "tuple", isTup d', rfl, .ty "tuple", ty, k.t, _, rfl, ?_⟩
    cases c : isTup d' with
    | false => exact iteT (bq (Q := Q) (rowD_no c) q)
    | true =>
      refine iteF ?_
      obtain ⟨ds, rfl⟩ := istup c
      obtain ⟨p, xs, rfl, hS, hall⟩ := hg.tupI
      have hlen := hall.len
      refine ⟨_, rfl, _, rfl, p, _, rfl, .inr hS, lo, _, rfl, rfl, _, rfl, ?_⟩
      by_cases h1 : lo ≤ (xs.length : Int)
      · refine iteDT h1 ⟨_, rfl, _, hi, rfl, rfl, _, rfl, ?_⟩
        by_cases h2 : (xs.length : Int) ≤ hi
        · refine iteNS h2 ?_
          refine ⟨_, rfl, p, rfl, ⟨_, hS⟩, ?_⟩
          refine for_tup (K := K) (a := p) (xs := xs) (fun i σ H' => H' = H ∧ (ds.take i).all wholeD = true ∧ ∃ z : Option V, σ = [some (.ref p), some (.int lo), some (.int hi), z]) ⟨rfl, rfl, none, rfl⟩ (fun i σ H' _ z => by rw [z.1]; exact hS) ?_ ?_
          · rintro i x σ H' hx ⟨rfl, hT, z, rfl⟩
            obtain ⟨e, he, hd⟩ := hall.get hx
            obtain ⟨t', ty', k'⟩ := hd.ty
            have ew : wholeD e = (isI e && !isB e) := by cases e <;> rfl
            have no : wholeD e = false → rowD lo hi (.tuple ds) = false := fun z => by
              simp only [rowD, mem_notall he z, Bool.and_false]
            refine ⟨_, rfl, x, .ty "int", t', .type "int", isI e, rfl, .ty "int", ty', k'.i, _, rfl, ?_⟩
            cases ci : isI e with
            | false => exact iteT (bq (Q := Q) (no (by rw [ew, ci]; rfl)) q)
            | true =>
              refine iteF ⟨_, rfl, x, .ty "bool", t', .type "bool", isB e, rfl, .ty "bool", ty', k'.b, _, rfl, ?_⟩
              cases cb : isB e with
              | true => exact iteT (bq (Q := Q) (no (by rw [ew, ci, cb]; rfl)) q)
              | false => exact iteF ⟨rfl, take_all hT he (by rw [ew, ci, cb]; rfl), _, rfl⟩
          · rintro σ H' ⟨rfl, hT, z, rfl⟩
            refine bq (Q := Q) ?_ q
            rw [hlen, List.take_length] at hT
            simp only [rowD, hT, Bool.and_true]
            rw [decide_eq_true (by omega), decide_eq_true (by omega)]
            rfl
        · refine iteND h2 ?_
          refine bq (Q := Q) ?_ q
          simp only [rowD]
          rw [decide_eq_false (p := (ds.length : Int) ≤ hi) (by omega), Bool.and_false, Bool.false_and]
      · refine iteDF h1 ⟨false, rfl, iteT ?_⟩
        refine bq (Q := Q) ?_ q
        simp only [rowD]
        rw [decide_eq_false (p := lo ≤ (ds.length : Int)) (by omega), Bool.false_and, Bool.false_and]

theorem ok_is_stamp {P : Program} {w : World} {K : PySem.W.Frag} {mg : Str → Option Value} {base : Heap} {a : Nat → Addr} {d : Nat → FuncData} (T : Txt K mg a d) : FnOk P w K mg base CX0 2 (a 3) (d 3) ["thing"] (spLook K stampD) := by
  refine T.F_is_stamp.ok sc_is_stamp (fun vs H Q E h => ?_) (fun cdv A outer s0 H vs Q E hr h => ?_)
  · obtain ⟨v, d', rfl, hg, q⟩ := h
    rfl
  · obtain ⟨v, d', rfl, hg, q⟩ := h
    refine ⟨_, (pss_one (ps_ret (pe_and (pe_call (ok_is_row_of_whole T) (hr.mono (by decide)) (by rfl) T.g_is_row_of_whole T.F_is_row_of_whole.kp T.b_is_row_of_whole .nil pass0 (pa_cons (pv 0) (pa_cons pe_int (pa_cons pe_int pa_nil)))) (pe_and (pe_cmpR op_ge (pe_ix ix_tup (pv 0) pe_int (fun _ _ => rfl)) pe_int (nomark _)) (pe_one (pe_cmpR op_ge (pe_ix ix_tup (pv 0) pe_int (fun _ _ => rfl)) pe_int (nomark _))))))), ?_⟩
    refine ⟨_, rfl, v, d', 3, 3, rfl, hg, _, rfl, ?_⟩
    unfold stampD at q
    cases c : rowD 3 3 d' with
    | false =>
      rw [c, Bool.false_and] at q
      exact iteF q
    | true =>
      rw [c, Bool.true_and] at q
      obtain ⟨ns, rfl, l1, l2⟩ := row_ints c
      obtain ⟨x, y, z, rfl⟩ : ∃ x y z, ns = [x, y, z] := by
        match ns, l1, l2 with
        | [x, y, z], _, _ => exact ⟨x, y, z, rfl⟩
        | [], h, _ => simp at h
        | [_], h, _ => simp at h
        | [_, _], h, _ => simp at h
        | _ :: _ :: _ :: _ :: _, _, h => simp at h; omega
      obtain ⟨p, xs, rfl, hS, hall⟩ := hg.tupI
      obtain ⟨rfl⟩ : xs = [.int x, .int y, .int z] := by
        cases hall with
        | cons h1 r =>
          cases h1
          cases r with
          | cons h2 r =>
            cases h2
            cases r with
            | cons h3 r =>
              cases h3
              cases r
              rfl
      refine iteT ⟨_, rfl, p, _, 1, _, rfl, rfl, hS, atI_nat (j := 1) rfl, y, 0, rfl, rfl, _, rfl, ?_⟩
      have q : Q (.bl (decide (0 ≤ y) && decide (0 ≤ z))) H := q
      by_cases hy : 0 ≤ y
      · rw [decide_eq_true hy, Bool.true_and] at q
        exact iteDT hy ⟨_, rfl, p, _, 2, _, rfl, rfl, hS, atI_nat (j := 2) rfl, z, 0, rfl, rfl, q⟩
      · rw [decide_eq_false hy, Bool.false_and] at q
        exact iteDF hy q

theorem ok_is_key {P : Program} {w : World} {K : PySem.W.Frag} {mg : Str → Option Value} {base : Heap} {a : Nat → Addr} {d : Nat → FuncData} (T : Txt K mg a d) : FnOk P w K mg base CX0 1 (a 4) (d 4) ["thing"] (spLook K keyD) := by
  refine T.F_is_key.ok sc_is_key (fun vs H Q E h => ?_) (fun cdv A outer s0 H vs Q E hr h => ?_)
  · obtain ⟨v, d', rfl, hg, q⟩ := h
    rfl
  · obtain ⟨v, d', rfl, hg, q⟩ := h
    refine ⟨_, (pss_cons (ps_if (PW.pt (pw_or (pt_not (pt_truth (pe_callB call_isi (by rfl) T.z_isinstance (by decide +kernel) (pa_cons (pv 0) (pa_cons (pe_bltn (v := .ty "str") (by rfl) T.z_str (by decide +kernel) rfl) pa_nil))) (by intro _; rfl))) (pw_or1 (pt_not (pt_chain op_le op_le pe_int (pe_callB call_len_str (by rfl) T.z_len PySem.boot_len (pa_cons (pv 0) pa_nil)) (pe_glob (v := .int (6)) (by rfl) (Exists.choose_spec T.g_MOST_LETTERS) ⟨_, rfl⟩)))))) (pss_one (ps_ret pe_bl)) pss_nil) (pss_one (ps_ret (pe_cmpR op_eq (pe_bm PySem.F.plainAttrs_str PySem.F.slot_str_strip PySem.F.type_str_strip mt_stripChars (pv 0) (pa_cons (pe_glob (v := .str "abcdefghijklmnopqrstuvwxyz") (by rfl) (Exists.choose_spec T.g_LETTERS) ⟨_, rfl⟩) pa_nil)) pe_str (nomark _))))), ?_⟩
    obtain ⟨t, ty, k⟩ := hg.ty
    refine ⟨_, rfl, v, .ty "str", t, .type "str", isStr d', rfl, .ty "str", ty, k.s, _, rfl, ?_⟩
    cases c : isStr d' with
    | false => exact iteT (bq (Q := Q) (key_no c) q)
    | true =>
      refine iteF ?_
      obtain ⟨z, rfl⟩ := isstr c
      obtain ⟨rfl, hz⟩ := hg.strI
      have lz : z.length = z.cps.toList.length := (Array.length_toList (xs := z.cps)).symm
      refine ⟨_, rfl, z, rfl, Nat.le_trans hz (by decide), 1, _, rfl, rfl, _, rfl, ?_⟩
      by_cases h1 : (1 : Int) ≤ (z.length : Int)
      · refine iteDT h1 ⟨_, 6, rfl, rfl, _, rfl, ?_⟩
        by_cases h2 : (z.length : Int) ≤ (6 : Int)
        · refine iteNS h2 ?_
          have g1 : 1 ≤ z.cps.toList.length := by omega
          have g2 : z.cps.toList.length ≤ 6 := by omega
          refine ⟨_, rfl, rfl, z, _, rfl, rfl, Nat.le_trans hz (by decide), rfl, ?_⟩
          refine bq (Q := Q) ?_ q
          rw [strip_key]
          simp only [keyD, g1, g2, decide_true, Bool.true_and]
        · refine iteND h2 ?_
          refine bq (Q := Q) ?_ q
          have g2 : ¬ z.cps.toList.length ≤ 6 := by omega
          simp only [keyD, g2, decide_false, Bool.false_and, Bool.and_false]
      · refine iteDF h1 ⟨false, rfl, iteT ?_⟩
        refine bq (Q := Q) ?_ q
        have g2 : ¬ 1 ≤ z.cps.toList.length := by omega
        simp only [keyD, g2, decide_false, Bool.false_and]

theorem ok_is_worth {P : Program} {w : World} {K : PySem.W.Frag} {mg : Str → Option Value} {base : Heap} {a : Nat → Addr} {d : Nat → FuncData} (T : Txt K mg a d) : FnOk P w K mg base CX0 2 (a 5) (d 5) ["thing"] (spLook K wthD) := by
  refine T.F_is_worth.ok sc_is_worth (fun vs H Q E h => ?_) (fun cdv A outer s0 H vs Q E hr h => ?_)
  · obtain ⟨v, d', rfl, hg, q⟩ := h
    rfl
  · obtain ⟨v, d', rfl, hg, q⟩ := h
    refine ⟨_, (pss_one (ps_ret (pe_call (ok_is_row_of_whole T) (hr.mono (by decide)) (by rfl) T.g_is_row_of_whole T.F_is_row_of_whole.kp T.b_is_row_of_whole .nil pass0 (pa_cons (pv 0) (pa_cons pe_int (pa_cons (pe_glob (v := .int (4)) (by rfl) (Exists.choose_spec T.g_MOST_FIELDS) ⟨_, rfl⟩) pa_nil)))))), ?_⟩
    exact ⟨_, rfl, v, d', 1, 4, rfl, hg, q⟩

theorem ok_is_told_worth {P : Program} {w : World} {K : PySem.W.Frag} {mg : Str → Option Value} {base : Heap} {a : Nat → Addr} {d : Nat → FuncData} (T : Txt K mg a d) : FnOk P w K mg base CX0 3 (a 11) (d 11) ["thing", "or_none"] (spToldG K) := by
  refine T.F_is_told_worth.ok sc_is_told_worth (fun vs H Q E h => ?_) (fun cdv A outer s0 H vs Q E hr h => ?_)
  · obtain ⟨v, d', o, rfl, hg, q⟩ := h
    rfl
  · obtain ⟨v, d', o, rfl, hg, q⟩ := h
    refine ⟨_, (pss_one (ps_ret (pe_or (pe_call (ok_is_worth T) (hr.mono (by decide)) (by rfl) T.g_is_worth T.F_is_worth.kp T.b_is_worth .nil pass0 (pa_cons (pv 0) pa_nil)) (pe_one (pe_and (pv 1) (pe_one (pe_cmpR op_isN (pv 0) pe_non (nomark _)))))))), ?_⟩
    refine ⟨_, rfl, v, d', rfl, hg, _, rfl, ?_⟩
    unfold toldD at q
    cases c : wthD d' with
    | true =>
      rw [c, Bool.true_or] at q
      exact iteT q
    | false =>
      rw [c, Bool.false_or] at q
      refine iteF ⟨_, rfl, _, rfl, ?_⟩
      cases o with
      | false => exact iteF q
      | true =>
        rw [Bool.true_and] at q
        refine iteT ⟨_, rfl, rfl, ?_⟩
        exact bq (Q := Q) (noneD_dec hg).symm q

theorem ok_is_list_of_pairs {P : Program} {w : World} {K : PySem.W.Frag} {mg : Str → Option Value} {base : Heap} {a : Nat → Addr} {d : Nat → FuncData} (T : Txt K mg a d) : FnOk P w K mg base CX0 4 (a 12) (d 12) ["thing", "or_none"] (spPairsG K) := by
  refine T.F_is_list_of_pairs.ok sc_is_list_of_pairs (fun vs H Q E h => ?_) (fun cdv A outer s0 H vs Q E hr h => ?_)
  · obtain ⟨v, d', o, rfl, hg, q⟩ := h
    rfl
  · obtain ⟨v, d', o, rfl, hg, q⟩ := h
    refine ⟨_, (pss_cons (ps_if (pt_not (pt_truth (pe_callB call_isi (by rfl) T.z_isinstance (by decide +kernel) (pa_cons (pv 0) (pa_cons (pe_bltn (v := .ty "list") (by rfl) T.z_list (by decide +kernel) rfl) pa_nil))) (by intro _; rfl))) (pss_one (ps_ret pe_bl)) pss_nil) (pss_one (ps_ret (pe_callB (cr_all rfl) (by rfl) T.z_all (by decide +kernel) (pa_cons (pe_lc (own := [("pair", 2)]) (g := gName 2) (te := (tAndV (tCB (rIsi K) (tCons (tVar 2) (tCons (tC (.ty "tuple")) tNil))) (tAndV (tOp rEq (tCB (fun xs H Q => ∃ p ys, xs = [.ref p] ∧ (SqL K H p ys ∨ SqT K H p ys) ∧ Q (.int ys.length) H) (tCons (tVar 2) tNil)) (tC (.int 2))) (tAndV (tCall (spLook K keyD) [] E0 (tCons (tOp (rIxT K) (tVar 2) (tC (.int 0))) tNil)) (tCall (spToldG K) [] E0 (tCons (tOp (rIxT K) (tVar 2) (tC (.int 1))) (tCons (tVar 1) tNil))))))) (by rfl) sc_is_list_of_pairs.nd (pi_list (pv 0)) (blkOk_by (own := [("pair", 2)]) (N := ["thing", "or_none", "pair"]) (sc := defScope s_is_list_of_pairs) (by decide +kernel)) (fun _ _ _ _ _ => (pg_name (i := 2) sc_is_list_of_pairs.nd rfl (.inl rfl))) (fun _ _ _ _ _ => pts_nil) (fun _ _ _ _ _ => (pe_and (pe_callB call_isi (by rfl) T.z_isinstance (by decide +kernel) (pa_cons (pv 2) (pa_cons (pe_bltn (v := .ty "tuple") (by rfl) T.z_tuple (by decide +kernel) rfl) pa_nil))) (pe_and (pe_cmpR op_eq (pe_callB call_len_seq (by rfl) T.z_len PySem.boot_len (pa_cons (pv 2) pa_nil)) pe_int (nomark _)) (pe_and (pe_call (ok_is_key T) (hr.mono (by decide)) (by rfl) T.g_is_key T.F_is_key.kp T.b_is_key .nil pass0 (pa_cons (pe_ix ix_tup (pv 2) pe_int (fun _ _ => rfl)) pa_nil)) (pe_one (pe_call (ok_is_told_worth T) (hr.mono (by decide)) (by rfl) T.g_is_told_worth T.F_is_told_worth.kp T.b_is_told_worth .nil pass0 (pa_cons (pe_ix ix_tup (pv 2) pe_int (fun _ _ => rfl)) (pa_cons (pv 1) pa_nil))))))))) pa_nil))))), ?_⟩
    obtain ⟨t, ty, k⟩ := hg.ty
    refine ⟨_, rfl, v, .ty "list", t, .type "list", isL d', rfl, .ty "list", ty, k.l, _, rfl, ?_⟩
    cases c : isL d' with
    | false =>
      refine iteT (bq (Q := Q) ?_ (q H (Same.refl H)))
      cases d' <;> first | rfl | cases c
    | true =>
      refine iteF ?_
      obtain ⟨ds, rfl⟩ := islst c
      obtain ⟨l, xs, rfl, hl, hlm, hall⟩ := hg.lstI
      have hlen := hall.len
      refine ⟨_, rfl, l, rfl, ⟨_, hl⟩, fun D nD => ?_⟩
      refine lc_list (K := K) (a := l) (xs := xs) (fun j H' => Same H H' ∧ H' D = some (.lst ((ds.take j).map fun d => V.bl (pairD o d)))) ⟨same_new (Same.refl H) nD, upd_same⟩ (fun j H' _ z => z.1.seq hl) ?_ ?_
      · rintro j u HA hj ⟨sA, hD⟩
        obtain ⟨e, he, hd⟩ := hall.get hj
        have hd := hd.same sA
        obtain ⟨t', ty', k'⟩ := hd.ty
        have fin : ∀ b, pairD o e = b → ∃ acc, HA D = some (.lst acc) ∧ acc.length < sizeLine ∧ (Same H (upd HA D (.lst (acc ++ [V.bl b]))) ∧ (upd HA D (.lst (acc ++ [V.bl b]))) D = some (.lst ((ds.take (j + 1)).map fun d => V.bl (pairD o d)))) := by
          rintro b rfl
          refine ⟨_, hD, ?_, fun b o w => ?_, ?_⟩
          · rw [List.length_map, List.length_take]
            have := (List.getElem?_eq_some_iff.mp hj).1
            exact Nat.lt_of_lt_of_le (show _ < 1001 by omega) (by decide)
          · rw [upd_ne (ne_of_none w nD)]
            exact sA _ _ w
          · rw [upd_same, List.take_add_one, he, List.map_append]
            rfl
        refine ⟨rfl, _, rfl, u, .ty "tuple", t', .type "tuple", isTup e, rfl, .ty "tuple", ty', k'.t, _, rfl, ?_⟩
        cases ct : isTup e with
        | false => exact iteF (fin false (by cases e <;> first | rfl | cases ct))
        | true =>
          obtain ⟨es, rfl⟩ := istup ct
          obtain ⟨p, ys, rfl, hp, hys⟩ := hd.tupI
          have hyl := hys.len
          refine iteT ⟨_, rfl, p, ys, rfl, .inr hp, rfl, _, rfl, ?_⟩
          by_cases h2 : V.int (ys.length : Int) = V.int 2
          · have h2' : es.length = 2 := by have := V.int.inj h2; omega
            obtain ⟨x, y, rfl⟩ : ∃ x y, es = [x, y] := by
              match es, h2' with
              | [x, y], _ => exact ⟨x, y, rfl⟩
            obtain ⟨a1, r1, rfl, g1, hys⟩ : ∃ a r, ys = a :: r ∧ Gd K HA a x ∧ GdAll K HA r [y] := by
              cases hys with
              | cons a b => exact ⟨_, _, rfl, a, b⟩
            obtain ⟨a2, r2, rfl, g2, hys⟩ : ∃ a r, r1 = a :: r ∧ Gd K HA a y ∧ GdAll K HA r [] := by
              cases hys with
              | cons a b => exact ⟨_, _, rfl, a, b⟩
            cases hys
            refine iteDT h2 ⟨_, rfl, p, _, 0, _, rfl, rfl, SqT.of' hp, atI_nat (j := 0) rfl, a1, x, rfl, g1, _, rfl, ?_⟩
            cases ck : keyD x with
            | false =>
              refine iteF (fin false ?_)
              show (keyD x && toldD o y) = false
              rw [ck]
              rfl
            | true =>
              refine iteT ⟨_, rfl, p, _, 1, _, rfl, rfl, SqT.of' hp, atI_nat (j := 1) rfl, _, rfl, a2, y, o, rfl, g2, ?_⟩
              refine fin _ ?_
              show (keyD x && toldD o y) = _
              rw [ck, Bool.true_and]
          · refine iteDF h2 (fin false ?_)
            match es, hyl with
            | [], _ => rfl
            | [x], _ => rfl
            | [x, y], h => exact absurd (by rw [h]; rfl) h2
            | x :: y :: z :: r, _ => rfl
      · rintro HA ⟨sA, hD⟩
        rw [hlen, List.take_length] at hD
        refine ⟨D, ds.map (pairD o), rfl, SqL.of (by rw [hD, List.map_map]; rfl), ?_⟩
        refine bq (Q := Q) ?_ (q HA sA)
        rw [List.all_map]
        rfl

theorem ok_is_read_row {P : Program} {w : World} {K : PySem.W.Frag} {mg : Str → Option Value} {base : Heap} {a : Nat → Addr} {d : Nat → FuncData} (T : Txt K mg a d) : FnOk P w K mg base CX0 4 (a 10) (d 10) ["row"] (spRows5 K readD 5) := by
  refine T.F_is_read_row.ok sc_is_read_row (fun vs H Q E h => ?_) (fun cdv A outer s0 H vs Q E hr h => ?_)
  · obtain ⟨p, xs, ds, rfl, hp, hall, h5, q⟩ := h
    rfl
  · obtain ⟨p, xs, ds, rfl, hp, hall, h5, q⟩ := h
    refine ⟨_, (pss_cons (ps_asg (pv 0) (pg_tup (by rfl) (pgs_cons (pg_name (i := 1) sc_is_read_row.nd rfl (.inl rfl)) (pgs_cons (pg_name (i := 2) sc_is_read_row.nd rfl (.inl rfl)) (pgs_cons (pg_name (i := 3) sc_is_read_row.nd rfl (.inl rfl)) (pgs_cons (pg_name (i := 4) sc_is_read_row.nd rfl (.inl rfl)) (pgs_cons (pg_name (i := 5) sc_is_read_row.nd rfl (.inl rfl)) pgs_nil))))))) (pss_one (ps_ret (pe_and (pe_call (ok_is_whole T) (hr.mono (by decide)) (by rfl) T.g_is_whole T.F_is_whole.kp T.b_is_whole .nil pass0 (pa_cons (pv 2) pa_nil)) (pe_and (pe_call (ok_is_whole T) (hr.mono (by decide)) (by rfl) T.g_is_whole T.F_is_whole.kp T.b_is_whole .nil pass0 (pa_cons (pv 3) pa_nil)) (pe_and (pe_call (ok_is_key T) (hr.mono (by decide)) (by rfl) T.g_is_key T.F_is_key.kp T.b_is_key .nil pass0 (pa_cons (pv 4) pa_nil)) (pe_one (pe_call (ok_is_told_worth T) (hr.mono (by decide)) (by rfl) T.g_is_told_worth T.F_is_told_worth.kp T.b_is_told_worth .nil pass0 (pa_cons (pv 5) (pa_cons pe_bl pa_nil)))))))))), ?_⟩
    have q := q H (Same.refl H)
    obtain ⟨w, a', t, k, u, rfl⟩ := len5 h5
    obtain ⟨v0, r, rfl, g0, hall⟩ := gd_consI hall
    obtain ⟨v1, r, rfl, g1, hall⟩ := gd_consI hall
    obtain ⟨v2, r, rfl, g2, hall⟩ := gd_consI hall
    obtain ⟨v3, r, rfl, g3, hall⟩ := gd_consI hall
    obtain ⟨v4, r, rfl, g4, hall⟩ := gd_consI hall
    cases hall
    refine ⟨_, rfl, p, _, rfl, hp, rfl, _, _, rfl, _, _, rfl, _, _, rfl, _, _, rfl, _, _, rfl, rfl, ?_⟩
    refine ⟨_, rfl, v1, a', rfl, g1, _, rfl, ?_⟩
    have q : Q (.bl (wholeD a' && wholeD t && keyD k && toldD true u)) H := q
    cases c1 : wholeD a' with
    | false =>
      rw [c1] at q
      exact iteF q
    | true =>
      rw [c1, Bool.true_and] at q
      refine iteT ⟨_, rfl, v2, t, rfl, g2, _, rfl, ?_⟩
      cases c2 : wholeD t with
      | false =>
        rw [c2] at q
        exact iteF q
      | true =>
        rw [c2, Bool.true_and] at q
        refine iteT ⟨_, rfl, v3, k, rfl, g3, _, rfl, ?_⟩
        cases c3 : keyD k with
        | false =>
          rw [c3] at q
          exact iteF q
        | true =>
          rw [c3, Bool.true_and] at q
          exact iteT ⟨_, rfl, v4, u, true, rfl, g4, q⟩

theorem ok_is_dealing_row {P : Program} {w : World} {K : PySem.W.Frag} {mg : Str → Option Value} {base : Heap} {a : Nat → Addr} {d : Nat → FuncData} (T : Txt K mg a d) : FnOk P w K mg base CX0 5 (a 9) (d 9) ["row"] (spRows5 K dealD 7) := by
  refine T.F_is_dealing_row.ok sc_is_dealing_row (fun vs H Q E h => ?_) (fun cdv A outer s0 H vs Q E hr h => ?_)
  · obtain ⟨p, xs, ds, rfl, hp, hall, h7, q⟩ := h
    rfl
  · obtain ⟨p, xs, ds, rfl, hp, hall, h7, q⟩ := h
    refine ⟨_, (pss_cons (ps_asg (pv 0) (pg_tup (by rfl) (pgs_cons (pg_name (i := 1) sc_is_dealing_row.nd rfl (.inl rfl)) (pgs_cons (pg_name (i := 2) sc_is_dealing_row.nd rfl (.inl rfl)) (pgs_cons (pg_name (i := 3) sc_is_dealing_row.nd rfl (.inl rfl)) (pgs_cons (pg_name (i := 4) sc_is_dealing_row.nd rfl (.inl rfl)) (pgs_cons (pg_name (i := 5) sc_is_dealing_row.nd rfl (.inl rfl)) (pgs_cons (pg_name (i := 6) sc_is_dealing_row.nd rfl (.inl rfl)) (pgs_cons (pg_name (i := 7) sc_is_dealing_row.nd rfl (.inl rfl)) pgs_nil))))))))) (pss_cons (ps_if (PW.pt (pw_or (pt_not (pt_truth (pe_callB (cr_all rfl) (by rfl) T.z_all (by decide +kernel) (pa_cons (pe_lc (own := [("part", 8)]) (g := gName 8) (te := (tCall (spWholeG K) [] E0 (tCons (tVar 8) tNil))) (by rfl) sc_is_dealing_row.nd (pi_tup (pe_tup (pa_cons (pv 2) (pa_cons (pv 3) (pa_cons (pv 4) pa_nil))))) (blkOk_by (own := [("part", 8)]) (N := ["row", "word", "number", "begun", "told", "stamp", "reads", "writes", "part"]) (sc := defScope s_is_dealing_row) (by decide +kernel)) (fun _ _ _ _ _ => (pg_name (i := 8) sc_is_dealing_row.nd rfl (.inl rfl))) (fun _ _ _ _ _ => pts_nil) (fun _ _ _ _ _ => (pe_call (ok_is_whole T) (hr.mono (by decide)) (by rfl) T.g_is_whole T.F_is_whole.kp T.b_is_whole .nil pass0 (pa_cons (pv 8) pa_nil)))) pa_nil)) (by intro _; rfl))) (pw_or1 (pt_not (pt_truth (pe_call (ok_is_stamp T) (hr.mono (by decide)) (by rfl) T.g_is_stamp T.F_is_stamp.kp T.b_is_stamp .nil pass0 (pa_cons (pv 5) pa_nil)) (by intro _; rfl)))))) (pss_one (ps_ret pe_bl)) pss_nil) (pss_one (ps_ret (pe_and (pe_call (ok_is_list_of_pairs T) (hr.mono (by decide)) (by rfl) T.g_is_list_of_pairs T.F_is_list_of_pairs.kp T.b_is_list_of_pairs .nil pass0 (pa_cons (pv 6) (pa_cons pe_bl pa_nil))) (pe_one (pe_call (ok_is_list_of_pairs T) (hr.mono (by decide)) (by rfl) T.g_is_list_of_pairs T.F_is_list_of_pairs.kp T.b_is_list_of_pairs .nil pass0 (pa_cons (pv 7) (pa_cons pe_bl pa_nil))))))))), ?_⟩
    obtain ⟨w, x1, x2, x3, s, rs, ws, rfl⟩ := len7 h7
    obtain ⟨v0, r, rfl, g0, hall⟩ := gd_consI hall
    obtain ⟨v1, r, rfl, g1, hall⟩ := gd_consI hall
    obtain ⟨v2, r, rfl, g2, hall⟩ := gd_consI hall
    obtain ⟨v3, r, rfl, g3, hall⟩ := gd_consI hall
    obtain ⟨v4, r, rfl, g4, hall⟩ := gd_consI hall
    obtain ⟨v5, r, rfl, g5, hall⟩ := gd_consI hall
    obtain ⟨v6, r, rfl, g6, hall⟩ := gd_consI hall
    cases hall
    have q : ∀ H', Same H H' → Q (.bl (wholeD x1 && wholeD x2 && wholeD x3 && stampD s && pairsD true rs && pairsD false ws)) H' := q
    refine ⟨_, rfl, p, _, rfl, hp, rfl, _, _, rfl, _, _, rfl, _, _, rfl, _, _, rfl, _, _, rfl, _, _, rfl, _, _, rfl, rfl, ?_⟩
    refine ⟨_, rfl, _, rfl, _, rfl, len3, fun t3 n3 => ?_⟩
    have s1 : Same H (upd H t3 (.tup [v1, v2, v3])) := same_new (Same.refl H) n3
    have h3 : (upd H t3 (.tup [v1, v2, v3])) t3 = some (.tup [v1, v2, v3]) := upd_same
    generalize (upd H t3 (.tup [v1, v2, v3])) = H1 at s1 h3 ⊢
    refine ⟨t3, rfl, ⟨_, SqT.of h3⟩, fun D nD => ?_⟩
    have g3' : GdAll K H1 [v1, v2, v3] [x1, x2, x3] := .cons (g1.same s1) (.cons (g2.same s1) (.cons (g3.same s1) .nil))
    refine lc_it (walk_tup (K := K) (a := t3) (xs := [v1, v2, v3])) (fun j H' => Same H1 H' ∧ H' D = some (.lst (([x1, x2, x3].take j).map fun d => V.bl (wholeD d)))) ⟨same_new (Same.refl H1) nD, upd_same⟩ (fun j H' _ z => same_sqt z.1 (SqT.of h3)) ?_ ?_
    · rintro j u HA HB hj ⟨sA, hD⟩ ⟨rfl, hv⟩
      obtain ⟨e, he, hd⟩ := g3'.get hv
      refine ⟨rfl, _, rfl, u, e, rfl, hd.same sA, _, hD, ?_, fun b o w => ?_, ?_⟩
      · rw [List.length_map, List.length_take]
        exact Nat.lt_of_le_of_lt (Nat.min_le_right _ _) (by show 3 < sizeLine; decide)
      · rw [upd_ne (ne_of_none w nD)]
        exact sA _ _ w
      · rw [upd_same, List.take_add_one, he, List.map_append]
        rfl
    · rintro HA ⟨sA, hD⟩
      have s2 := s1.trans sA
      refine ⟨D, [wholeD x1, wholeD x2, wholeD x3], rfl, SqL.of hD, _, rfl, ?_⟩
      have e3 : ([wholeD x1, wholeD x2, wholeD x3].all id) = (wholeD x1 && (wholeD x2 && wholeD x3)) := by simp
      cases c1 : (wholeD x1 && (wholeD x2 && wholeD x3)) with
      | false =>
        refine iteNB (e3.trans c1) (bq (Q := Q) ?_ (q HA s2))
        have e : (wholeD x1 && wholeD x2 && wholeD x3 && stampD s && pairsD true rs && pairsD false ws) = ((wholeD x1 && (wholeD x2 && wholeD x3)) && (stampD s && (pairsD true rs && pairsD false ws))) := by simp only [Bool.and_assoc]
        rw [e, c1]
        rfl
      | true =>
        have e : (wholeD x1 && wholeD x2 && wholeD x3 && stampD s && pairsD true rs && pairsD false ws) = ((wholeD x1 && (wholeD x2 && wholeD x3)) && (stampD s && (pairsD true rs && pairsD false ws))) := by simp only [Bool.and_assoc]
        rw [e, c1, Bool.true_and] at q
        refine iteNSB (e3.trans c1) ⟨_, rfl, v4, s, rfl, g4.same s2, _, rfl, ?_⟩
        cases c2 : stampD s with
        | false =>
          rw [c2] at q
          exact iteT (q HA s2)
        | true =>
          rw [c2, Bool.true_and] at q
          refine iteF ⟨_, rfl, v5, rs, true, rfl, g5.same s2, fun HB sB => ⟨_, rfl, ?_⟩⟩
          have s3 := s2.trans sB
          cases c3 : pairsD true rs with
          | false =>
            rw [c3] at q
            exact iteF (q HB s3)
          | true =>
            rw [c3, Bool.true_and] at q
            exact iteT ⟨_, rfl, v6, ws, false, rfl, g6.same s3, fun HC sC => q HC (s3.trans sC)⟩

theorem ok_is_row {P : Program} {w : World} {K : PySem.W.Frag} {mg : Str → Option Value} {base : Heap} {a : Nat → Addr} {d : Nat → FuncData} (T : Txt K mg a d) : FnOk P w K mg base CX0 6 (a 8) (d 8) ["thing"] (spLookN K rowLook) := by
  refine T.F_is_row.ok sc_is_row (fun vs H Q E h => ?_) (fun cdv A outer s0 H vs Q E hr h => ?_)
  · obtain ⟨v, d', rfl, hg, q⟩ := h
    rfl
  · obtain ⟨v, d', rfl, hg, q⟩ := h
    refine ⟨_, (pss_cons (ps_if (PW.pt (pw_or (pt_not (pt_truth (pe_callB call_isi (by rfl) T.z_isinstance (by decide +kernel) (pa_cons (pv 0) (pa_cons (pe_bltn (v := .ty "tuple") (by rfl) T.z_tuple (by decide +kernel) rfl) pa_nil))) (by intro _; rfl))) (pw_or (pt_not (pt_truth (pv 0) (by intro _; rfl))) (pw_or1 (pt_not (pt_truth (pe_callB call_isi (by rfl) T.z_isinstance (by decide +kernel) (pa_cons (pe_ix ix_tup (pv 0) pe_int (fun _ _ => rfl)) (pa_cons (pe_bltn (v := .ty "str") (by rfl) T.z_str (by decide +kernel) rfl) pa_nil))) (by intro _; rfl))))))) (pss_one (ps_ret pe_bl)) pss_nil) (pss_cons (ps_if (pt_cmpR op_eq (pe_ix ix_tup (pv 0) pe_int (fun _ _ => rfl)) (pe_glob (v := .str "dealing") (by rfl) (Exists.choose_spec T.g_DEALING_ROW) ⟨_, rfl⟩) (nomark _)) (pss_one (ps_ret (pe_and (pe_cmpR op_eq (pe_callB call_len_seq (by rfl) T.z_len PySem.boot_len (pa_cons (pv 0) pa_nil)) (pe_glob (v := .int (7)) (by rfl) (Exists.choose_spec T.g_DEALING_PARTS) ⟨_, rfl⟩) (nomark _)) (pe_one (pe_call (ok_is_dealing_row T) (hr.mono (by decide)) (by rfl) T.g_is_dealing_row T.F_is_dealing_row.kp T.b_is_dealing_row .nil pass0 (pa_cons (pv 0) pa_nil)))))) pss_nil) (pss_cons (ps_if (pt_cmpR op_eq (pe_ix ix_tup (pv 0) pe_int (fun _ _ => rfl)) (pe_glob (v := .str "form") (by rfl) (Exists.choose_spec T.g_FORM_ROW) ⟨_, rfl⟩) (nomark _)) (pss_one (ps_ret (pe_and (pe_cmpR op_eq (pe_callB call_len_seq (by rfl) T.z_len PySem.boot_len (pa_cons (pv 0) pa_nil)) (pe_glob (v := .int (3)) (by rfl) (Exists.choose_spec T.g_FORM_PARTS) ⟨_, rfl⟩) (nomark _)) (pe_and (pe_call (ok_is_whole T) (hr.mono (by decide)) (by rfl) T.g_is_whole T.F_is_whole.kp T.b_is_whole .nil pass0 (pa_cons (pe_ix ix_tup (pv 0) pe_int (fun _ _ => rfl)) pa_nil)) (pe_one (pe_call (ok_is_from_to T) (hr.mono (by decide)) (by rfl) T.g_is_from_to T.F_is_from_to.kp T.b_is_from_to .nil pass0 (pa_cons (pe_ix ix_tup (pv 0) pe_int (fun _ _ => rfl)) (pa_cons pe_int (pa_cons (pe_glob (v := .int (4)) (by rfl) (Exists.choose_spec T.g_MOST_FIELDS) ⟨_, rfl⟩) pa_nil))))))))) pss_nil) (pss_cons (ps_if (pt_cmpR op_in_seq (pe_ix ix_tup (pv 0) pe_int (fun _ _ => rfl)) (pe_tup (pa_cons (pe_glob (v := .str "read") (by rfl) (Exists.choose_spec T.g_READ_ROW) ⟨_, rfl⟩) (pa_cons (pe_glob (v := .str "now") (by rfl) (Exists.choose_spec T.g_NOW_ROW) ⟨_, rfl⟩) pa_nil))) (by rfl)) (pss_one (ps_ret (pe_and (pe_cmpR op_eq (pe_callB call_len_seq (by rfl) T.z_len PySem.boot_len (pa_cons (pv 0) pa_nil)) (pe_glob (v := .int (5)) (by rfl) (Exists.choose_spec T.g_READ_PARTS) ⟨_, rfl⟩) (nomark _)) (pe_one (pe_call (ok_is_read_row T) (hr.mono (by decide)) (by rfl) T.g_is_read_row T.F_is_read_row.kp T.b_is_read_row .nil pass0 (pa_cons (pv 0) pa_nil)))))) pss_nil) (pss_one (ps_ret pe_bl)))))), ?_⟩
    obtain ⟨t, ty, k⟩ := hg.ty
    refine ⟨_, rfl, v, .ty "tuple", t, .type "tuple", isTup d', rfl, .ty "tuple", ty, k.t, _, rfl, ?_⟩
    cases c : isTup d' with
    | false => exact iteT (bq (Q := Q) (by cases d' <;> first | rfl | cases c) (q H (Same.refl H)))
    | true =>
      refine iteF ?_
      obtain ⟨ds, rfl⟩ := istup c
      obtain ⟨p, xs, rfl, hp, hall⟩ := hg.tupI
      have hlen := hall.len
      refine ⟨_, rfl, _, .inr (.inl ⟨_, hp, rfl⟩), ?_⟩
      cases ds with
      | nil =>
        cases hall
        exact iteT (q H (Same.refl H))
      | cons d0 dr =>
        obtain ⟨v0, xr, rfl, g0, hall'⟩ := gd_consI hall
        refine iteF ?_
        obtain ⟨t0, ty0, k0⟩ := g0.ty
        refine ⟨_, rfl, p, _, 0, _, rfl, rfl, hp, atI_nat (j := 0) rfl, v0, .ty "str", t0, .type "str", isStr d0, rfl, .ty "str", ty0, k0.s, _, rfl, ?_⟩
        cases cs : isStr d0 with
        | false => exact iteT (bq (Q := Q) (by cases d0 <;> first | rfl | cases cs) (q H (Same.refl H)))
        | true =>
          refine iteF ?_
          obtain ⟨z, rfl⟩ := isstr cs
          obtain ⟨rfl, hz⟩ := g0.strI
          have q : ∀ H', Same H H' → Q (.bl (if z = "dealing" then dealD (.str z :: dr) else if z = "form" then formD (.str z :: dr) else if z = "read" ∨ z = "now" then readD (.str z :: dr) else false)) H' := q
          refine ⟨_, rfl, p, _, 0, _, rfl, rfl, hp, atI_nat (j := 0) rfl, rfl, _, rfl, ?_⟩
          have hl : (V.str z :: xr).length = dr.length + 1 := hlen
          by_cases c1 : z = "dealing"
          · rw [if_pos c1] at q
            refine iteDT (congrArg V.str c1) ⟨_, rfl, p, _, rfl, .inr hp, rfl, _, rfl, ?_⟩
            by_cases c7 : (dr.length + 1 : Nat) = 7
            · refine iteDT (by rw [hl, c7]; rfl) ⟨_, rfl, p, _, _, rfl, hp, hall, c7, q⟩
            · refine iteDF (fun e => c7 (by have e := V.int.inj e; rw [hl] at e; omega)) ?_
              refine bq (Q := Q) ?_ (q H (Same.refl H))
              match dr, c7 with
              | [_, _, _, _, _, _], h => exact absurd rfl h
              | [], _ => rfl
              | [_], _ => rfl
              | [_, _], _ => rfl
              | [_, _, _], _ => rfl
              | [_, _, _, _], _ => rfl
              | [_, _, _, _, _], _ => rfl
              | _ :: _ :: _ :: _ :: _ :: _ :: _ :: _, _ => rfl
          · rw [if_neg c1] at q
            refine iteDF (fun e => c1 (V.str.inj e)) ?_
            refine ⟨_, rfl, p, _, 0, _, rfl, rfl, hp, atI_nat (j := 0) rfl, rfl, _, rfl, ?_⟩
            by_cases c2 : z = "form"
            · rw [if_pos c2] at q
              refine iteDT (congrArg V.str c2) ⟨_, rfl, p, _, rfl, .inr hp, rfl, _, rfl, ?_⟩
              by_cases c3 : (dr.length + 1 : Nat) = 3
              · obtain ⟨d1, d2, rfl⟩ : ∃ d1 d2, dr = [d1, d2] := by
                  match dr, c3 with
                  | [d1, d2], _ => exact ⟨d1, d2, rfl⟩
                obtain ⟨v1, r, rfl, g1, hall'⟩ := gd_consI hall'
                obtain ⟨v2, r, rfl, g2, hall'⟩ := gd_consI hall'
                cases hall'
                refine iteDT (by rw [hl]; rfl) ⟨_, rfl, p, _, 1, _, rfl, rfl, hp, atI_nat (j := 1) rfl, v1, d1, rfl, g1, _, rfl, ?_⟩
                have q : Q (.bl (wholeD d1 && fromToD 1 4 d2)) H := q H (Same.refl H)
                cases cw : wholeD d1 with
                | false =>
                  rw [cw] at q
                  exact iteF q
                | true =>
                  rw [cw, Bool.true_and] at q
                  exact iteT ⟨_, rfl, p, _, 2, _, rfl, rfl, hp, atI_nat (j := 2) rfl, v2, d2, 1, 4, rfl, g2, q⟩
              · refine iteDF (fun e => c3 (by have e := V.int.inj e; rw [hl] at e; omega)) ?_
                refine bq (Q := Q) ?_ (q H (Same.refl H))
                match dr, c3 with
                | [_, _], h => exact absurd rfl h
                | [], _ => rfl
                | [_], _ => rfl
                | _ :: _ :: _ :: _, _ => rfl
            · rw [if_neg c2] at q
              refine iteDF (fun e => c2 (V.str.inj e)) ?_
              refine ⟨_, rfl, p, _, 0, _, rfl, rfl, hp, atI_nat (j := 0) rfl, len2, fun p2 np2 => ?_⟩
              have s1 : Same H (upd H p2 (.tup [.str "read", .str "now"])) := same_new (Same.refl H) np2
              have h2 : (upd H p2 (.tup [.str "read", .str "now"])) p2 = some (.tup [.str "read", .str "now"]) := upd_same
              generalize (upd H p2 (.tup [.str "read", .str "now"])) = H1 at s1 h2 ⊢
              refine ⟨p2, _, rfl, .inr (SqT.of h2), rfl, rfl, _, rfl, ?_⟩
              by_cases c3 : z = "read" ∨ z = "now"
              · rw [if_pos c3] at q
                refine iteBT (by rcases c3 with rfl | rfl <;> decide +kernel) ⟨_, rfl, p, _, rfl, .inr (same_sqt s1 hp), rfl, _, rfl, ?_⟩
                by_cases c5 : (dr.length + 1 : Nat) = 5
                · exact iteDT (by rw [hl, c5]; rfl) ⟨_, rfl, p, _, _, rfl, same_sqt s1 hp, hall.same s1, c5, fun H' s2 => q H' (s1.trans s2)⟩
                · refine iteDF (fun e => c5 (by have e := V.int.inj e; rw [hl] at e; omega)) ?_
                  refine bq (Q := Q) ?_ (q H1 s1)
                  match dr, c5 with
                  | [_, _, _, _], h => exact absurd rfl h
                  | [], _ => rfl
                  | [_], _ => rfl
                  | [_, _], _ => rfl
                  | [_, _, _], _ => rfl
                  | _ :: _ :: _ :: _ :: _ :: _, _ => rfl
              · rw [if_neg c3] at q
                refine iteBF ?_ (q H1 s1)
                have n1 : z ≠ "read" := fun e => c3 (.inl e)
                have n2 : z ≠ "now" := fun e => c3 (.inr e)
                simp [inV, eqV, n1, n2, n1.symm, n2.symm]

theorem ok_last_up_to {P : Program} {w : World} {K : PySem.W.Frag} {mg : Str → Option Value} {base : Heap} {a : Nat → Addr} {d : Nat → FuncData} (T : Txt K mg a d) : FnOk P w K mg base CX0 1 (a 6) (d 6) ["rows", "time", "otherwise"] (spLastUp K) := by
  refine T.F_last_up_to.ok sc_last_up_to (fun vs H Q E h => ?_) (fun cdv A outer s0 H vs Q E hr h => ?_)
  · obtain ⟨l, zs, t, o, rfl, hl, hz, q⟩ := h
    rfl
  · obtain ⟨l, zs, t, o, rfl, hl, hz, q⟩ := h
    refine ⟨_, (pss_cons (ps_for PassesOwn.never rfl (pi_reversed (by rfl) T.z_reversed (pa_cons (pv 0) pa_nil)) (pg_tup (by rfl) (pgs_cons (pg_name (i := 3) sc_last_up_to.nd rfl (.inl rfl)) (pgs_cons (pg_name (i := 4) sc_last_up_to.nd rfl (.inl rfl)) pgs_nil))) (pss_one (ps_if (pt_cmpR op_le (pv 3) (pv 1) (nomark _)) (pss_one (ps_ret (pv 4))) pss_nil))) (pss_one (ps_ret (pv 2)))), ?_⟩
    refine ⟨_, rfl, l, _, rfl, hl, ?_⟩
    have key : ∀ (i : Nat) (z : V × Int × V), zs[zs.length - 1 - i]? = some z → i < zs.length → (zs.reverse)[i]? = some z := fun i z hz hi => by
      rw [List.getElem?_reverse hi]
      exact hz
    refine for_it (walk_rev (K := K) (a := l) (xs := zs.map (·.1))) (fun i σ H' => H' = H ∧ (∃ x y, σ = [some (.ref l), some (.int t), some o, x, y]) ∧ ∀ z ∈ zs.reverse.take i, ¬ z.2.1 ≤ t) ⟨rfl, ⟨none, none, rfl⟩, fun z h => by cases h⟩ (fun i σ H' _ z => by rw [z.1]; exact hl) ?_ ?_
    · rintro i x σ H1 H' hi ⟨rfl, ⟨x1, y1, rfl⟩, hno⟩ ⟨rfl, hx⟩
      rw [List.length_map] at hi hx
      rw [List.getElem?_map] at hx
      cases ez : zs[zs.length - 1 - i]? with
      | none => rw [ez] at hx; cases hx
      | some z =>
        rw [ez] at hx
        cases hx
        obtain ⟨p, e, hp⟩ := hz z (List.mem_of_getElem? ez)
        refine ⟨p, _, e, hp, rfl, _, _, rfl, _, _, rfl, rfl, _, rfl, _, rfl, z.2.1, t, rfl, rfl, _, rfl, ?_⟩
        have hr := key i z ez hi
        by_cases c : z.2.1 ≤ t
        · refine iteDT c ⟨_, rfl, ?_⟩
          have e2 : (lastUp (zs.map (·.2)) t) = some z.2.2 := by
            unfold lastUp
            rw [← List.map_reverse]
            have : (zs.reverse.map (·.2)).find? (fun p => decide (p.1 ≤ t)) = some z.2 := by
              rw [List.find?_map]
              have : zs.reverse.find? ((fun p : Int × V => decide (p.1 ≤ t)) ∘ fun z => z.2) = some z := by
                have sp : zs.reverse = zs.reverse.take i ++ (z :: zs.reverse.drop (i + 1)) := by
                  have hlt := (List.getElem?_eq_some_iff.mp hr).1
                  have h2 := (List.getElem?_eq_some_iff.mp hr).2
                  rw [← h2, List.getElem_cons_drop, List.take_append_drop]
                rw [sp, List.find?_append]
                have : (zs.reverse.take i).find? ((fun p : Int × V => decide (p.1 ≤ t)) ∘ fun z => z.2) = none := by
                  rw [List.find?_eq_none]
                  intro y hy
                  simpa using hno y hy
                rw [this, List.find?_cons]
                have : ((fun p : Int × V => decide (p.1 ≤ t)) ∘ fun z : V × Int × V => z.2) z = true := decide_eq_true c
                rw [this]
                rfl
              rw [this]
              rfl
            rw [this]
            rfl
          rw [e2] at q
          exact q
        · refine iteDF c ⟨rfl, ⟨_, _, rfl⟩, fun y hy => ?_⟩
          rw [List.take_add_one, hr] at hy
          rcases List.mem_append.mp hy with hy | hy
          · exact hno y hy
          · cases List.mem_singleton.mp hy
            exact c
    · rintro σ H' ⟨rfl, ⟨x1, y1, rfl⟩, hno⟩
      refine ⟨_, rfl, ?_⟩
      rw [List.length_map, ← List.length_reverse, List.take_length] at hno
      have e2 : (lastUp (zs.map (·.2)) t) = none := by
        unfold lastUp
        rw [← List.map_reverse, List.find?_map]
        have : zs.reverse.find? ((fun p : Int × V => decide (p.1 ≤ t)) ∘ fun z => z.2) = none := by
          rw [List.find?_eq_none]
          intro y hy
          simpa using hno y hy
        rw [this]
        rfl
      rw [e2] at q
      exact q

theorem ok_shaped {P : Program} {w : World} {K : PySem.W.Frag} {mg : Str → Option Value} {base : Heap} {a : Nat → Addr} {d : Nat → FuncData} (T : Txt K mg a d) : FnOk P w K mg base CX0 1 (a 7) (d 7) ["worth", "fields"] (spShaped K) := by
  refine T.F_shaped.ok sc_shaped (fun vs H Q E h => ?_) (fun cdv A outer s0 H vs Q E hr h => ?_)
  · obtain ⟨v, w, f, rfl, hv, hw, hf, q⟩ := h
    rfl
  · obtain ⟨v, w, f, rfl, hv, hw, hf, q⟩ := h
    refine ⟨_, (pss_cons (ps_if (PW.pt (pw_or (pt_cmpR op_isN (pv 0) pe_non (nomark _)) (pw_or1 (pt_cmpR op_isN (pv 1) pe_non (nomark _))))) (pss_one (ps_ret (pv 0))) pss_nil) (pss_one (ps_ret (pe_slice sl_tup (pe_op op_catT (pv 0) (pe_op TM2.op_mulTA (pe_tup (pa_cons pe_int pa_nil)) (pv 1))) po_none (po_some (pv 1)))))), ?_⟩
    cases w with
    | none =>
      cases dp_noneI hv
      exact ⟨_, rfl, rfl, _, rfl, iteT ⟨_, rfl, q _ H (Same.refl H) .non⟩⟩
    | some w =>
      obtain ⟨p, rfl, hp⟩ := wo_at hv
      refine ⟨_, rfl, rfl, _, rfl, iteF ?_⟩
      cases f with
      | none => exact ⟨_, rfl, rfl, _, rfl, iteT ⟨_, rfl, q _ H (Same.refl H) hv⟩⟩
      | some f =>
        obtain ⟨f1, f2⟩ := hf f rfl
        obtain ⟨w1, w2⟩ := hw
        refine ⟨_, rfl, rfl, _, rfl, iteF ?_⟩
        refine ⟨_, rfl, len1, fun z nz => ?_⟩
        have s1 : Same H (upd H z (.tup [.int 0])) := same_new (Same.refl H) nz
        have hz : (upd H z (.tup [.int 0])) z = some (.tup [.int 0]) := upd_same
        generalize (upd H z (.tup [.int 0])) = H1 at s1 hz ⊢
        by_cases hf1 : f = 1
        · subst hf1
          refine ⟨_, rfl, z, 1, _, rfl, rfl, SqT.of hz, by simp, by decide, by decide, by decide, fun _ => ?_, fun h => absurd h (by decide), fun h => absurd h (by decide)⟩
          refine ⟨p, z, _, _, rfl, rfl, same_sqt s1 hp, SqT.of (show H1 z = some (.tup (List.replicate (1 : Int).toNat (V.int 0))) from hz), fun e => ?_, ?_, fun e => ?_, fun _ b nb => ?_⟩
          · rw [List.map_eq_nil_iff] at e
            rw [e] at w1
            exact absurd w1 (by decide)
          · rw [List.length_map, List.length_replicate]
            exact Nat.le_trans (show _ ≤ 8 by omega) (by decide)
          · have := congrArg List.length e
            rw [List.length_replicate] at this
            have : (1 : Int).toNat = 0 := this
            omega
          · refine ⟨_, rfl, _, rfl, b, _, rfl, SqT.of upd_same, fun e => ?_, fun r nr => ?_⟩
            · have e := e.2
              rw [List.length_append, List.length_map, List.length_replicate] at e
              rw [show (1 : Int) = ((1 : Nat) : Int) from rfl, HT.sIx_nat, Int.toNat_natCast] at e
              omega
            · refine q _ _ ((s1.trans (same_new (Same.refl _) nb)).trans (same_new (Same.refl _) nr)) ?_
              rw [cut_to _ (by omega)]
              have e : (List.take (1 : Int).toNat (w.map V.int ++ List.replicate (1 : Int).toNat (V.int 0))) = ((w ++ List.replicate (1 : Int).toNat 0).take (1 : Int).toNat).map V.int := by rw [List.map_take, List.map_append, List.map_replicate]
              rw [e]
              exact wo_dp (SqT.of upd_same)
        · refine ⟨_, rfl, z, f, _, rfl, rfl, SqT.of hz, by simp, by decide, by omega, by omega, fun h => absurd h hf1, fun h => absurd h (by omega), fun _ r2 n2 => ?_⟩
          rw [rep_one]
          have s2 : Same H (upd H1 r2 (.tup (List.replicate f.toNat (V.int 0)))) := same_new s1 n2
          have hz2 : (upd H1 r2 (.tup (List.replicate f.toNat (V.int 0)))) r2 = some (.tup (List.replicate f.toNat (V.int 0))) := upd_same
          generalize (upd H1 r2 (.tup (List.replicate f.toNat (V.int 0)))) = H2 at s2 hz2 ⊢
          refine ⟨p, r2, _, _, rfl, rfl, same_sqt s2 hp, SqT.of hz2, fun e => ?_, ?_, fun e => ?_, fun _ b nb => ?_⟩
          · rw [List.map_eq_nil_iff] at e
            rw [e] at w1
            exact absurd w1 (by decide)
          · rw [List.length_map, List.length_replicate]
            exact Nat.le_trans (show _ ≤ 8 by omega) (by decide)
          · have := congrArg List.length e
            rw [List.length_replicate] at this
            have : f.toNat = 0 := this
            omega
          · refine ⟨_, rfl, _, rfl, b, _, rfl, SqT.of upd_same, fun e => ?_, fun r nr => ?_⟩
            · have e := e.2
              rw [List.length_append, List.length_map, List.length_replicate] at e
              obtain ⟨n, rfl⟩ : ∃ n : Nat, f = n := ⟨f.toNat, by omega⟩
              rw [HT.sIx_nat, Int.toNat_natCast] at e
              omega
            · refine q _ _ ((s2.trans (same_new (Same.refl _) nb)).trans (same_new (Same.refl _) nr)) ?_
              rw [cut_to _ (by omega)]
              have e : (List.take f.toNat (w.map V.int ++ List.replicate f.toNat (V.int 0))) = ((w ++ List.replicate f.toNat 0).take f.toNat).map V.int := by rw [List.map_take, List.map_append, List.map_replicate]
              rw [e]
              exact wo_dp (SqT.of upd_same)

theorem ok_of_word {P : Program} {w : World} {K : PySem.W.Frag} {mg : Str → Option Value} {base : Heap} {a : Nat → Addr} {d : Nat → FuncData} (T : Txt K mg a d) : FnOk P w K mg base CX0 1 (a 15) (d 15) ["history", "word"] (spOfWord K) := by
  refine T.F_of_word.ok sc_of_word (fun vs H Q E h => ?_) (fun cdv A outer s0 H vs Q E hr h => ?_)
  · obtain ⟨l, bs, w, rfl, hl, hb, hn, q⟩ := h
    rfl
  · obtain ⟨l, bs, w, rfl, hl, hb, hn, q⟩ := h
    refine ⟨_, (pss_one (ps_ret (pe_lc (own := [("row", 2)]) (g := gName 2) (te := (tVar 2)) (tt := (tTest (tOp rEq (tOp (rIxT K) (tVar 2) (tC (.int 0))) (tVar 1)))) (by rfl) sc_of_word.nd (pi_list (pv 0)) (blkOk_by (own := [("row", 2)]) (N := ["history", "word", "row"]) (sc := defScope s_of_word) (by decide +kernel)) (fun _ _ _ _ _ => (pg_name (i := 2) sc_of_word.nd rfl (.inl rfl))) (fun _ _ _ _ _ => (pts_one (pt_cmpR op_eq (pe_ix ix_tup (pv 2) pe_int (fun _ _ => rfl)) (pv 1) (nomark _)))) (fun _ _ _ _ _ => (pv 2))))), ?_⟩
    refine ⟨_, rfl, l, rfl, ⟨_, hl⟩, fun D nD => ?_⟩
    refine lc_list (K := K) (a := l) (xs := bs.map (·.1)) (fun j H' => Same H H' ∧ H' D = some (.lst (((bs.take j).filter fun b => decide (b.2.word = w)).map (·.1)))) ⟨same_new (Same.refl H) nD, upd_same⟩ (fun j H' _ z => z.1.seq hl) ?_ ?_
    · rintro j v HA hj ⟨sA, hD⟩
      rw [List.getElem?_map] at hj
      cases eb : bs[j]? with
      | none => rw [eb] at hj; cases hj
      | some b =>
        rw [eb] at hj
        cases hj
        obtain ⟨p, xs, e, hp⟩ := row_head (hb b (List.mem_of_getElem? eb))
        refine ⟨rfl, _, rfl, p, _, 0, _, e, rfl, same_sqt sA hp, atI_nat (j := 0) rfl, _, rfl, rfl, _, rfl, ?_⟩
        by_cases c : b.2.word = w
        · refine iteDT (congrArg V.str c) ⟨_, rfl, _, hD, ?_, fun u o z => ?_, ?_⟩
          · rw [List.length_map]
            have h1 := List.length_filter_le (fun b : V × Row => decide (b.2.word = w)) (bs.take j)
            rw [List.length_take] at h1
            exact Nat.lt_of_lt_of_le (show _ < 1001 by omega) (by decide)
          · rw [upd_ne (ne_of_none z nD)]
            exact sA _ _ z
          · rw [upd_same, List.take_add_one, eb, List.filter_append, List.map_append]
            simp [c]
        · refine iteDF (fun e => c (V.str.inj e)) ⟨sA, ?_⟩
          rw [hD, List.take_add_one, eb, List.filter_append]
          simp [c]
    · rintro HA ⟨sA, hD⟩
      rw [List.length_map, List.take_length] at hD
      exact q D HA sA nD hD

theorem ok_are_unlike {P : Program} {w : World} {K : PySem.W.Frag} {mg : Str → Option Value} {base : Heap} {a : Nat → Addr} {d : Nat → FuncData} (T : Txt K mg a d) : FnOk P w K mg base CX0 1 (a 13) (d 13) ["things"] (spUnlike K) := by
  refine T.F_are_unlike.ok sc_are_unlike (fun vs H Q E h => ?_) (fun cdv A outer s0 H vs Q E hr h => ?_)
  · obtain ⟨l, rfl, hcase⟩ := h
    rfl
  · obtain ⟨l, rfl, hcase⟩ := h
    refine ⟨_, (pss_one (ps_ret (pe_cmpR op_eq (pe_callB (call_or SM.cr_lenM SM.cr_lenT) (by rfl) T.z_len PySem.boot_len (pa_cons (pe_callTy (call_or (SM.cr_setM rfl) (cr_setOfT rfl hr.units)) (by rfl) T.z_set (by decide +kernel) (pa_cons (pv 0) pa_nil)) pa_nil)) (pe_callB call_len_seq (by rfl) T.z_len PySem.boot_len (pa_cons (pv 0) pa_nil)) (nomark _)))), ?_⟩
    rcases hcase with ⟨ks, hl, hk, q⟩ | ⟨ts, hl, ht, hk, q⟩
    · refine ⟨_, rfl, .inl ⟨l, ks, rfl, hl, hk, fun z S n hz g => .inl ⟨z, S, n, rfl, upd_same, ?_⟩⟩⟩
      have s1 : Same H (upd H z (SM.SetMO P w z S n)) := same_new (Same.refl H) hz
      refine ⟨_, rfl, l, _, rfl, .inl (s1.seq hl), rfl, ?_⟩
      refine bq (Q := Q) ?_ (q _ s1)
      rw [List.length_map]
      refine (dec_int ?_).symm
      have := g.nd
      rw [List.take_length] at this
      exact this
    · refine ⟨_, rfl, .inr ⟨l, ts, rfl, hl, ht, hk, fun z L hz h1 h2 => .inr ⟨z, L, rfl, upd_same, fun hn => ?_⟩⟩⟩
      have s1 : Same H (upd H z (SetTO P w z L)) := same_new (Same.refl H) hz
      refine ⟨_, rfl, l, _, rfl, .inl (s1.seq hl), rfl, ?_⟩
      refine bq (Q := Q) ?_ (q _ s1)
      rw [List.length_map]
      refine (dec_int ?_).symm
      have := few_iff (L := L.map (·.2)) (ts := ts.map (·.2)) hn (fun x hx => by
        obtain ⟨y, hy, rfl⟩ := List.mem_map.mp hx
        exact List.mem_map_of_mem (h1 y hy)) (fun x hx => by
        obtain ⟨y, hy, rfl⟩ := List.mem_map.mp hx
        exact h2 y hy)
      rw [List.length_map, List.length_map] at this
      exact this

theorem ok_have_unlike_keys {P : Program} {w : World} {K : PySem.W.Frag} {mg : Str → Option Value} {base : Heap} {a : Nat → Addr} {d : Nat → FuncData} (T : Txt K mg a d) : FnOk P w K mg base CX0 2 (a 14) (d 14) ["pairs"] (spUnlikeKeys K) := by
  refine T.F_have_unlike_keys.ok sc_have_unlike_keys (fun vs H Q E h => ?_) (fun cdv A outer s0 H vs Q E hr h => ?_)
  · obtain ⟨l, xs, ks, rfl, hl, hx, hk, hp, q⟩ := h
    rfl
  · obtain ⟨l, xs, ks, rfl, hl, hx, hk, hp, q⟩ := h
    refine ⟨_, (pss_one (ps_ret (pe_call (ok_are_unlike T) (hr.mono (by decide)) (by rfl) T.g_are_unlike T.F_are_unlike.kp T.b_are_unlike .nil pass0 (pa_cons (pe_lc (own := [("key", 1), ("worth", 2)]) (g := (gTup K 2 (gCons (gName 1) (gCons (gName 2) gNil)))) (te := (tVar 1)) (by rfl) sc_have_unlike_keys.nd (pi_list (pv 0)) (blkOk_by (own := [("key", 1), ("worth", 2)]) (N := ["pairs", "key", "worth"]) (sc := defScope s_have_unlike_keys) (by decide +kernel)) (fun _ _ _ _ _ => (pg_tup (by rfl) (pgs_cons (pg_name (i := 1) sc_have_unlike_keys.nd rfl (.inl rfl)) (pgs_cons (pg_name (i := 2) sc_have_unlike_keys.nd rfl (.inl rfl)) pgs_nil)))) (fun _ _ _ _ _ => pts_nil) (fun _ _ _ _ _ => (pv 1))) pa_nil)))), ?_⟩
    refine ⟨_, rfl, l, rfl, ⟨_, hl⟩, fun D nD => ?_⟩
    refine lc_list (K := K) (a := l) (xs := xs) (fun j H' => Same H H' ∧ H' D = some (.lst ((ks.take j).map V.str))) ⟨same_new (Same.refl H) nD, upd_same⟩ (fun j H' _ z => z.1.seq hl) ?_ ?_
    · rintro j v HA hj ⟨sA, hD⟩
      have hlt := (List.getElem?_eq_some_iff.mp hj).1
      obtain ⟨k, ek⟩ : ∃ k, ks[j]? = some k := ⟨_, List.getElem?_eq_getElem (by omega)⟩
      obtain ⟨p, u, e, hq⟩ := hp j v k hj ek
      refine ⟨p, _, e, same_sqt sA hq, rfl, _, _, rfl, _, _, rfl, rfl, rfl, _, rfl, _, hD, ?_, fun b o z => ?_, ?_⟩
      · rw [List.length_map, List.length_take]
        exact Nat.lt_of_lt_of_le (show _ < 1001 by omega) (by decide)
      · rw [upd_ne (ne_of_none z nD)]
        exact sA _ _ z
      · rw [upd_same, List.take_add_one, ek, List.map_append]
        rfl
    · rintro HA ⟨sA, hD⟩
      rw [hk, List.take_length] at hD
      refine ⟨D, rfl, .inl ⟨ks.map Sum.inr, SqL.of (by rw [hD, List.map_map]; rfl), by rw [List.length_map]; omega, fun HB sB => ?_⟩⟩
      exact bq (Q := Q) (decide_eq_decide.mpr nodup_inr).symm (q HB (sA.trans sB))

theorem ok_dealings_by_stamps {P : Program} {w : World} {K : PySem.W.Frag} {mg : Str → Option Value} {base : Heap} {a : Nat → Addr} {d : Nat → FuncData} (T : Txt K mg a d) (TB : Tb base mg a) : FnOk P w K mg base CX0 2 (a 16) (d 16) ["history"] (spBySt K a) := by
  refine T.F_dealings_by_stamps.ok sc_dealings_by_stamps (fun vs H Q E h => ?_) (fun A outer s0 H vs Q E hr h => ?_)
  · obtain ⟨l, bs, rfl, hl, hb, hn, hT, q⟩ := h
    rfl
  · obtain ⟨l, bs, rfl, hl, hb, hn, hT, q⟩ := h
    refine ⟨_, (pss_one (ps_ret (SL.pe_sortLam (T := TT a) (i := 4) (by rfl) T.z_sorted (pe_call (ok_of_word T) (hr.mono (by decide)) (by rfl) T.g_of_word T.F_of_word.kp T.b_of_word .nil pass0 (pa_cons (pv 0) (pa_cons (pe_glob (v := .str "dealing") (by rfl) (Exists.choose_spec T.g_DEALING_ROW) ⟨_, rfl⟩) pa_nil))) TB.t_dealings_by_stamps rfl (.head _) (TT.one TB.ne) hr rfl (by decide +kernel) (by decide +kernel) (fun _ _ _ _ _ _ => rfl) rfl rfl rfl (by decide +kernel) (by decide) (by decide)))), ?_⟩
    refine ⟨_, rfl, l, bs, "dealing", rfl, hl, hb, hn, fun r H1 s1 nr hr1 => ?_⟩
    rw [← dealsV_fst] at hr1
    have hz := dealsV_at hb
    refine ⟨r, (dealsV bs).map (fun z => (z.1, .tuple (z.2.st.map .int))), rfl, SqL.of (by rw [hr1, List.map_map]; rfl), ?_, ?_, ?_, hT.ext s1, fun H2 p eN T2 np => ?_⟩
    · intro x hx y hy
      rw [List.map_map] at hx hy
      obtain ⟨u, _, rfl⟩ := List.mem_map.mp hx
      obtain ⟨v, _, rfl⟩ := List.mem_map.mp hy
      rfl
    · left
      intro x hx
      rw [List.map_map] at hx
      obtain ⟨u, _, rfl⟩ := List.mem_map.mp hx
      exact ⟨_, _, rfl⟩
    · intro b hb'
      obtain ⟨u, hu, rfl⟩ := List.mem_map.mp hb'
      obtain ⟨p, ps, rl, wl, xs, ys, D⟩ := deal_at (hz u hu)
      exact ⟨p, _, _, D.e, same_sqt s1 D.row, atI_nat (j := 4) rfl, .inr ⟨ps, u.2.st, rfl, same_sqt s1 D.st, rfl⟩⟩
    · have k : Same H2 (upd H2 p (.lst ((((dealsV bs).map (fun z => (z.1, PyData.tuple (z.2.st.map .int)))).mergeSort (PySem.W.dataLe false (·.2))).map (·.1)))) := same_new (Same.refl H2) np
      refine q p _ ⟨(LamX.ExtN.of s1).trans (eN.trans (LamX.ExtN.of k)), fun _ => T2.ext k⟩ (T2.ext k) ?_
      rw [upd_same]
      congr 2
      have e := List.map_mergeSort (r := fun a b : V × Deal => stLe a.2.st b.2.st) (s := PySem.W.dataLe false (·.2)) (f := fun z : V × Deal => (z.1, PyData.tuple (z.2.st.map .int))) (l := dealsV bs) fun _ _ _ _ => rfl
      rw [← e, List.map_map]
      rfl

theorem ok_forms_by_times {P : Program} {w : World} {K : PySem.W.Frag} {mg : Str → Option Value} {base : Heap} {a : Nat → Addr} {d : Nat → FuncData} (T : Txt K mg a d) (TB : Tb base mg a) : FnOk P w K mg base CX0 2 (a 21) (d 21) ["history"] (spForms K a) := by
  refine T.F_forms_by_times.ok sc_forms_by_times (fun vs H Q E h => ?_) (fun A outer s0 H vs Q E hr h => ?_)
  · obtain ⟨l, bs, rfl, hl, hb, hn, hT, q⟩ := h
    rfl
  · obtain ⟨l, bs, rfl, hl, hb, hn, hT, q⟩ := h
    refine ⟨_, (pss_one (ps_ret (SL.pe_sortLam (T := TT a) (i := 0) (by rfl) T.z_sorted (pe_lc (own := [("word", 1), ("time", 2), ("fields", 3)]) (g := (gTup K 3 (gCons (gName 1) (gCons (gName 2) (gCons (gName 3) gNil))))) (te := (tTup (tCons (tVar 2) (tCons (tVar 3) tNil)))) (by rfl) sc_forms_by_times.nd (pi_list (pe_call (ok_of_word T) (hr.mono (by decide)) (by rfl) T.g_of_word T.F_of_word.kp T.b_of_word .nil pass0 (pa_cons (pv 0) (pa_cons (pe_glob (v := .str "form") (by rfl) (Exists.choose_spec T.g_FORM_ROW) ⟨_, rfl⟩) pa_nil)))) (blkOk_by (own := [("word", 1), ("time", 2), ("fields", 3)]) (N := ["history", "word", "time", "fields"]) (sc := defScope s_forms_by_times) (by decide +kernel)) (fun _ _ _ _ _ => (pg_tup (by rfl) (pgs_cons (pg_name (i := 1) sc_forms_by_times.nd rfl (.inl rfl)) (pgs_cons (pg_name (i := 2) sc_forms_by_times.nd rfl (.inl rfl)) (pgs_cons (pg_name (i := 3) sc_forms_by_times.nd rfl (.inl rfl)) pgs_nil))))) (fun _ _ _ _ _ => pts_nil) (fun _ _ _ _ _ => (pe_tup (pa_cons (pv 2) (pa_cons (pv 3) pa_nil))))) TB.t_forms_by_times rfl (.tail _ (.head _)) (TT.two TB.ne) hr rfl (by decide +kernel) (by decide +kernel) (fun _ _ _ _ _ _ => rfl) rfl rfl rfl (by decide +kernel) (by decide) (by decide)))), ?_⟩
    refine ⟨_, rfl, l, bs, "form", rfl, hl, hb, hn, fun r H1 s1 nr hr1 => ?_⟩
    rw [← formV_fst] at hr1
    have hf := formV_at hb
    have hlen := formV_len bs
    have e0 : (bs.filterMap formV).map (·.2) = (bs.map (·.2)).filterMap formOf := formV_snd bs
    generalize bs.filterMap formV = fs at hr1 hf hlen e0
    refine ⟨r, rfl, ⟨_, SqL.of hr1⟩, fun D nD => ?_⟩
    refine lc_list (K := K) (a := r) (xs := fs.map (·.1)) (fun j H' => Same H1 H' ∧ ∃ zs : List (V × Int × Int), H' D = some (.lst (zs.map (·.1))) ∧ PrAt K H' zs ∧ zs.map (·.2) = (fs.take j).map (·.2)) ⟨same_new (Same.refl H1) nD, [], upd_same, fun z hz => (by cases hz), rfl⟩ (fun j H' _ z => SqL.of (z.1 _ _ hr1)) ?_ ?_
    · rintro j v HA hj ⟨sA, zs, hD, hz, e1⟩
      rw [List.getElem?_map] at hj
      cases ez : fs[j]? with
      | none => rw [ez] at hj; cases hj
      | some z =>
        rw [ez] at hj
        cases hj
        obtain ⟨p, e, hp⟩ := hf z (List.mem_of_getElem? ez)
        refine ⟨p, _, e, same_sqt (s1.trans sA) hp, rfl, _, _, rfl, _, _, rfl, _, _, rfl, rfl, rfl, _, rfl, _, rfl, len2, fun t nt => ?_⟩
        have sT : Same HA (upd HA t (.tup [.int z.2.1, .int z.2.2])) := same_new (Same.refl HA) nt
        have hT : (upd HA t (.tup [.int z.2.1, .int z.2.2])) t = some (.tup [.int z.2.1, .int z.2.2]) := upd_same
        generalize (upd HA t (.tup [.int z.2.1, .int z.2.2])) = HB at sT hT ⊢
        have hzl : zs.length ≤ j := by
          have := congrArg List.length e1
          rw [List.length_map, List.length_map, List.length_take] at this
          omega
        have hjl := (List.getElem?_eq_some_iff.mp ez).1
        have kk : ∀ (u : V), LamX.Tabs (TT a) H → True := fun _ _ => trivial
        refine ⟨_, sT _ _ hD, ?_, fun b o w => ?_, zs ++ [(.ref t, z.2)], ?_, ?_, ?_⟩
        · rw [List.length_map]
          exact Nat.lt_of_lt_of_le (show _ < 1001 by omega) (by decide)
        · rw [upd_ne (ne_of_none w nD)]
          exact sT _ _ (sA _ _ w)
        · rw [upd_same, List.map_append]
          rfl
        · intro y hy
          rcases List.mem_append.mp hy with hy | hy
          · obtain ⟨q, e, hq⟩ := hz y hy
            exact ⟨q, e, sqt_upd (sT _ _ hD) (same_sqt sT hq)⟩
          · cases List.mem_singleton.mp hy
            exact ⟨t, rfl, sqt_upd (sT _ _ hD) (SqT.of hT)⟩
        · rw [List.map_append, e1, List.take_add_one, ez, List.map_append]
          rfl
    · rintro HA ⟨sA, zs, hD, hz, e1⟩
      rw [List.length_map, List.take_length] at e1
      have sH := s1.trans sA
      refine ⟨D, zs.map (fun z => (z.1, .int z.2.1)), rfl, SqL.of (by rw [hD, List.map_map]; rfl), ?_, ?_, ?_, hT.ext sH, fun H2 p eN T2 np => ?_⟩
      · intro x hx y hy
        rw [List.map_map] at hx hy
        obtain ⟨u, _, rfl⟩ := List.mem_map.mp hx
        obtain ⟨v, _, rfl⟩ := List.mem_map.mp hy
        rfl
      · right
        intro x hx
        rw [List.map_map] at hx
        obtain ⟨u, _, rfl⟩ := List.mem_map.mp hx
        exact ⟨by simp, fun _ => by simp⟩
      · intro b hb'
        obtain ⟨u, hu, rfl⟩ := List.mem_map.mp hb'
        obtain ⟨q, e, hq⟩ := hz u hu
        exact ⟨q, _, _, e, hq, atI_nat (j := 0) rfl, .inl ⟨_, rfl, rfl⟩⟩
      · have k : Same H2 (upd H2 p (.lst (((zs.map (fun z => (z.1, PyData.int z.2.1))).mergeSort (PySem.W.dataLe false (·.2))).map (·.1)))) := same_new (Same.refl H2) np
        have kx := (LamX.ExtN.of sH).trans (eN.trans (LamX.ExtN.of k))
        refine q p (zs.mergeSort (PySem.W.dataLe false fun z : V × Int × Int => PyData.int z.2.1)) _ ⟨kx, fun _ => T2.ext k⟩ (T2.ext k) ?_ (fun z hz' => (PrAt.ext hz (eN.trans (LamX.ExtN.of k))) z (List.mem_mergeSort.mp hz')) ?_
        · rw [upd_same]
          congr 2
          have e := List.map_mergeSort (r := PySem.W.dataLe false fun z : V × Int × Int => PyData.int z.2.1) (s := PySem.W.dataLe false (·.2)) (f := fun z : V × Int × Int => (z.1, PyData.int z.2.1)) (l := zs) fun _ _ _ _ => rfl
          rw [← e, List.map_map]
          rfl
        · rw [formS_of, e1, e0]
          rfl

theorem ok_go_as_true_time {P : Program} {w : World} {K : PySem.W.Frag} {mg : Str → Option Value} {base : Heap} {a : Nat → Addr} {d : Nat → FuncData} (T : Txt K mg a d) : FnOk P w K mg base CX0 1 (a 18) (d 18) ["dealings"] (spGo K) := by
  refine T.F_go_as_true_time.ok sc_go_as_true_time (fun vs H Q E h => ?_) (fun cdv A outer s0 H vs Q E hr h => ?_)
  · obtain ⟨l, zs, rfl, hl, hz, q⟩ := h
    rfl
  · obtain ⟨l, zs, rfl, hl, hz, q⟩ := h
    refine ⟨_, (pss_cons (ps_set (i := 1) sc_go_as_true_time.nd rfl (Or.inl rfl) pe_non) (pss_cons (ps_for PassesOwn.never rfl (pi_list (pv 0)) (pg_tup (by rfl) (pgs_cons (pg_name (i := 2) sc_go_as_true_time.nd rfl (.inl rfl)) (pgs_cons (pg_name (i := 3) sc_go_as_true_time.nd rfl (.inl rfl)) (pgs_cons (pg_name (i := 4) sc_go_as_true_time.nd rfl (.inl rfl)) (pgs_cons (pg_name (i := 5) sc_go_as_true_time.nd rfl (.inl rfl)) (pgs_cons (pg_name (i := 6) sc_go_as_true_time.nd rfl (.inl rfl)) (pgs_cons (pg_name (i := 7) sc_go_as_true_time.nd rfl (.inl rfl)) (pgs_cons (pg_name (i := 8) sc_go_as_true_time.nd rfl (.inl rfl)) pgs_nil)))))))) (pss_cons (ps_if (PW.pt (pw_and (pt_cmpR op_notN (pv 1) pe_non (nomark _)) (pw_and1 (pt_cmpR op_le (pv 5) (pv 1) (nomark _))))) (pss_one (ps_ret pe_bl)) pss_nil) (pss_one (ps_set (i := 1) sc_go_as_true_time.nd rfl (Or.inl rfl) (pe_ifExp (pt_cmpR op_isN (pv 1) pe_non (nomark _)) (pv 4) (pe_callB (call_max2 rfl) (by rfl) T.z_max (by decide +kernel) (pa_cons (pv 1) (pa_cons (pv 4) pa_nil)))))))) (pss_one (ps_ret pe_bl)))), ?_⟩
    refine ⟨_, rfl, l, rfl, ⟨_, hl⟩, ?_⟩
    refine for_list (K := K) (a := l) (xs := zs.map (·.1)) (fun i σ H' => H' = H ∧ ∃ o : Option Int, (∃ x1 x2 x3 x4 x5 x6 x7, σ = [some (.ref l), some (fV o), x1, x2, x3, x4, x5, x6, x7]) ∧ goB o ((zs.drop i).map (·.2)) = goB none (zs.map (·.2))) ⟨rfl, none, ⟨none, none, none, none, none, none, none, rfl⟩, rfl⟩ (fun i σ H' _ z => by rw [z.1]; exact hl) ?_ ?_
    · rintro i v σ H' hi ⟨rfl, o, ⟨x1, x2, x3, x4, x5, x6, x7, rfl⟩, hg⟩
      rw [List.getElem?_map] at hi
      cases ez : zs[i]? with
      | none => rw [ez] at hi; cases hi
      | some z =>
        rw [ez] at hi
        cases hi
        obtain ⟨p, ps, rl, wl, xs, ys, D⟩ := deal_at (hz z (List.mem_of_getElem? ez))
        rw [take_zip ez, List.map_cons] at hg
        refine ⟨p, _, D.e, D.row, rfl, _, _, rfl, _, _, rfl, _, _, rfl, _, _, rfl, _, _, rfl, _, _, rfl, _, _, rfl, rfl, ?_⟩
        cases o with
        | none =>
          refine ⟨_, rfl, rfl, _, rfl, iteNSD rfl ⟨_, rfl, rfl, _, rfl, iteDT rfl ⟨_, rfl, rfl, some z.2.beg, ⟨_, _, _, _, _, _, _, rfl⟩, hg⟩⟩⟩
        | some n =>
          refine ⟨_, rfl, rfl, _, rfl, iteND (by simp [fV]) ⟨_, rfl, _, rfl, z.2.told, n, rfl, rfl, _, rfl, ?_⟩⟩
          have hg : (!decide (z.2.told ≤ n) && goB (some (max n z.2.beg)) ((zs.drop (i + 1)).map (·.2))) = goB none (zs.map (·.2)) := hg
          by_cases c : z.2.told ≤ n
          · refine iteDT c (bq (Q := Q) ?_ (q _ (Same.refl _)))
            rw [← hg, decide_eq_true c]
            rfl
          · rw [decide_eq_false c] at hg
            refine iteDF c ⟨_, rfl, rfl, _, rfl, iteDF (by simp [fV]) ⟨_, rfl, _, rfl, n, z.2.beg, rfl, rfl, ?_⟩⟩
            have e : (if z.2.beg > n then z.2.beg else n) = max n z.2.beg := by
              split <;> omega
            refine ⟨some (if z.2.beg > n then z.2.beg else n), ⟨_, _, _, _, _, _, _, rfl⟩, ?_⟩
            rw [e]
            exact hg
    · rintro σ H' ⟨rfl, o, ⟨x1, x2, x3, x4, x5, x6, x7, rfl⟩, hg⟩
      refine bq (Q := Q) ?_ (q _ (Same.refl _))
      rw [List.length_map, List.drop_length] at hg
      cases o <;> exact hg.symm

theorem ok_lacks_one_told {P : Program} {w : World} {K : PySem.W.Frag} {mg : Str → Option Value} {base : Heap} {a : Nat → Addr} {d : Nat → FuncData} (T : Txt K mg a d) : FnOk P w K mg base CX0 1 (a 22) (d 22) ["dealings", "asked", "time"] (spLack K) := by
  refine T.F_lacks_one_told.ok sc_lacks_one_told (fun vs H Q E h => ?_) (fun cdv A outer s0 H vs Q E hr h => ?_)
  · obtain ⟨l, zs, x, t, rfl, hl, hz, hn, q⟩ := h
    rfl
  · obtain ⟨l, zs, x, t, rfl, hl, hz, hn, q⟩ := h
    refine ⟨_, (pss_one (ps_ret (pe_callB (cr_any rfl) (by rfl) T.z_any (by decide +kernel) (pa_cons (pe_lc (own := [("row", 3)]) (g := gName 3) (te := (tAndV (tOp (rI0 fun i j => .bl (decide (i ≤ j))) (tOp (rIxT K) (tVar 3) (tC (.int 3))) (tVar 1)) (tOp (rI0 fun i j => .bl (decide (j < i))) (tOp (rIxT K) (tOp (rIxT K) (tVar 3) (tC (.int 4))) (tC (.int 0))) (tVar 2)))) (by rfl) sc_lacks_one_told.nd (pi_list (pv 0)) (blkOk_by (own := [("row", 3)]) (N := ["dealings", "asked", "time", "row"]) (sc := defScope s_lacks_one_told) (by decide +kernel)) (fun _ _ _ _ _ => (pg_name (i := 3) sc_lacks_one_told.nd rfl (.inl rfl))) (fun _ _ _ _ _ => pts_nil) (fun _ _ _ _ _ => (pe_and (pe_cmpR op_le (pe_ix ix_tup (pv 3) pe_int (fun _ _ => rfl)) (pv 1) (nomark _)) (pe_one (pe_cmpR op_gt (pe_ix ix_tup (pe_ix ix_tup (pv 3) pe_int (fun _ _ => rfl)) pe_int (fun _ _ => rfl)) (pv 2) (nomark _)))))) pa_nil)))), ?_⟩
    refine ⟨_, rfl, l, rfl, ⟨_, hl⟩, fun D nD => ?_⟩
    refine lc_list (K := K) (a := l) (xs := zs.map (·.1)) (fun j H' => Same H H' ∧ H' D = some (.lst ((zs.take j).map fun z => V.bl (decide (z.2.told ≤ x) && decide (t < z.2.s1))))) ⟨same_new (Same.refl H) nD, upd_same⟩ (fun j H' _ z => z.1.seq hl) ?_ ?_
    · rintro j v HA hj ⟨sA, hD⟩
      rw [List.getElem?_map] at hj
      cases ez : zs[j]? with
      | none => rw [ez] at hj; cases hj
      | some z =>
        rw [ez] at hj
        cases hj
        obtain ⟨p, ps, rl, wl, xs, ys, D0⟩ := deal_at (hz z (List.mem_of_getElem? ez))
        have fin : ∀ b, (decide (z.2.told ≤ x) && decide (t < z.2.s1)) = b → ∃ acc, HA D = some (.lst acc) ∧ acc.length < sizeLine ∧ (Same H (upd HA D (.lst (acc ++ [V.bl b]))) ∧ (upd HA D (.lst (acc ++ [V.bl b]))) D = some (.lst ((zs.take (j + 1)).map fun z => V.bl (decide (z.2.told ≤ x) && decide (t < z.2.s1))))) := by
          rintro b rfl
          refine ⟨_, hD, ?_, fun b o w => ?_, ?_⟩
          · rw [List.length_map, List.length_take]
            exact Nat.lt_of_lt_of_le (show _ < 1001 by omega) (by decide)
          · rw [upd_ne (ne_of_none w nD)]
            exact sA _ _ w
          · rw [upd_same, List.take_add_one, ez, List.map_append]
            rfl
        refine ⟨rfl, _, rfl, p, _, 3, _, D0.e, rfl, same_sqt sA D0.row, atI_nat (j := 3) rfl, _, rfl, z.2.told, x, rfl, rfl, _, rfl, ?_⟩
        by_cases c : z.2.told ≤ x
        · refine iteDT c ⟨_, rfl, p, _, 4, _, D0.e, rfl, same_sqt sA D0.row, atI_nat (j := 4) rfl, ps, _, 0, _, rfl, rfl, same_sqt sA D0.st, atI_nat (j := 0) rfl, _, rfl, z.2.s1, t, rfl, rfl, ?_⟩
          exact fin _ (by rw [decide_eq_true c, Bool.true_and])
        · exact iteDF c (fin false (by rw [decide_eq_false c, Bool.false_and]))
    · rintro HA ⟨sA, hD⟩
      rw [List.length_map, List.take_length] at hD
      refine ⟨D, zs.map (fun z => decide (z.2.told ≤ x) && decide (t < z.2.s1)), rfl, SqL.of (by rw [hD, List.map_map]; rfl), ?_⟩
      refine bq (Q := Q) ?_ (q HA sA)
      unfold lackB
      rw [List.any_map, List.any_map]
      rfl

theorem ok_are_fit {P : Program} {w : World} {K : PySem.W.Frag} {mg : Str → Option Value} {base : Heap} {a : Nat → Addr} {d : Nat → FuncData} (T : Txt K mg a d) : FnOk P w K mg base CX0 3 (a 17) (d 17) ["dealings"] (spFit K) := by
  refine T.F_are_fit.ok sc_are_fit (fun vs H Q E h => ?_) (fun cdv A outer s0 H vs Q E hr h => ?_)
  · obtain ⟨l, zs, rfl, hl, hz, hn, hsz, q⟩ := h
    rfl
  · obtain ⟨l, zs, rfl, hl, hz, hn, hsz, q⟩ := h
    refine ⟨_, (pss_cons (ps_if (PW.pt (pw_or (pt_not (pt_truth (pe_call (ok_are_unlike T) (hr.mono (by decide)) (by rfl) T.g_are_unlike T.F_are_unlike.kp T.b_are_unlike .nil pass0 (pa_cons (pe_lc (own := [("row", 8)]) (g := gName 8) (te := (tOp (rIxT K) (tVar 8) (tC (.int 1)))) (by rfl) sc_are_fit.nd (pi_list (pv 0)) (blkOk_by (own := [("row", 8)]) (N := ["dealings", "word", "number", "begun", "told", "stamp", "reads", "writes", "row"]) (sc := defScope s_are_fit) (by decide +kernel)) (fun _ _ _ _ _ => (pg_name (i := 8) sc_are_fit.nd rfl (.inl rfl))) (fun _ _ _ _ _ => pts_nil) (fun _ _ _ _ _ => (pe_ix ix_tup (pv 8) pe_int (fun _ _ => rfl)))) pa_nil)) (by intro _; rfl))) (pw_or1 (pt_not (pt_truth (pe_call (ok_are_unlike T) (hr.mono (by decide)) (by rfl) T.g_are_unlike T.F_are_unlike.kp T.b_are_unlike .nil pass0 (pa_cons (pe_lc (own := [("row", 8)]) (g := gName 8) (te := (tOp (rIxT K) (tVar 8) (tC (.int 4)))) (by rfl) sc_are_fit.nd (pi_list (pv 0)) (blkOk_by (own := [("row", 8)]) (N := ["dealings", "word", "number", "begun", "told", "stamp", "reads", "writes", "row"]) (sc := defScope s_are_fit) (by decide +kernel)) (fun _ _ _ _ _ => (pg_name (i := 8) sc_are_fit.nd rfl (.inl rfl))) (fun _ _ _ _ _ => pts_nil) (fun _ _ _ _ _ => (pe_ix ix_tup (pv 8) pe_int (fun _ _ => rfl)))) pa_nil)) (by intro _; rfl)))))) (pss_one (ps_ret pe_bl)) pss_nil) (pss_cons (ps_for PassesOwn.never rfl (pi_list (pv 0)) (pg_tup (by rfl) (pgs_cons (pg_name (i := 1) sc_are_fit.nd rfl (.inl rfl)) (pgs_cons (pg_name (i := 2) sc_are_fit.nd rfl (.inl rfl)) (pgs_cons (pg_name (i := 3) sc_are_fit.nd rfl (.inl rfl)) (pgs_cons (pg_name (i := 4) sc_are_fit.nd rfl (.inl rfl)) (pgs_cons (pg_name (i := 5) sc_are_fit.nd rfl (.inl rfl)) (pgs_cons (pg_name (i := 6) sc_are_fit.nd rfl (.inl rfl)) (pgs_cons (pg_name (i := 7) sc_are_fit.nd rfl (.inl rfl)) pgs_nil)))))))) (pss_one (ps_if (PW.pt (pw_or (pt_cmpR op_lt (pv 4) (pv 3) (nomark _)) (pw_or (pt_not (pt_truth (pe_call (ok_have_unlike_keys T) (hr.mono (by decide)) (by rfl) T.g_have_unlike_keys T.F_have_unlike_keys.kp T.b_have_unlike_keys .nil pass0 (pa_cons (pv 6) pa_nil)) (by intro _; rfl))) (pw_or1 (pt_not (pt_truth (pe_call (ok_have_unlike_keys T) (hr.mono (by decide)) (by rfl) T.g_have_unlike_keys T.F_have_unlike_keys.kp T.b_have_unlike_keys .nil pass0 (pa_cons (pv 7) pa_nil)) (by intro _; rfl))))))) (pss_one (ps_ret pe_bl)) pss_nil))) (pss_one (ps_ret pe_bl)))), ?_⟩
    refine ⟨_, rfl, l, rfl, ⟨_, hl⟩, fun D nD => ?_⟩
    refine lc_list (K := K) (a := l) (xs := zs.map (·.1)) (fun j H' => Same H H' ∧ H' D = some (.lst ((zs.take j).map fun z => V.int z.2.num))) ⟨same_new (Same.refl H) nD, upd_same⟩ (fun j H' _ z => z.1.seq hl) ?_ ?_
    · rintro j v HA hj ⟨sA, hD⟩
      rw [List.getElem?_map] at hj
      cases ez : zs[j]? with
      | none => rw [ez] at hj; cases hj
      | some z =>
        rw [ez] at hj
        cases hj
        obtain ⟨p, ps, rl, wl, xs, ys, D0⟩ := deal_at (hz z (List.mem_of_getElem? ez))
        refine ⟨rfl, _, rfl, p, _, 1, _, D0.e, rfl, same_sqt sA D0.row, atI_nat (j := 1) rfl, _, hD, ?_, fun b o w => ?_, ?_⟩
        · rw [List.length_map, List.length_take]
          exact Nat.lt_of_lt_of_le (show _ < 1001 by omega) (by decide)
        · rw [upd_ne (ne_of_none w nD)]
          exact sA _ _ w
        · rw [upd_same, List.take_add_one, ez, List.map_append]
          rfl
    rintro HA ⟨sA, hD⟩
    rw [List.length_map, List.take_length] at hD
    refine ⟨D, rfl, .inl ⟨(zs.map (·.2.num)).map Sum.inl, SqL.of (by rw [hD, List.map_map, List.map_map]; rfl), by rw [List.length_map, List.length_map]; omega, fun HB sB => ⟨_, rfl, ?_⟩⟩⟩
    have s1 := sA.trans sB
    have q : ∀ H', Same H H' → Q (.bl (decide ((zs.map (·.2)).map (·.num)).Nodup && decide ((zs.map (·.2)).map (·.st)).Nodup && (zs.map (·.2)).all fun d => !decide (d.told < d.beg) && (decide (d.rs.map (·.1)).Nodup && decide (d.ws.map (·.1)).Nodup))) H' := q
    have en : ((zs.map (·.2)).map (·.num)) = zs.map (·.2.num) := by rw [List.map_map]; rfl
    have es : ((zs.map (·.2)).map (·.st)) = zs.map (·.2.st) := by rw [List.map_map]; rfl
    rw [en, es] at q
    by_cases c1 : (zs.map (·.2.num)).Nodup
    · rw [decide_eq_true c1, Bool.true_and] at q
      refine iteNSD (nodup_inl.mpr c1) ⟨_, rfl, l, rfl, ⟨_, s1.seq hl⟩, fun D2 nD2 => ?_⟩
      refine lc_list (K := K) (a := l) (xs := zs.map (·.1)) (fun j H' => Same HB H' ∧ ∃ ts : List (Addr × List Int), H' D2 = some (.lst (ts.map fun p => V.ref p.1)) ∧ (∀ p ∈ ts, SqT K HB p.1 (p.2.map V.int)) ∧ ts.map (·.2) = (zs.take j).map (·.2.st)) ⟨same_new (Same.refl HB) nD2, [], upd_same, fun p hp => (by cases hp), rfl⟩ (fun j H' _ z => z.1.seq (s1.seq hl)) ?_ ?_
      · rintro j v HC hj ⟨sC, ts, hD2, ht, e1⟩
        rw [List.getElem?_map] at hj
        cases ez : zs[j]? with
        | none => rw [ez] at hj; cases hj
        | some z =>
          rw [ez] at hj
          cases hj
          obtain ⟨p, ps, rl, wl, xs, ys, D0⟩ := deal_at (hz z (List.mem_of_getElem? ez))
          have hjl := (List.getElem?_eq_some_iff.mp ez).1
          have hts : ts.length ≤ j := by
            have := congrArg List.length e1
            rw [List.length_map, List.length_map, List.length_take] at this
            omega
          refine ⟨rfl, _, rfl, p, _, 4, _, D0.e, rfl, same_sqt (s1.trans sC) D0.row, atI_nat (j := 4) rfl, _, hD2, ?_, fun b o w => ?_, ts ++ [(ps, z.2.st)], ?_, ?_, ?_⟩
          · rw [List.length_map]
            exact Nat.lt_of_lt_of_le (show _ < 1001 by omega) (by decide)
          · rw [upd_ne (ne_of_none w nD2)]
            exact sC _ _ w
          · rw [upd_same, List.map_append]
            rfl
          · intro y hy
            rcases List.mem_append.mp hy with hy | hy
            · exact ht y hy
            · cases List.mem_singleton.mp hy
              exact same_sqt s1 D0.st
          · rw [List.map_append, e1, List.take_add_one, ez, List.map_append]
            rfl
      · rintro HC ⟨sC, ts, hD2, ht, e1⟩
        rw [List.length_map, List.take_length] at e1
        have s2 := s1.trans sC
        have htl : ts.length = zs.length := by
          have := congrArg List.length e1
          rw [List.length_map, List.length_map] at this
          exact this
        refine ⟨D2, rfl, .inr ⟨ts, SqL.of hD2, fun p hp => same_sqt sC (ht p hp), by omega, fun HD sD => ⟨_, rfl, ?_⟩⟩⟩
        have s3 := s2.trans sD
        rw [e1]
        by_cases c2 : (zs.map (·.2.st)).Nodup
        · rw [decide_eq_true c2, Bool.true_and] at q
          refine iteNSD c2 ?_
          refine ⟨_, rfl, l, rfl, ⟨_, s3.seq hl⟩, ?_⟩
          refine for_list (K := K) (a := l) (xs := zs.map (·.1)) (fun i σ H' => Same H H' ∧ (∃ x1 x2 x3 x4 x5 x6 x7 x8, σ = [some (.ref l), x1, x2, x3, x4, x5, x6, x7, x8]) ∧ ((zs.take i).all fun z => !decide (z.2.told < z.2.beg) && (decide (z.2.rs.map (·.1)).Nodup && decide (z.2.ws.map (·.1)).Nodup)) = true) ⟨s3, ⟨_, _, _, _, _, _, _, _, rfl⟩, rfl⟩ (fun i σ H' _ z => z.1.seq hl) ?_ ?_
          · rintro i v σ HE hi ⟨sE, ⟨x1, x2, x3, x4, x5, x6, x7, x8, rfl⟩, hg⟩
            rw [List.getElem?_map] at hi
            cases ez : zs[i]? with
            | none => rw [ez] at hi; cases hi
            | some z =>
              rw [ez] at hi
              cases hi
              have hm := List.mem_of_getElem? ez
              obtain ⟨p, ps, rl, wl, xs, ys, D0⟩ := deal_at (hz z hm)
              obtain ⟨l1, l2⟩ := hsz z hm
              have bad : (!decide (z.2.told < z.2.beg) && (decide (z.2.rs.map (·.1)).Nodup && decide (z.2.ws.map (·.1)).Nodup)) = false → ((zs.map (·.2)).all fun d => !decide (d.told < d.beg) && (decide (d.rs.map (·.1)).Nodup && decide (d.ws.map (·.1)).Nodup)) = false := fun h => by
                rw [← Bool.not_eq_true, List.all_eq_true]
                intro g
                have := g z.2 (List.mem_map_of_mem hm)
                rw [h] at this
                cases this
              refine ⟨p, _, D0.e, same_sqt sE D0.row, rfl, _, _, rfl, _, _, rfl, _, _, rfl, _, _, rfl, _, _, rfl, _, _, rfl, _, _, rfl, rfl, _, rfl, _, rfl, z.2.told, z.2.beg, rfl, rfl, _, rfl, ?_⟩
              by_cases ct : z.2.told < z.2.beg
              · refine iteDT ct (bq (Q := Q) ?_ (q _ sE))
                exact bad (by rw [decide_eq_true ct]; rfl)
              · rw [decide_eq_false ct] at bad
                refine iteDF ct ⟨_, rfl, rl, xs, z.2.rs.map (·.1), rfl, sE.seq D0.rl, ?_, ?_, ?_, fun HF sF => ⟨_, rfl, ?_⟩⟩
                · have := (dpall_len D0.rs)
                  rw [List.length_map] at this
                  omega
                · have := (dpall_len D0.rs)
                  rw [List.length_map] at this
                  rw [this, List.length_map]
                · intro i v k hv hk
                  obtain ⟨d', e1, hd⟩ := dpall_get D0.rs hv
                  rw [List.getElem?_map] at e1 hk
                  cases er : z.2.rs[i]? with
                  | none => rw [er] at e1; cases e1
                  | some pr =>
                    rw [er] at e1 hk
                    cases e1
                    cases hk
                    obtain ⟨q', u, e, hq, _⟩ := rp_at hd
                    exact ⟨q', u, e, same_sqt sE hq⟩
                have s4 := sE.trans sF
                by_cases c3 : (z.2.rs.map (·.1)).Nodup
                · rw [decide_eq_true c3] at bad
                  refine iteNSD c3 ⟨_, rfl, wl, ys, z.2.ws.map (·.1), rfl, s4.seq D0.wl, ?_, ?_, ?_, fun HG sG => ⟨_, rfl, ?_⟩⟩
                  · have := (dpall_len D0.ws)
                    rw [List.length_map] at this
                    omega
                  · have := (dpall_len D0.ws)
                    rw [List.length_map] at this
                    rw [this, List.length_map]
                  · intro i v k hv hk
                    obtain ⟨d', e1, hd⟩ := dpall_get D0.ws hv
                    rw [List.getElem?_map] at e1 hk
                    cases er : z.2.ws[i]? with
                    | none => rw [er] at e1; cases e1
                    | some pr =>
                      rw [er] at e1 hk
                      cases e1
                      cases hk
                      obtain ⟨q', u, e, hq, _⟩ := wp_at hd
                      exact ⟨q', u, e, same_sqt s4 hq⟩
                  have s5 := s4.trans sG
                  by_cases c4 : (z.2.ws.map (·.1)).Nodup
                  · refine iteNSD c4 ⟨s5, ⟨_, _, _, _, _, _, _, _, rfl⟩, ?_⟩
                    rw [List.take_add_one, ez, List.all_append, hg]
                    simp [ct, c3, c4]
                  · refine iteND c4 (bq (Q := Q) ?_ (q _ s5))
                    exact bad (by rw [decide_eq_false c4]; rfl)
                · refine iteND c3 (bq (Q := Q) ?_ (q _ s4))
                  exact bad (by rw [decide_eq_false c3]; rfl)
          · rintro σ HE ⟨sE, _, hg⟩
            rw [List.length_map, List.take_length] at hg
            refine bq (Q := Q) ?_ (q _ sE)
            rw [List.all_map]
            exact hg
        · refine iteND c2 (bq (Q := Q) ?_ (q HD s3))
          rw [decide_eq_false c2, Bool.false_and]
    · refine iteND (fun e => c1 (nodup_inl.mp e)) (bq (Q := Q) ?_ (q HB s1))
      rw [decide_eq_false c1, Bool.false_and, Bool.false_and]

theorem ok_read_what_was_written {P : Program} {w : World} {K : PySem.W.Frag} {mg : Str → Option Value} {base : Heap} {a : Nat → Addr} {d : Nat → FuncData} (T : Txt K mg a d) : FnOk P w K mg base CX0 1 (a 19) (d 19) ["dealings"] (spRead K) := by
  refine T.F_read_what_was_written.ok sc_read_what_was_written (fun vs H Q E h => ?_) (fun cdv A outer s0 H vs Q E hr h => ?_)
  · obtain ⟨l, zs, rfl, hl, hz, hn, hsz, q⟩ := h
    rfl
  · obtain ⟨l, zs, rfl, hl, hz, hn, hsz, q⟩ := h
    refine ⟨_, (pss_cons (ps_set (i := 1) sc_read_what_was_written.nd rfl (Or.inr rfl) pe_dnewK) (pss_cons (ps_for PassesOwn.never rfl (pi_list (pv 0)) (pg_tup (by rfl) (pgs_cons (pg_name (i := 2) sc_read_what_was_written.nd rfl (.inl rfl)) (pgs_cons (pg_name (i := 3) sc_read_what_was_written.nd rfl (.inl rfl)) (pgs_cons (pg_name (i := 4) sc_read_what_was_written.nd rfl (.inl rfl)) (pgs_cons (pg_name (i := 5) sc_read_what_was_written.nd rfl (.inl rfl)) (pgs_cons (pg_name (i := 6) sc_read_what_was_written.nd rfl (.inl rfl)) (pgs_cons (pg_name (i := 7) sc_read_what_was_written.nd rfl (.inl rfl)) (pgs_cons (pg_name (i := 8) sc_read_what_was_written.nd rfl (.inl rfl)) pgs_nil)))))))) (pss_cons (ps_if (pt_not (pt_truth (pe_callB (cr_all rfl) (by rfl) T.z_all (by decide +kernel) (pa_cons (pe_lc (own := [("key", 9), ("worth", 10)]) (g := (gTup K 2 (gCons (gName 9) (gCons (gName 10) gNil)))) (te := (tOp (rEqD K) (tDGet1 (tVar 1) (tVar 9)) (tVar 10))) (by rfl) sc_read_what_was_written.nd (pi_list (pv 7)) (blkOk_by (own := [("key", 9), ("worth", 10)]) (N := ["dealings", "worths", "word", "number", "begun", "told", "stamp", "reads", "writes", "key", "worth"]) (sc := defScope s_read_what_was_written) (by decide +kernel)) (fun _ _ _ _ _ => (pg_tup (by rfl) (pgs_cons (pg_name (i := 9) sc_read_what_was_written.nd rfl (.inl rfl)) (pgs_cons (pg_name (i := 10) sc_read_what_was_written.nd rfl (.inl rfl)) pgs_nil)))) (fun _ _ _ _ _ => pts_nil) (fun _ _ _ _ _ => (pe_cmpR (op_eqD hr.units) (pe_dget1 (hu_of hr) (pv 1) (pv 9) ⟨rfl, rfl, rfl, rfl⟩) (pv 10) (nomark _)))) pa_nil)) (by intro _; rfl))) (pss_one (ps_ret pe_bl)) pss_nil) (pss_one (ps_for PassesOwn.never rfl (pi_list (pv 8)) (pg_tup (by rfl) (pgs_cons (pg_name (i := 9) sc_read_what_was_written.nd rfl (.inl rfl)) (pgs_cons (pg_name (i := 10) sc_read_what_was_written.nd rfl (.inl rfl)) pgs_nil))) (pss_one (ps_dput (hu_of hr) (pv 1) (pv 9) (pv 10) rfl)))))) (pss_one (ps_ret pe_bl)))), ?_⟩
    refine fun W nW => ?_
    have s0 : Same H (upd H W (.dK [])) := same_new (Same.refl H) nW
    have hW0 : (upd H W (.dK [])) W = some (.dK []) := upd_same
    generalize (upd H W (.dK [])) = H0 at s0 hW0 ⊢
    refine ⟨_, rfl, l, rfl, ⟨_, s0.seq hl⟩, ?_⟩
    refine for_list (K := K) (a := l) (xs := zs.map (·.1)) (fun i σ H' => Same H H' ∧ (∃ x1 x2 x3 x4 x5 x6 x7 x8 x9, σ = [some (.ref l), some (.ref W), x1, x2, x3, x4, x5, x6, x7, x8, x9]) ∧ ∃ kvs m, H' W = some (.dK kvs) ∧ WM K H kvs m ∧ kvs.length ≤ 1000 * i ∧ rdB m ((zs.drop i).map (·.2)) = rdB (fun _ => none) (zs.map (·.2))) ⟨s0, ⟨_, _, _, _, _, _, _, _, _, rfl⟩, [], _, hW0, WM.nil, Nat.zero_le _, rfl⟩ (fun i σ H' _ z => z.1.seq hl) ?_ ?_
    · rintro i v σ HA hi ⟨sA, ⟨x1, x2, x3, x4, x5, x6, x7, x8, x9, rfl⟩, kvs, m, hW, hm, hk, hg⟩
      rw [List.getElem?_map] at hi
      cases ez : zs[i]? with
      | none => rw [ez] at hi; cases hi
      | some z =>
        rw [ez] at hi
        cases hi
        have hmem := List.mem_of_getElem? ez
        have hil := (List.getElem?_eq_some_iff.mp ez).1
        obtain ⟨p, ps, rl, wl, xs, ys, D0⟩ := deal_at (hz z hmem)
        obtain ⟨l1, l2, g1, g2⟩ := hsz z hmem
        rw [take_zip ez, List.map_cons] at hg
        have hg : ((z.2.rs.all fun p => decide (m p.1 = p.2)) && rdB (z.2.ws.foldl putW m) ((zs.drop (i + 1)).map (·.2))) = rdB (fun _ => none) (zs.map (·.2)) := hg
        have hxl : xs.length = z.2.rs.length := by have := dpall_len D0.rs; rw [List.length_map] at this; exact this
        have hyl : ys.length = z.2.ws.length := by have := dpall_len D0.ws; rw [List.length_map] at this; exact this
        refine ⟨p, _, D0.e, same_sqt sA D0.row, rfl, _, _, rfl, _, _, rfl, _, _, rfl, _, _, rfl, _, _, rfl, _, _, rfl, _, _, rfl, rfl, _, rfl, rl, rfl, ⟨_, sA.seq D0.rl⟩, fun D nD => ?_⟩
        refine lc_list (K := K) (a := rl) (xs := xs) (fun j H' => Same HA H' ∧ H' D = some (.lst ((z.2.rs.take j).map fun p => V.bl (decide (m p.1 = p.2))))) ⟨same_new (Same.refl HA) nD, upd_same⟩ (fun j H' _ z => (sA.trans z.1).seq D0.rl) ?_ ?_
        · rintro j v HB hj ⟨sB, hD⟩
          obtain ⟨d', e1, hd⟩ := dpall_get D0.rs hj
          rw [List.getElem?_map] at e1
          cases er : z.2.rs[j]? with
          | none => rw [er] at e1; cases e1
          | some pr =>
            rw [er] at e1
            cases e1
            obtain ⟨q', u, e, hq, hu⟩ := rp_at hd
            have sAB := sA.trans sB
            have hWB := sB _ _ hW
            have key : Dp K HB ((valV kvs (Sum.inr pr.1)).getD .non) (owD (m pr.1)) := dp_ext (LamX.ExtN.of sAB) (hm pr.1)
            refine ⟨q', _, e, same_sqt sAB hq, rfl, _, _, rfl, _, _, rfl, rfl, rfl, _, rfl, W, rfl, .inl ⟨kvs, .inl hWB⟩, _, rfl, _, DGet.k (k := Sum.inr pr.1) hWB, _, rfl, owD (m pr.1), owD pr.2, key, dp_ext (LamX.ExtN.of sAB) hu, shaped_ow _, shaped_ow _, ?_⟩
            rw [eqv_ow]
            refine ⟨_, hD, ?_, fun b o w => ?_, ?_⟩
            · rw [List.length_map, List.length_take]
              exact Nat.lt_of_lt_of_le (show _ < 1001 by omega) (by decide)
            · rw [upd_ne (ne_of_none w nD)]
              exact sB _ _ w
            · rw [upd_same, List.take_add_one, er, List.map_append]
              rfl
        · rintro HB ⟨sB, hD⟩
          rw [hxl, List.take_length] at hD
          have sAB := sA.trans sB
          refine ⟨D, z.2.rs.map (fun p => decide (m p.1 = p.2)), rfl, SqL.of (by rw [hD, List.map_map]; rfl), _, rfl, ?_⟩
          have ea : ((z.2.rs.map (fun p => decide (m p.1 = p.2))).all id) = z.2.rs.all fun p => decide (m p.1 = p.2) := by rw [List.all_map]; rfl
          cases ca : z.2.rs.all fun p => decide (m p.1 = p.2) with
          | false =>
            refine iteNB (ea.trans ca) (bq (Q := Q) ?_ (q _ sAB))
            rw [← hg, ca]
            rfl
          | true =>
            rw [ca, Bool.true_and] at hg
            refine iteNSB (ea.trans ca) ⟨_, rfl, wl, rfl, ⟨_, sAB.seq D0.wl⟩, ?_⟩
            refine for_list (K := K) (a := wl) (xs := ys) (fun j σ H' => Same H H' ∧ (∃ x1 x2 x3 x4 x5 x6 x7 x8 x9, σ = [some (.ref l), some (.ref W), x1, x2, x3, x4, x5, x6, x7, x8, x9]) ∧ ∃ kvs', H' W = some (.dK kvs') ∧ WM K H kvs' ((z.2.ws.take j).foldl putW m) ∧ kvs'.length ≤ 1000 * i + j) ⟨sAB, ⟨_, _, _, _, _, _, _, _, _, rfl⟩, kvs, sB _ _ hW, hm, hk⟩ (fun j σ H' _ z => z.1.seq D0.wl) ?_ ?_
            · rintro j v σ HC hj ⟨sC, ⟨x1, x2, x3, x4, x5, x6, x7, x8, x9, rfl⟩, kvs', hWC, hmC, hkC⟩
              obtain ⟨d', e1, hd⟩ := dpall_get D0.ws hj
              have hjl := (List.getElem?_eq_some_iff.mp hj).1
              rw [List.getElem?_map] at e1
              cases er : z.2.ws[j]? with
              | none => rw [er] at e1; cases e1
              | some pr =>
                rw [er] at e1
                cases e1
                obtain ⟨q', u, e, hq, hu⟩ := wp_at hd
                refine ⟨q', _, e, same_sqt sC hq, rfl, _, _, rfl, _, _, rfl, rfl, _, rfl, _, rfl, _, rfl, W, _, rfl, DPut.k (k := Sum.inr pr.1) hWC (Nat.lt_of_le_of_lt (show _ ≤ 100000 by omega) (by decide)), fun b o w => ?_, ⟨_, _, _, _, _, _, _, _, _, rfl⟩, _, upd_same, ?_, ?_⟩
                · rw [upd_ne (ne_of_none w nW)]
                  exact sC _ _ w
                · rw [foldl_take putW m er]
                  exact hmC.put hu
                · have := length_putK kvs' (Sum.inr pr.1) u
                  omega
            · rintro σ HC ⟨sC, ⟨x1, x2, x3, x4, x5, x6, x7, x8, x9, rfl⟩, kvs', hWC, hmC, hkC⟩
              rw [hyl, List.take_length] at hmC
              exact ⟨sC, ⟨_, _, _, _, _, _, _, _, _, rfl⟩, kvs', _, hWC, hmC, by omega, hg⟩
    · rintro σ HA ⟨sA, ⟨x1, x2, x3, x4, x5, x6, x7, x8, x9, rfl⟩, kvs, m, hW, hm, hk, hg⟩
      refine bq (Q := Q) ?_ (q _ sA)
      rw [List.length_map, List.drop_length] at hg
      exact hg.symm

theorem ok_versions_by_keys {P : Program} {w : World} {K : PySem.W.Frag} {mg : Str → Option Value} {base : Heap} {a : Nat → Addr} {d : Nat → FuncData} (T : Txt K mg a d) : FnOk P w K mg base CX0 1 (a 20) (d 20) ["dealings"] (spVers K) := by
  refine T.F_versions_by_keys.ok sc_versions_by_keys (fun vs H Q E h => ?_) (fun cdv A outer s0 H vs Q E hr h => ?_)
  · obtain ⟨l, zs, rfl, hl, hz, hn, hsz, q⟩ := h
    rfl
  · obtain ⟨l, zs, rfl, hl, hz, hn, hsz, q⟩ := h
    refine ⟨_, (pss_cons (ps_set (i := 1) sc_versions_by_keys.nd rfl (Or.inl rfl) pe_dnewK) (pss_cons (ps_for PassesOwn.never rfl (pi_list (pv 0)) (pg_tup (by rfl) (pgs_cons (pg_name (i := 2) sc_versions_by_keys.nd rfl (.inl rfl)) (pgs_cons (pg_name (i := 3) sc_versions_by_keys.nd rfl (.inl rfl)) (pgs_cons (pg_name (i := 4) sc_versions_by_keys.nd rfl (.inl rfl)) (pgs_cons (pg_name (i := 5) sc_versions_by_keys.nd rfl (.inl rfl)) (pgs_cons (pg_name (i := 6) sc_versions_by_keys.nd rfl (.inl rfl)) (pgs_cons (pg_name (i := 7) sc_versions_by_keys.nd rfl (.inl rfl)) (pgs_cons (pg_name (i := 8) sc_versions_by_keys.nd rfl (.inl rfl)) pgs_nil)))))))) (pss_one (ps_for PassesOwn.never rfl (pi_list (pv 8)) (pg_tup (by rfl) (pgs_cons (pg_name (i := 9) sc_versions_by_keys.nd rfl (.inl rfl)) (pgs_cons (pg_name (i := 10) sc_versions_by_keys.nd rfl (.inl rfl)) pgs_nil))) (pss_cons (ps_set (i := 11) sc_versions_by_keys.nd rfl (Or.inl rfl) (pe_dget2 (hu_of hr) (pv 1) (pv 9) (pe_lst pa_nil) ⟨rfl, rfl, rfl, rfl⟩)) (pss_cons (ps_expr (pe_bm PySem.F.plainAttrs_list PySem.F.slot_list_append PySem.F.type_list_append mt_append (pv 11) (pa_cons (pe_tup (pa_cons (pe_ix ix_tup (pv 6) pe_int (fun _ _ => rfl)) (pa_cons (pv 10) pa_nil))) pa_nil))) (pss_one (ps_dput (hu_of hr) (pv 1) (pv 9) (pv 11) rfl))))))) (pss_one (ps_ret (pv 1))))), ?_⟩
    refine fun W nW => ?_
    have s0 : Same H (upd H W (.dK [])) := same_new (Same.refl H) nW
    have hW0 : (upd H W (.dK [])) W = some (.dK []) := upd_same
    generalize (upd H W (.dK [])) = H0 at s0 hW0 ⊢
    refine ⟨_, rfl, l, rfl, ⟨_, s0.seq hl⟩, ?_⟩
    have bound : ∀ (m : Str → List (Int × List Int)), True := fun _ => trivial
    refine for_list (K := K) (a := l) (xs := zs.map (·.1)) (fun i σ H' => Same H H' ∧ (∃ x1 x2 x3 x4 x5 x6 x7 x8 x9 x10, σ = [some (.ref l), some (.ref W), x1, x2, x3, x4, x5, x6, x7, x8, x9, x10]) ∧ ∃ kvs, H' W = some (.dK kvs) ∧ VM K H H' kvs (verS ((zs.take i).map (·.2))) ∧ kvs.length ≤ 1000 * i ∧ ∀ k, (verS ((zs.take i).map (·.2)) k).length ≤ 1000 * i) ⟨s0, ⟨_, _, _, _, _, _, _, _, _, _, rfl⟩, [], hW0, VM.nil, Nat.zero_le _, fun k => Nat.zero_le _⟩ (fun i σ H' _ z => z.1.seq hl) ?_ ?_
    · rintro i v σ HA hi ⟨sA, ⟨x1, x2, x3, x4, x5, x6, x7, x8, x9, x10, rfl⟩, kvs, hW, hm, hk, hv⟩
      rw [List.getElem?_map] at hi
      cases ez : zs[i]? with
      | none => rw [ez] at hi; cases hi
      | some z =>
        rw [ez] at hi
        cases hi
        have hmem := List.mem_of_getElem? ez
        have hil := (List.getElem?_eq_some_iff.mp ez).1
        obtain ⟨p, ps, rl, wl, xs, ys, D0⟩ := deal_at (hz z hmem)
        have l2 := hsz z hmem
        have hyl : ys.length = z.2.ws.length := by have := dpall_len D0.ws; rw [List.length_map] at this; exact this
        have estep : verS ((zs.take (i + 1)).map (·.2)) = z.2.ws.foldl (addV z.2.s1) (verS ((zs.take i).map (·.2))) := by
          unfold verS
          rw [List.take_add_one, ez, List.map_append, List.foldl_append]
          rfl
        generalize verS ((zs.take i).map (·.2)) = m at hm hv estep
        refine ⟨p, _, D0.e, same_sqt sA D0.row, rfl, _, _, rfl, _, _, rfl, _, _, rfl, _, _, rfl, _, _, rfl, _, _, rfl, _, _, rfl, rfl, _, rfl, wl, rfl, ⟨_, sA.seq D0.wl⟩, ?_⟩
        refine for_list (K := K) (a := wl) (xs := ys) (fun j σ H' => Same H H' ∧ (∃ x1 x2 x3 x4 x5 x6 x7 x8 x9, σ = [some (.ref l), some (.ref W), x1, x2, x3, x4, some (.ref ps), x5, x6, x7, x8, x9]) ∧ ∃ kvs', H' W = some (.dK kvs') ∧ VM K H H' kvs' ((z.2.ws.take j).foldl (addV z.2.s1) m) ∧ kvs'.length ≤ 1000 * i + j ∧ ∀ k, (((z.2.ws.take j).foldl (addV z.2.s1) m) k).length ≤ 1000 * i + j) ⟨sA, ⟨_, _, _, _, _, _, _, _, _, rfl⟩, kvs, hW, hm, hk, hv⟩ (fun j σ H' _ z => z.1.seq D0.wl) ?_ ?_
        · rintro j v σ HC hj ⟨sC, ⟨x1, x2, x3, x4, x5, x6, x7, x8, x9, rfl⟩, kvs', hWC, hmC, hkC, hvC⟩
          obtain ⟨d', e1, hd⟩ := dpall_get D0.ws hj
          have hjl := (List.getElem?_eq_some_iff.mp hj).1
          rw [List.getElem?_map] at e1
          cases er : z.2.ws[j]? with
          | none => rw [er] at e1; cases e1
          | some pr =>
            rw [er] at e1
            cases e1
            obtain ⟨q', u, e, hq, hu⟩ := wp_at hd
            -- the row at r, with what it has so far
            have behind : ∀ (r : Addr) (us : List (V × Int × V)) (HE : Hp), Same HC HE → (valV kvs' (Sum.inr pr.1) = some (.ref r) ∨ (valV kvs' (Sum.inr pr.1) = none ∧ ∀ k, valV kvs' (Sum.inr k) ≠ some (.ref r))) → H r = none → HE r = some (.lst (us.map (·.1))) → VrAt K HE us (((z.2.ws.take j).foldl (addV z.2.s1) m) pr.1) → us.length ≤ 100000 → r ≠ W →
                ∀ t, HE t = none → ∀ HF, HF = upd (upd HE t (.tup [.int z.2.s1, u])) r (.lst (us.map (·.1) ++ [.ref t])) → Same H (upd HF W (.dK (putK kvs' (Sum.inr pr.1) (.ref r)))) ∧ HF W = some (.dK kvs') ∧ VM K H (upd HF W (.dK (putK kvs' (Sum.inr pr.1) (.ref r)))) (putK kvs' (Sum.inr pr.1) (.ref r)) ((z.2.ws.take (j + 1)).foldl (addV z.2.s1) m) := by
              intro r us HE sE hr hnr hE hV hul hrW t nt HF eF
              have sT : Same HE (upd HE t (.tup [.int z.2.s1, u])) := same_new (Same.refl HE) nt
              have hT : (upd HE t (.tup [.int z.2.s1, u])) t = some (.tup [.int z.2.s1, u]) := upd_same
              have hr2 := sT _ _ hE
              generalize (upd HE t (.tup [.int z.2.s1, u])) = HG at sT hT hr2 eF
              have sCG := sE.trans sT
              subst eF
              have hW2 : (upd HG r (.lst (us.map (·.1) ++ [.ref t]))) W = some (.dK kvs') := by
                rw [upd_ne (Ne.symm hrW)]
                exact sCG _ _ hWC
              have kt : ∀ q ys, SqT K HC q ys → SqT K (upd (upd HG r (.lst (us.map (·.1) ++ [.ref t]))) W (.dK (putK kvs' (Sum.inr pr.1) (.ref r)))) q ys := fun q ys hq => sqt_updD hW2 (sqt_upd hr2 (same_sqt sCG hq))
              have ktE : ∀ q ys, SqT K HE q ys → SqT K (upd (upd HG r (.lst (us.map (·.1) ++ [.ref t]))) W (.dK (putK kvs' (Sum.inr pr.1) (.ref r)))) q ys := fun q ys hq => sqt_updD hW2 (sqt_upd hr2 (same_sqt sT hq))
              refine ⟨fun b o w => ?_, hW2, ?_⟩
              · rw [upd_ne (ne_of_none w nW), upd_ne (ne_of_none w hnr)]
                exact sCG _ _ (sC _ _ w)
              · rw [foldl_take (addV z.2.s1) m er]
                refine hmC.put (zs := us) (z := (.ref t, z.2.s1, u)) hr hnr ?_ ?_ (fun l ys hl hy => ?_) kt
                · rw [upd_ne hrW, upd_same, List.map_append]
                  rfl
                · refine VrAt.snoc (hV.ext ktE fun v w hw => ?_) ⟨t, rfl, sqt_updD hW2 (sqt_upd hr2 (SqT.of hT))⟩ rfl ?_
                  · obtain ⟨q, rfl, hq⟩ := wo_at hw
                    exact wo_dp (ktE _ _ hq)
                  · obtain ⟨q, eq, hq⟩ := wo_at hu
                    rw [eq]
                    exact wo_dp (kt _ _ (same_sqt sC hq))
                · have hlW : l ≠ W := ne_of hy hWC (by intro z; cases z)
                  rw [upd_ne hlW, upd_ne hl]
                  exact sCG _ _ hy
            have lens : ∀ k, (((z.2.ws.take (j + 1)).foldl (addV z.2.s1) m) k).length ≤ 1000 * i + (j + 1) := fun k => by
              rw [foldl_take (addV z.2.s1) m er]
              have := hvC k
              unfold addV
              split
              · rw [List.length_append]
                show _ + 1 ≤ _
                unfold addV at this
                omega
              · unfold addV at this
                omega
            refine ⟨q', _, e, same_sqt sC hq, rfl, _, _, rfl, _, _, rfl, rfl, _, rfl, W, rfl, .inl ⟨kvs', .inl hWC⟩, _, rfl, Nat.zero_le _, fun ne hne => ?_⟩
            have sE : Same HC (upd HC ne (.lst [])) := same_new (Same.refl HC) hne
            have hE : (upd HC ne (.lst [])) ne = some (.lst []) := upd_same
            generalize (upd HC ne (.lst [])) = HE at sE hE ⊢
            refine ⟨_, DGet.k (k := Sum.inr pr.1) (sE _ _ hWC), ?_⟩
            have hlen := length_putK kvs' (Sum.inr pr.1)
            cases ev : valV kvs' (Sum.inr pr.1) with
            | none =>
              have hfree : ∀ k, valV kvs' (Sum.inr k) ≠ some (.ref ne) := fun k hk2 => by
                obtain ⟨l9, zs9, e9, _, h9, _⟩ := hmC.yes k _ hk2
                cases e9
                rw [hne] at h9
                cases h9
              have hHne : H ne = none := by
                cases eH : H ne with
                | none => rfl
                | some o =>
                  have := sC _ _ eH
                  rw [hne] at this
                  cases this
              have hno := hmC.no _ ev
              refine ⟨_, rfl, .inl ⟨rfl, _, SqL.of hE⟩, _, rfl, ps, _, 0, _, rfl, rfl, same_sqt (sC.trans sE) D0.st, atI_nat (j := 0) rfl, _, rfl, len2, fun t nt => ⟨ne, ([] : List V), _, rfl, rfl, ?_, (by decide), ?_⟩⟩
              · rw [upd_ne (ne_of_none hE nt)]
                exact hE
              · have hneW : ne ≠ W := fun z => by rw [z] at hne; rw [hne] at hWC; cases hWC
                obtain ⟨b1, b2, b3⟩ := behind ne [] HE sE (.inr ⟨ev, hfree⟩) hHne hE (by rw [hno]; exact ⟨rfl, fun i z x hz => by simp at hz⟩) (Nat.zero_le _) hneW t nt _ rfl
                refine ⟨_, rfl, _, rfl, _, rfl, W, _, rfl, DPut.k (k := Sum.inr pr.1) b2 (Nat.lt_of_le_of_lt (show _ ≤ 100000 by omega) (by decide)), b1, ⟨_, _, _, _, _, _, _, _, _, rfl⟩, _, upd_same, b3, ?_, lens⟩
                exact Nat.le_trans (hlen (.ref ne)) (by omega)
            | some vr =>
              obtain ⟨r, us, rfl, hnr, hrE, hV⟩ := hmC.yes _ _ ev
              have hul : us.length ≤ 100000 := by
                have := hvC pr.1
                have := hV.1
                omega
              have hrE2 := sE _ _ hrE
              refine ⟨_, rfl, .inl ⟨rfl, _, SqL.of hrE2⟩, _, rfl, ps, _, 0, _, rfl, rfl, same_sqt (sC.trans sE) D0.st, atI_nat (j := 0) rfl, _, rfl, len2, fun t nt => ⟨r, us.map (·.1), _, rfl, rfl, ?_, (by rw [List.length_map]; exact Nat.lt_of_le_of_lt hul (by decide)), ?_⟩⟩
              · rw [upd_ne (ne_of_none hrE2 nt)]
                exact hrE2
              · have hrW : r ≠ W := ne_of hrE hWC (by intro z; cases z)
                obtain ⟨b1, b2, b3⟩ := behind r us HE sE (.inl ev) hnr hrE2 (hV.ext (fun q ys h => same_sqt sE h) fun v w hw => dp_ext (LamX.ExtN.of sE) hw) hul hrW t nt _ rfl
                refine ⟨_, rfl, _, rfl, _, rfl, W, _, rfl, DPut.k (k := Sum.inr pr.1) b2 (Nat.lt_of_le_of_lt (show _ ≤ 100000 by omega) (by decide)), b1, ⟨_, _, _, _, _, _, _, _, _, rfl⟩, _, upd_same, b3, ?_, lens⟩
                exact Nat.le_trans (hlen (.ref r)) (by omega)
        · rintro σ HC ⟨sC, ⟨x1, x2, x3, x4, x5, x6, x7, x8, x9, rfl⟩, kvs', hWC, hmC, hkC, hvC⟩
          rw [hyl, List.take_length, ← estep] at hmC hvC
          exact ⟨sC, ⟨_, _, _, _, _, _, _, _, _, _, rfl⟩, kvs', hWC, hmC, by omega, fun k => by have := hvC k; omega⟩
    · rintro σ HA ⟨sA, ⟨x1, x2, x3, x4, x5, x6, x7, x8, x9, x10, rfl⟩, kvs, hW, hm, hk, hv⟩
      refine ⟨_, rfl, ?_⟩
      rw [List.length_map, List.take_length] at hm
      exact q W kvs HA sA hW hm

theorem ok_are_reads_right {P : Program} {w : World} {K : PySem.W.Frag} {mg : Str → Option Value} {base : Heap} {a : Nat → Addr} {d : Nat → FuncData} (T : Txt K mg a d) (TB : Tb base mg a) : FnOk P w K mg base CX0 4 (a 23) (d 23) ["history", "dealings"] (spRgs K a) := by
  refine T.F_are_reads_right.ok sc_are_reads_right (fun vs H Q E h => ?_) (fun cdv A outer s0 H vs Q E hr h => ?_)
  · obtain ⟨l, m, bs, zs, rfl, hl, hb, hbn, hgood, hm, hz, hzn, hws, hT, q⟩ := h
    rfl
  · obtain ⟨l, m, bs, zs, rfl, hl, hb, hbn, hgood, hm, hz, hzn, hws, hT, q⟩ := h
    refine ⟨_, (pss_cons (ps_set (i := 2) sc_are_reads_right.nd rfl (Or.inl rfl) (pe_call (ok_versions_by_keys T) (hr.mono (by decide)) (by rfl) T.g_versions_by_keys T.F_versions_by_keys.kp T.b_versions_by_keys .nil pass0 (pa_cons (pv 1) pa_nil))) (pss_cons (ps_set (i := 3) sc_are_reads_right.nd rfl (Or.inl rfl) (pe_call (ok_forms_by_times T TB) (hr.mono (by decide)) (by rfl) T.g_forms_by_times T.F_forms_by_times.kp T.b_forms_by_times .nil pass0 (pa_cons (pv 0) pa_nil))) (pss_cons (ps_for PassesOwn.never rfl (pi_list (pe_op op_cat (pe_call (ok_of_word T) (hr.mono (by decide)) (by rfl) T.g_of_word T.F_of_word.kp T.b_of_word .nil pass0 (pa_cons (pv 0) (pa_cons (pe_glob (v := .str "read") (by rfl) (Exists.choose_spec T.g_READ_ROW) ⟨_, rfl⟩) pa_nil))) (pe_call (ok_of_word T) (hr.mono (by decide)) (by rfl) T.g_of_word T.F_of_word.kp T.b_of_word .nil pass0 (pa_cons (pv 0) (pa_cons (pe_glob (v := .str "now") (by rfl) (Exists.choose_spec T.g_NOW_ROW) ⟨_, rfl⟩) pa_nil))))) (pg_tup (by rfl) (pgs_cons (pg_name (i := 4) sc_are_reads_right.nd rfl (.inl rfl)) (pgs_cons (pg_name (i := 5) sc_are_reads_right.nd rfl (.inl rfl)) (pgs_cons (pg_name (i := 6) sc_are_reads_right.nd rfl (.inl rfl)) (pgs_cons (pg_name (i := 7) sc_are_reads_right.nd rfl (.inl rfl)) (pgs_cons (pg_name (i := 8) sc_are_reads_right.nd rfl (.inl rfl)) pgs_nil)))))) (pss_cons (ps_set (i := 9) sc_are_reads_right.nd rfl (Or.inl rfl) (pe_call (ok_last_up_to T) (hr.mono (by decide)) (by rfl) T.g_last_up_to T.F_last_up_to.kp T.b_last_up_to .nil pass0 (pa_cons (pv 3) (pa_cons (pv 6) (pa_cons pe_non pa_nil))))) (pss_cons (ps_if (pt_cmpR (op_neD hr.units) (pe_call (ok_shaped T) (hr.mono (by decide)) (by rfl) T.g_shaped T.F_shaped.kp T.b_shaped .nil pass0 (pa_cons (pe_call (ok_last_up_to T) (hr.mono (by decide)) (by rfl) T.g_last_up_to T.F_last_up_to.kp T.b_last_up_to .nil pass0 (pa_cons (pe_dget2 (hu_of hr) (pv 2) (pv 7) (pe_lst pa_nil) ⟨rfl, rfl, rfl, rfl⟩) (pa_cons (pv 6) (pa_cons pe_non pa_nil)))) (pa_cons (pv 9) pa_nil))) (pv 8) (nomark _)) (pss_one (ps_ret pe_bl)) pss_nil) (pss_one (ps_if (PW.pt (pw_and (pt_cmpR op_eq (pv 4) (pe_glob (v := .str "now") (by rfl) (Exists.choose_spec T.g_NOW_ROW) ⟨_, rfl⟩) (nomark _)) (pw_and1 (pt_truth (pe_call (ok_lacks_one_told T) (hr.mono (by decide)) (by rfl) T.g_lacks_one_told T.F_lacks_one_told.kp T.b_lacks_one_told .nil pass0 (pa_cons (pv 1) (pa_cons (pv 5) (pa_cons (pv 6) pa_nil)))) (by intro _; rfl))))) (pss_one (ps_ret pe_bl)) pss_nil))))) (pss_one (ps_ret pe_bl))))), ?_⟩
    refine ⟨_, rfl, m, zs, rfl, hm, hz, hzn, fun z hz' => (hws z hz').1, fun W kvs H1 s1 hW1 hV1 => ?_⟩
    have x1 : LM.Ex (TT a) H H1 := LM.Ex.of s1
    refine ⟨_, rfl, l, bs, rfl, s1.seq hl, hb.ext x1.ext, hbn, hT.ext s1, fun F fz H2 x2 T2 hF2 hfz2 efz => ?_⟩
    have x12 := x1.trans x2
    have hV2 := hV1.ext x2.ext
    have hW2 : H2 W = some (.dK kvs) := x2.ext _ _ hW1 fun _ z => by cases z
    have hl2 : SqL K H2 l (bs.map (·.1)) := SL.SqL.extN hl x12.ext
    have hb2 := hb.ext x12.ext
    refine ⟨_, rfl, l, bs, "read", rfl, hl2, hb2, hbn, fun p1 H3 s3 n1 hp1 => ?_⟩
    refine ⟨_, rfl, l, bs, "now", rfl, s3.seq hl2, hb2.ext (LamX.ExtN.of s3), hbn, fun p2 H4 s4 n2 hp2 => ?_⟩
    have e1 : (bs.filter fun b => decide (b.2.word = ("read" : Str))) = bs.filter fun b => decide (b.2.word = rwName false) := rfl
    have e2 : (bs.filter fun b => decide (b.2.word = ("now" : Str))) = bs.filter fun b => decide (b.2.word = rwName true) := rfl
    rw [e1] at hp1
    rw [e2] at hp2
    have f1 := List.length_filter_le (fun b : V × Row => decide (b.2.word = rwName false)) bs
    have f2 := List.length_filter_le (fun b : V × Row => decide (b.2.word = rwName true)) bs
    refine ⟨p1, p2, _, _, rfl, rfl, s4 _ _ hp1, hp2, ?_, fun pc nc => ?_⟩
    · rw [List.length_map, List.length_map]
      exact Nat.le_trans (show _ ≤ 2000 by omega) (by decide)
    have s5 : Same H4 (upd H4 pc (.lst ((bs.filter fun b => decide (b.2.word = rwName false)).map (·.1) ++ (bs.filter fun b => decide (b.2.word = rwName true)).map (·.1)))) := same_new (Same.refl H4) nc
    have hpc : (upd H4 pc (.lst ((bs.filter fun b => decide (b.2.word = rwName false)).map (·.1) ++ (bs.filter fun b => decide (b.2.word = rwName true)).map (·.1)))) pc = some (.lst ((bs.filter fun b => decide (b.2.word = rwName false)).map (·.1) ++ (bs.filter fun b => decide (b.2.word = rwName true)).map (·.1))) := upd_same
    generalize (upd H4 pc (.lst ((bs.filter fun b => decide (b.2.word = rwName false)).map (·.1) ++ (bs.filter fun b => decide (b.2.word = rwName true)).map (·.1)))) = H5 at s5 hpc ⊢
    have s25 : Same H2 H5 := s3.trans (s4.trans s5)
    rw [← List.map_append] at hpc
    have ecs : ((bs.filter fun b => decide (b.2.word = rwName false)) ++ (bs.filter fun b => decide (b.2.word = rwName true))).map (·.2) = (bs.map (·.2)).filter (isRw false) ++ (bs.map (·.2)).filter (isRw true) := by
      rw [List.map_append, filter_rw, filter_rw]
    have hcs : ∀ b ∈ (bs.filter fun b => decide (b.2.word = rwName false)) ++ (bs.filter fun b => decide (b.2.word = rwName true)), b ∈ bs ∧ ∃ n a t k w, b.2 = .read n a t k w := fun b hb' => by
      rcases List.mem_append.mp hb' with h | h
      · obtain ⟨h1, h2⟩ := List.mem_filter.mp h
        obtain ⟨x, t, k, w, e⟩ := read_word (of_decide_eq_true h2)
        exact ⟨h1, _, x, t, k, w, e⟩
      · obtain ⟨h1, h2⟩ := List.mem_filter.mp h
        obtain ⟨x, t, k, w, e⟩ := read_word (of_decide_eq_true h2)
        exact ⟨h1, _, x, t, k, w, e⟩
    have hrd : readsB (bs.map (·.2)) (zs.map (·.2)) = (((bs.filter fun b => decide (b.2.word = rwName false)) ++ (bs.filter fun b => decide (b.2.word = rwName true))).map (·.2)).all (readB (bs.map (·.2)) (zs.map (·.2))) := by
      rw [ecs]
      rfl
    generalize ((bs.filter fun b => decide (b.2.word = rwName false)) ++ (bs.filter fun b => decide (b.2.word = rwName true))) = cs at hpc hcs hrd
    rw [hrd] at q
    have hds : ∀ d ∈ zs.map (·.2), ∀ p ∈ d.ws, wgood p.2 := fun d hd p hp => by
      obtain ⟨z, hz', rfl⟩ := List.mem_map.mp hd
      exact (hws z hz').2 p hp
    have hrs : ∀ r ∈ bs.map (·.2), r.good := fun r hr => by
      obtain ⟨b, hb', rfl⟩ := List.mem_map.mp hr
      exact hgood b hb'
    refine ⟨pc, rfl, ⟨_, SqL.of hpc⟩, ?_⟩
    refine for_list (K := K) (a := pc) (xs := cs.map (·.1)) (fun i σ H' => Same H5 H' ∧ (∃ x1 x2 x3 x4 x5 x6, σ = [some (.ref l), some (.ref m), some (.ref W), some (.ref F), x1, x2, x3, x4, x5, x6]) ∧ ((cs.take i).map (·.2)).all (readB (bs.map (·.2)) (zs.map (·.2))) = true) ⟨Same.refl H5, ⟨_, _, _, _, _, _, rfl⟩, rfl⟩ (fun i σ H' _ z => SqL.of (z.1 _ _ hpc)) ?_ ?_
    · rintro i v σ HA hi ⟨sA, ⟨x1, x2, x3, x4, x5, x6, rfl⟩, hg⟩
      rw [List.getElem?_map] at hi
      cases eb : cs[i]? with
      | none => rw [eb] at hi; cases hi
      | some b =>
        rw [eb] at hi
        cases hi
        have hmem := List.mem_of_getElem? eb
        obtain ⟨hbm, n, x, t, k, w, er⟩ := hcs b hmem
        have s2A : Same H2 HA := s25.trans sA
        have hbd := hb2 b hbm
        rw [er] at hbd
        obtain ⟨p, u, ep, hp, hu⟩ := read_at hbd
        have hexA : ∀ {HX}, Same HA HX → LM.Ex (TT a) H HX := fun s => x12.trans (LM.Ex.of (s2A.trans s))
        have hTX : ∀ {HX}, Same HA HX → LamX.Tabs (TT a) HX := fun s => T2.ext (s2A.trans s)
        have bad : readB (bs.map (·.2)) (zs.map (·.2)) b.2 = false → (cs.map (·.2)).all (readB (bs.map (·.2)) (zs.map (·.2))) = false := fun h => by
          rw [← Bool.not_eq_true, List.all_eq_true]
          intro g
          have := g b.2 (List.mem_map_of_mem hmem)
          rw [h] at this
          cases this
        have hbr : readB (bs.map (·.2)) (zs.map (·.2)) b.2 = (decide (shp (lastUp (verS (zs.map (·.2)) k) t) (lastUp (formS (bs.map (·.2))) t) = w) && !(n && lackB (zs.map (·.2)) x t)) := by rw [er]; rfl
        rw [hbr] at bad
        refine ⟨p, _, ep, same_sqt s2A hp, rfl, _, _, rfl, _, _, rfl, _, _, rfl, _, _, rfl, _, _, rfl, rfl, ?_⟩
        have ef : (lastUp ((fz.map fun z => (z.1, z.2.1, V.int z.2.2)).map (·.2)) t).getD V.non = fV (lastUp (formS (bs.map (·.2))) t) := by
          have e3 : (fz.map fun z : V × Int × Int => (z.1, z.2.1, V.int z.2.2)).map (·.2) = (fz.map (·.2)).map fun p : Int × Int => (p.1, V.int p.2) := by
            rw [List.map_map, List.map_map]
            rfl
          rw [e3, efz, lastUp_map]
          cases lastUp (formS (bs.map (·.2))) t <;> rfl
        refine ⟨_, rfl, _, rfl, F, fz.map (fun z => (z.1, z.2.1, V.int z.2.2)), t, .non, rfl, SqL.of (by rw [s2A _ _ hF2, List.map_map]; rfl), fun z hz' => ?_, ?_⟩
        · obtain ⟨y, hy, rfl⟩ := List.mem_map.mp hz'
          obtain ⟨q', e, hq'⟩ := hfz2 y hy
          exact ⟨q', e, same_sqt s2A hq'⟩
        rw [ef]
        have hfb : ∀ i, lastUp (formS (bs.map (·.2))) t = some i → 1 ≤ i ∧ i ≤ 4 := fun i hi => by
          obtain ⟨y, hy, rfl⟩ := lastUp_mem hi
          exact formS_good hrs y hy
        -- the worth's own row
        refine ⟨_, rfl, W, rfl, .inl ⟨kvs, .inl (s2A _ _ hW2)⟩, _, rfl, Nat.zero_le _, fun ne hne => ?_⟩
        have sE : Same HA (upd HA ne (.lst [])) := same_new (Same.refl HA) hne
        have hE : (upd HA ne (.lst [])) ne = some (.lst []) := upd_same
        generalize (upd HA ne (.lst [])) = HE at sE hE ⊢
        refine ⟨_, DGet.k (k := Sum.inr k) (sE _ _ (s2A _ _ hW2)), ?_⟩
        cases ev : valV kvs (Sum.inr k) with
        | none =>
          have hno := hV2.no k ev
          refine ⟨_, rfl, ne, [], t, .non, rfl, SqL.of hE, (fun z hz' => by cases hz'), ?_⟩
          refine ⟨_, rfl, _, lastUp (verS (zs.map (·.2)) k) t, lastUp (formS (bs.map (·.2))) t, rfl, (by rw [hno]; exact .non), owgood_last hds k t, hfb, fun v' HG sG hv' => ?_⟩
          have sAG := sE.trans sG
          refine ⟨_, rfl, _, _, hv', dp_ext (LamX.ExtN.of (s2A.trans sAG)) hu, shaped_ow _, shaped_ow _, _, rfl, ?_⟩
          rw [eqv_ow]
          by_cases c1 : shp (lastUp (verS (zs.map (·.2)) k) t) (lastUp (formS (bs.map (·.2))) t) = w
          · rw [decide_eq_true c1] at bad hbr
            refine iteNSD c1 ⟨_, rfl, rfl, _, rfl, ?_⟩
            rw [now_dec]
            cases n with
            | false =>
              refine iteF ⟨sA.trans sAG, ⟨_, _, _, _, _, _, rfl⟩, ?_⟩
              rw [List.take_add_one, eb, List.map_append, List.all_append, hg]
              show (true && (readB (bs.map (·.2)) (zs.map (·.2)) b.2 && true)) = true
              rw [hbr]
              rfl
            | true =>
              refine iteT ⟨_, rfl, _, rfl, _, rfl, m, zs, x, t, rfl, SL.SqL.extN hm (hexA sAG).ext, hz.ext (hexA sAG).ext, hzn, fun HI sI => ⟨_, rfl, ?_⟩⟩
              cases cl : lackB (zs.map (·.2)) x t with
              | true =>
                rw [cl] at bad
                exact iteT (bq (Q := Q) (bad rfl) (q HI (hexA (sAG.trans sI)) (hTX (sAG.trans sI))))
              | false =>
                rw [cl] at hbr
                refine iteF ⟨sA.trans (sAG.trans sI), ⟨_, _, _, _, _, _, rfl⟩, ?_⟩
                rw [List.take_add_one, eb, List.map_append, List.all_append, hg]
                show (true && (readB (bs.map (·.2)) (zs.map (·.2)) b.2 && true)) = true
                rw [hbr]
                rfl
          · rw [decide_eq_false c1] at bad
            exact iteND c1 (bq (Q := Q) (bad rfl) (q HG (hexA sAG) (hTX sAG)))
        | some vr =>
          obtain ⟨r, us, rfl, hnr, hrE, hV⟩ := hV2.yes k _ ev
          have hrE2 := sE _ _ (s2A _ _ hrE)
          refine ⟨_, rfl, r, us, t, .non, rfl, SqL.of hrE2, (fun z hz' => by
                  obtain ⟨j, hj⟩ := List.getElem?_of_mem hz'
                  have hjl := (List.getElem?_eq_some_iff.mp hj).1
                  obtain ⟨⟨q', e, hq'⟩, _⟩ := hV.2 j z _ hj (List.getElem?_eq_getElem (by rw [← hV.1]; exact hjl))
                  exact ⟨q', e, same_sqt (s2A.trans sE) hq'⟩), ?_⟩
          refine ⟨_, rfl, _, lastUp (verS (zs.map (·.2)) k) t, lastUp (formS (bs.map (·.2))) t, rfl, (dp_ext (LamX.ExtN.of (s2A.trans sE)) (last_fst hV t)), owgood_last hds k t, hfb, fun v' HG sG hv' => ?_⟩
          have sAG := sE.trans sG
          refine ⟨_, rfl, _, _, hv', dp_ext (LamX.ExtN.of (s2A.trans sAG)) hu, shaped_ow _, shaped_ow _, _, rfl, ?_⟩
          rw [eqv_ow]
          by_cases c1 : shp (lastUp (verS (zs.map (·.2)) k) t) (lastUp (formS (bs.map (·.2))) t) = w
          · rw [decide_eq_true c1] at bad hbr
            refine iteNSD c1 ⟨_, rfl, rfl, _, rfl, ?_⟩
            rw [now_dec]
            cases n with
            | false =>
              refine iteF ⟨sA.trans sAG, ⟨_, _, _, _, _, _, rfl⟩, ?_⟩
              rw [List.take_add_one, eb, List.map_append, List.all_append, hg]
              show (true && (readB (bs.map (·.2)) (zs.map (·.2)) b.2 && true)) = true
              rw [hbr]
              rfl
            | true =>
              refine iteT ⟨_, rfl, _, rfl, _, rfl, m, zs, x, t, rfl, SL.SqL.extN hm (hexA sAG).ext, hz.ext (hexA sAG).ext, hzn, fun HI sI => ⟨_, rfl, ?_⟩⟩
              cases cl : lackB (zs.map (·.2)) x t with
              | true =>
                rw [cl] at bad
                exact iteT (bq (Q := Q) (bad rfl) (q HI (hexA (sAG.trans sI)) (hTX (sAG.trans sI))))
              | false =>
                rw [cl] at hbr
                refine iteF ⟨sA.trans (sAG.trans sI), ⟨_, _, _, _, _, _, rfl⟩, ?_⟩
                rw [List.take_add_one, eb, List.map_append, List.all_append, hg]
                show (true && (readB (bs.map (·.2)) (zs.map (·.2)) b.2 && true)) = true
                rw [hbr]
                rfl
          · rw [decide_eq_false c1] at bad
            exact iteND c1 (bq (Q := Q) (bad rfl) (q HG (hexA sAG) (hTX sAG)))
    · rintro σ HA ⟨sA, _, hg⟩
      rw [List.length_map, List.take_length] at hg
      exact bq (Q := Q) hg (q HA (x12.trans (LM.Ex.of (s25.trans sA))) (T2.ext (s25.trans sA)))

theorem ok_is_ordered {P : Program} {w : World} {K : PySem.W.Frag} {mg : Str → Option Value} {base : Heap} {a : Nat → Addr} {d : Nat → FuncData} (T : Txt K mg a d) (TB : Tb base mg a) : FnOk P w K mg base CX0 7 (a 24) (d 24) ["thing"] (spOrd K a) := by
  refine T.F_is_ordered.ok sc_is_ordered (fun vs H Q E h => ?_) (fun cdv A outer s0 H vs Q E hr h => ?_)
  · obtain ⟨v, d', rfl, hg, hfew, hT, q⟩ := h
    rfl
  · obtain ⟨v, d', rfl, hg, hfew, hT, q⟩ := h
    refine ⟨_, (pss_cons (ps_if (PW.pt (pw_or (pt_not (pt_truth (pe_callB call_isi (by rfl) T.z_isinstance (by decide +kernel) (pa_cons (pv 0) (pa_cons (pe_bltn (v := .ty "list") (by rfl) T.z_list (by decide +kernel) rfl) pa_nil))) (by intro _; rfl))) (pw_or1 (pt_not (pt_truth (pe_callB (cr_all rfl) (by rfl) T.z_all (by decide +kernel) (pa_cons (pe_lc (own := [("row", 2)]) (g := gName 2) (te := (tCall (spLookN K rowLook) [] E0 (tCons (tVar 2) tNil))) (by rfl) sc_is_ordered.nd (pi_list (pv 0)) (blkOk_by (own := [("row", 2)]) (N := ["thing", "dealings", "row"]) (sc := defScope s_is_ordered) (by decide +kernel)) (fun _ _ _ _ _ => (pg_name (i := 2) sc_is_ordered.nd rfl (.inl rfl))) (fun _ _ _ _ _ => pts_nil) (fun _ _ _ _ _ => (pe_call (ok_is_row T) (hr.mono (by decide)) (by rfl) T.g_is_row T.F_is_row.kp T.b_is_row .nil pass0 (pa_cons (pv 2) pa_nil)))) pa_nil)) (by intro _; rfl)))))) (pss_one (ps_ret pe_bl)) pss_nil) (pss_cons (ps_if (pt_not (pt_truth (pv 0) (by intro _; rfl))) (pss_one (ps_ret pe_bl)) pss_nil) (pss_cons (ps_set (i := 1) sc_is_ordered.nd rfl (Or.inl rfl) (pe_call (ok_dealings_by_stamps T TB) (hr.mono (by decide)) (by rfl) T.g_dealings_by_stamps T.F_dealings_by_stamps.kp T.b_dealings_by_stamps .nil pass0 (pa_cons (pv 0) pa_nil))) (pss_cons (ps_if (PW.pt (pw_or (pt_not (pt_truth (pe_call (ok_are_fit T) (hr.mono (by decide)) (by rfl) T.g_are_fit T.F_are_fit.kp T.b_are_fit .nil pass0 (pa_cons (pv 1) pa_nil)) (by intro _; rfl))) (pw_or1 (pt_not (pt_truth (pe_call (ok_go_as_true_time T) (hr.mono (by decide)) (by rfl) T.g_go_as_true_time T.F_go_as_true_time.kp T.b_go_as_true_time .nil pass0 (pa_cons (pv 1) pa_nil)) (by intro _; rfl)))))) (pss_one (ps_ret pe_bl)) pss_nil) (pss_one (ps_ret (pe_and (pe_call (ok_read_what_was_written T) (hr.mono (by decide)) (by rfl) T.g_read_what_was_written T.F_read_what_was_written.kp T.b_read_what_was_written .nil pass0 (pa_cons (pv 1) pa_nil)) (pe_one (pe_call (ok_are_reads_right T TB) (hr.mono (by decide)) (by rfl) T.g_are_reads_right T.F_are_reads_right.kp T.b_are_reads_right .nil pass0 (pa_cons (pv 0) (pa_cons (pv 1) pa_nil))))))))))), ?_⟩
    obtain ⟨t, ty, k⟩ := hg.ty
    refine ⟨_, rfl, v, .ty "list", t, .type "list", isL d', rfl, .ty "list", ty, k.l, _, rfl, ?_⟩
    cases c : isL d' with
    | false => exact iteT (bq (Q := Q) (by cases d' <;> first | rfl | cases c) (q H (LM.Ex.refl H) hT))
    | true =>
      refine iteF ?_
      obtain ⟨ds, rfl⟩ := islst c
      obtain ⟨l, xs, rfl, hl, hlm, hall⟩ := hg.lstI
      have hlen := hall.len
      have hfew : ds.length < 64 := hfew
      refine ⟨_, rfl, l, rfl, ⟨_, hl⟩, fun D nD => ?_⟩
      refine lc_list (K := K) (a := l) (xs := xs) (fun j H' => Same H H' ∧ H' D = some (.lst ((ds.take j).map fun d => V.bl (rowLook d)))) ⟨same_new (Same.refl H) nD, upd_same⟩ (fun j H' _ z => z.1.seq hl) ?_ ?_
      · rintro j u HA hj ⟨sA, hD⟩
        obtain ⟨e, he, hd⟩ := hall.get hj
        refine ⟨rfl, _, rfl, u, e, rfl, hd.same sA, fun HB sB => ⟨_, sB _ _ hD, ?_, fun b o w => ?_, ?_⟩⟩
        · rw [List.length_map, List.length_take]
          exact Nat.lt_of_lt_of_le (show _ < 1001 by omega) (by decide)
        · rw [upd_ne (ne_of_none w nD)]
          exact sB _ _ (sA _ _ w)
        · rw [upd_same, List.take_add_one, he, List.map_append]
          rfl
      · rintro HA ⟨sA, hD⟩
        rw [hlen, List.take_length] at hD
        have q : ∀ H', LM.Ex (TT a) H H' → LamX.Tabs (TT a) H' → Q (.bl (ds.all rowLook && ordR (ds.map rowOf))) H' := q
        refine ⟨D, ds.map rowLook, rfl, SqL.of (by rw [hD, List.map_map]; rfl), _, rfl, ?_⟩
        have ea : ((ds.map rowLook).all id) = ds.all rowLook := by rw [List.all_map]; rfl
        have TA := hT.ext sA
        cases cr : ds.all rowLook with
        | false =>
          rw [cr] at q
          exact iteNB (ea.trans cr) (q HA (LM.Ex.of sA) TA)
        | true =>
          rw [cr, Bool.true_and] at q
          refine iteNSB (ea.trans cr) ?_
          obtain ⟨bs, rfl, e2, hb, hgood, hsz⟩ := rows_let hall cr
          rw [e2] at q
          have hbl : bs.length < 64 := by
            rw [List.length_map] at hlen
            omega
          refine ⟨_, rfl, _, .inl ⟨_, sA.seq hl, rfl⟩, ?_⟩
          cases bs with
          | nil => exact iteT (q HA (LM.Ex.of sA) TA)
          | cons b0 br =>
            refine iteF ?_
            generalize hbs : b0 :: br = bs at *
            have hne : bs.isEmpty = false := by rw [← hbs]; rfl
            have hor : ordR (bs.map (·.2)) = (fitB (srt (dealsOf (bs.map (·.2)))) && goB none (srt (dealsOf (bs.map (·.2)))) && rdB (fun _ => none) (srt (dealsOf (bs.map (·.2)))) && readsB (bs.map (·.2)) (srt (dealsOf (bs.map (·.2))))) := by
              unfold ordR
              rw [List.isEmpty_map, hne, Bool.false_or]
            rw [hor] at q
            refine ⟨_, rfl, l, bs, rfl, sA.seq hl, hb.ext (LamX.ExtN.of sA), by omega, TA, fun p HB xB TB' hp => ?_⟩
            have xAB := (LM.Ex.of (T := TT a) sA).trans xB
            have ez : (srtV (dealsV bs)).map (·.2) = srt (dealsOf (bs.map (·.2))) := by rw [srtV_snd, dealsV_snd]
            have hz : DsAt K H (srtV (dealsV bs)) := srtV_at (dealsV_at hb)
            have hzl : (srtV (dealsV bs)).length < 64 := by
              rw [srtV_len]
              have := dealsV_len bs
              omega
            have hzs : ∀ z ∈ srtV (dealsV bs), (z.2.rs.length ≤ 1000 ∧ z.2.ws.length ≤ 1000) ∧ (∀ p ∈ z.2.rs, owgood p.2) ∧ ∀ p ∈ z.2.ws, wgood p.2 := fun z hz' => by
              have hm := dealsV_of (srtV_mem.mp hz')
              have g := hgood _ hm
              exact ⟨hsz _ hm _ rfl, fun p hp => (g.2.2.1 p hp).2, fun p hp => (g.2.2.2 p hp).2⟩
            rw [← ez] at q
            generalize srtV (dealsV bs) = zs at hp ez hz hzl hzs q
            refine ⟨_, rfl, p, zs, rfl, SqL.of hp, hz.ext xAB.ext, hzl, fun z hz' => (hzs z hz').1, fun HC sC => ⟨_, rfl, ?_⟩⟩
            have xC := xAB.trans (LM.Ex.of sC)
            have TC := TB'.ext sC
            cases c1 : fitB (zs.map (·.2)) with
            | false =>
              rw [c1] at q
              exact iteT (q HC xC TC)
            | true =>
              rw [c1, Bool.true_and] at q
              refine iteF ⟨_, rfl, p, zs, rfl, SqL.of (sC _ _ hp), hz.ext xC.ext, fun HD sD => ⟨_, rfl, ?_⟩⟩
              have xD := xC.trans (LM.Ex.of sD)
              have TD := TC.ext sD
              have hpD := sD _ _ (sC _ _ hp)
              cases c2 : goB none (zs.map (·.2)) with
              | false =>
                rw [c2] at q
                exact iteT (q HD xD TD)
              | true =>
                rw [c2, Bool.true_and] at q
                refine iteF ⟨_, rfl, p, zs, rfl, SqL.of hpD, hz.ext xD.ext, hzl, fun z hz' => ⟨(hzs z hz').1.1, (hzs z hz').1.2, (hzs z hz').2⟩, fun HE sE => ⟨_, rfl, ?_⟩⟩
                have xE := xD.trans (LM.Ex.of sE)
                have TE' := TD.ext sE
                cases c3 : rdB (fun _ => none) (zs.map (·.2)) with
                | false =>
                  rw [c3] at q
                  exact iteF (q HE xE TE')
                | true =>
                  rw [c3, Bool.true_and] at q
                  exact iteT ⟨_, rfl, _, rfl, l, p, bs, zs, rfl, SL.SqL.extN hl xE.ext, hb.ext xE.ext, by omega, hgood, SqL.of (sE _ _ hpD), hz.ext xE.ext, hzl, fun z hz' => ⟨(hzs z hz').1.2, (hzs z hz').2.2⟩, TE', fun HF xF TF => q HF (xE.trans xF) TF⟩

/-! ### what a law of histories draws -/
structure Nc (n k : Nat) (d : PyData) : Prop where
  sh : d.showable = true
  dp : d.depth ≤ k
  lv : d.leavesShort 200 = true
  wt : d.weight ≤ n
  ly : d.canLay0 = true
theorem Nc.mono {n k n' k' : Nat} {d : PyData} (h : Nc n k d) (h1 : n ≤ n') (h2 : k ≤ k') : Nc n' k' d := ⟨h.sh, Nat.le_trans h.dp h2, h.lv, Nat.le_trans h.wt h1, h.ly⟩
theorem Nc.shw {n k : Nat} {d : PyData} (h : Nc n k d) (h1 : n ≤ 42000) (h2 : k ≤ 64) : Shw d := by
  have z := PyData.shown_le 200 (by decide) d h.lv
  have w := h.wt
  refine ⟨h.sh, Nat.le_trans h.dp h2, ?_⟩
  rw [sizeLine_eq]
  omega
theorem Nc.shaped {n k : Nat} {d : PyData} (h : Nc n k d) (h2 : k ≤ 64) : SeqAt.shaped d = true := by
  unfold SeqAt.shaped
  rw [h.ly, decide_eq_true (Nat.le_trans h.dp h2)]
  rfl
theorem nc_all {n k : Nat} : ∀ {ds : List PyData}, (∀ d ∈ ds, Nc n k d) → PyData.showableAll ds = true ∧ PyData.depthAll ds ≤ k ∧ PyData.leavesShortAll 200 ds = true ∧ PyData.weightAll ds ≤ (n + 1) * ds.length ∧ PyData.canLayAll0 ds = true
  | [], _ => ⟨rfl, Nat.zero_le _, rfl, Nat.zero_le _, rfl⟩
  | d :: ds, h => by
    obtain ⟨h1, h2, h3, h4, h5⟩ := nc_all fun x hx => h x (.tail _ hx)
    have h0 := h d (.head _)
    refine ⟨by simp only [PyData.showableAll, h0.sh, h1, Bool.and_self], ?_, by simp only [PyData.leavesShortAll, h0.lv, h3, Bool.and_self], ?_, by simp only [PyData.canLayAll0, h0.ly, h5, Bool.and_self]⟩
    · simp only [PyData.depthAll]
      have := h0.dp
      omega
    · simp only [PyData.weightAll]
      have := h0.wt
      rw [List.length_cons, Nat.mul_succ]
      omega
theorem nc_lst {n k l : Nat} {ds : List PyData} (h : ∀ d ∈ ds, Nc n k d) (hl : ds.length ≤ l) : Nc ((n + 1) * l) (k + 1) (.list ds) := by
  obtain ⟨h1, h2, h3, h4, h5⟩ := nc_all h
  have h6 : (n + 1) * ds.length ≤ (n + 1) * l := Nat.mul_le_mul_left _ hl
  exact ⟨by simp only [PyData.showable]; exact h1, by simp only [PyData.depth]; omega, by simp only [PyData.leavesShort]; exact h3, by simp only [PyData.weight]; omega, by simp only [PyData.canLay0]; exact h5⟩
theorem nc_tup {n k l : Nat} {ds : List PyData} (h : ∀ d ∈ ds, Nc n k d) (hl : ds.length ≤ l) : Nc ((n + 1) * l) (k + 1) (.tuple ds) := by
  obtain ⟨h1, h2, h3, h4, h5⟩ := nc_all h
  have h6 : (n + 1) * ds.length ≤ (n + 1) * l := Nat.mul_le_mul_left _ hl
  exact ⟨by simp only [PyData.showable]; exact h1, by simp only [PyData.depth]; omega, by simp only [PyData.leavesShort]; exact h3, by simp only [PyData.weight]; omega, by simp only [PyData.canLay0]; exact h5⟩
/-- a number of the laws' -/
def Ib (m : Nat) (i : Int) : Prop := -(1000 * ((m : Int) + 1)) ≤ i ∧ i ≤ 1000 * ((m : Int) + 1)
theorem Ib.mono {m n : Nat} {i : Int} (h : Ib m i) (l : m ≤ n) : Ib n i := ⟨by have := h.1; omega, by have := h.2; omega⟩
theorem nc_int {m : Nat} {i : Int} (h : Ib m i) (hm : m ≤ 3) : Nc 20 0 (.int i) := by
  have h1 := h.1
  have h2 := h.2
  have hn : i.natAbs < 2 ^ 13 := by
    have e : (2 : Nat) ^ 13 = 8192 := by decide
    rw [e]
    omega
  have hl : i.natAbs.log2 < 13 := PySem.Flt.log2_lt_of (by decide) hn
  refine ⟨decide_eq_true (by omega), Nat.le_refl _, decide_eq_true ?_, ?_, rfl⟩
  · show (Str.ofString (toString i)).length ≤ 200
    exact int_len (Nat.lt_of_lt_of_le hn (Nat.pow_le_pow_right (by decide) (by decide)))
  · show (if (i == 0) = true then 0 else i.natAbs.log2 + 1) ≤ 20
    split <;> omega
theorem nc_non : Nc 20 0 .none := ⟨rfl, Nat.le_refl _, rfl, Nat.zero_le _, rfl⟩
def kL : List Str := ["a", "b", "c", "d", "e", "abcdef"]
theorem kL_facts : ∀ k ∈ kL, keyD (.str k) = true ∧ k.length ≤ 6 ∧ (k.cps.toList.all fun c => decide (c < 128)) = true := by decide +kernel
theorem nc_str {k : Str} {n : Nat} (h1 : k.length ≤ n) (h2 : (k.cps.toList.all fun c => decide (c < 128)) = true) : Nc n 0 (.str k) := by
  have h2 := List.all_eq_true.mp h2
  refine ⟨rfl, Nat.le_refl _, ?_, h1, ?_⟩
  · show (k.cps.toList.all fun c => decide (c < 16 ^ 8)) = true
    refine List.all_eq_true.mpr fun c hc => decide_eq_true ?_
    have := of_decide_eq_true (h2 c hc)
    omega
  · show k.cps.all (· < 0x110000) = true
    rw [← Array.all_toList]
    refine List.all_eq_true.mpr fun c hc => decide_eq_true ?_
    have := of_decide_eq_true (h2 c hc)
    omega
theorem nc_key {k : Str} (h : k ∈ kL) : Nc 20 0 (.str k) := nc_str (Nat.le_trans (kL_facts k h).2.1 (by decide)) (kL_facts k h).2.2
def wB (m : Nat) (w : List Int) : Prop := (1 ≤ w.length ∧ w.length ≤ 4) ∧ ∀ x ∈ w, Ib m x
def owB (m : Nat) : Option (List Int) → Prop
  | none => True
  | some w => wB m w
theorem nc_wo {m : Nat} {w : List Int} (h : wB m w) (hm : m ≤ 3) : Nc 84 1 (woD w) := nc_tup (n := 20) (k := 0) (l := 4) (fun d hd => by
  obtain ⟨x, hx, rfl⟩ := List.mem_map.mp hd
  exact nc_int (h.2 x hx) hm) (by rw [List.length_map]; exact h.1.2)
theorem nc_ow {m : Nat} {w : Option (List Int)} (h : owB m w) (hm : m ≤ 3) : Nc 84 1 (owD w) := by
  cases w with
  | none => exact nc_non.mono (by decide) (by decide)
  | some w => exact nc_wo h hm
theorem nc_rp {m : Nat} {p : Str × Option (List Int)} (h1 : p.1 ∈ kL) (h2 : owB m p.2) (hm : m ≤ 3) : Nc 170 2 (rpD p) := nc_tup (n := 84) (k := 1) (l := 2) (fun d hd => by
  rcases List.mem_cons.mp hd with rfl | hd
  · exact (nc_key h1).mono (by decide) (by decide)
  · rcases List.mem_cons.mp hd with rfl | hd
    · exact nc_ow h2 hm
    · cases hd) (Nat.le_refl _)
theorem nc_wp {m : Nat} {p : Str × List Int} (h1 : p.1 ∈ kL) (h2 : wB m p.2) (hm : m ≤ 3) : Nc 170 2 (wpD p) := nc_tup (n := 84) (k := 1) (l := 2) (fun d hd => by
  rcases List.mem_cons.mp hd with rfl | hd
  · exact (nc_key h1).mono (by decide) (by decide)
  · rcases List.mem_cons.mp hd with rfl | hd
    · exact nc_wo h2 hm
    · cases hd) (Nat.le_refl _)
structure DB (m : Nat) (d : Deal) : Prop where
  num : Ib m d.num
  beg : Ib m d.beg
  told : Ib m d.told
  s1 : Ib m d.s1
  s2 : Ib m d.s2
  s3 : Ib m d.s3
  rl : d.rs.length ≤ 4 + m
  wl : d.ws.length ≤ 4 + m
  rs : ∀ p ∈ d.rs, p.1 ∈ kL ∧ owB m p.2
  ws : ∀ p ∈ d.ws, p.1 ∈ kL ∧ wB m p.2
def RB (m : Nat) : Row → Prop
  | .deal d => DB m d
  | .form t f => Ib m t ∧ 1 ≤ f ∧ f ≤ 4
  | .read _ a t k w => Ib m a ∧ Ib m t ∧ k ∈ kL ∧ owB m w
theorem wB.mono {m n : Nat} {w : List Int} (h : wB m w) (l : m ≤ n) : wB n w := ⟨h.1, fun x hx => (h.2 x hx).mono l⟩
theorem owB.mono {m n : Nat} {w : Option (List Int)} (h : owB m w) (l : m ≤ n) : owB n w := by
  cases w with
  | none => trivial
  | some w => exact wB.mono h l
theorem DB.mono {m n : Nat} {d : Deal} (h : DB m d) (l : m ≤ n) : DB n d :=
  ⟨h.num.mono l, h.beg.mono l, h.told.mono l, h.s1.mono l, h.s2.mono l, h.s3.mono l, by have := h.rl; omega, by have := h.wl; omega, fun p hp => ⟨(h.rs p hp).1, (h.rs p hp).2.mono l⟩, fun p hp => ⟨(h.ws p hp).1, (h.ws p hp).2.mono l⟩⟩
theorem RB.mono {m n : Nat} {r : Row} (h : RB m r) (l : m ≤ n) : RB n r := by
  cases r with
  | deal d => exact DB.mono h l
  | form t f => exact ⟨h.1.mono l, h.2⟩
  | read x a t k w => exact ⟨h.1.mono l, h.2.1.mono l, h.2.2.1, h.2.2.2.mono l⟩
theorem nc_row {m : Nat} {r : Row} (h : RB m r) (hm : m ≤ 3) : Nc 2600 4 r.d := by
  cases r with
  | deal d =>
    have h : DB m d := h
    have hr : Nc ((170 + 1) * 7) 3 (.list (d.rs.map rpD)) := nc_lst (k := 2) (fun x hx => by
      obtain ⟨p, hp, rfl⟩ := List.mem_map.mp hx
      exact nc_rp (h.rs p hp).1 (h.rs p hp).2 hm) (by rw [List.length_map]; have := h.rl; omega)
    have hw : Nc ((170 + 1) * 7) 3 (.list (d.ws.map wpD)) := nc_lst (k := 2) (fun x hx => by
      obtain ⟨p, hp, rfl⟩ := List.mem_map.mp hx
      exact nc_wp (h.ws p hp).1 (h.ws p hp).2 hm) (by rw [List.length_map]; have := h.wl; omega)
    have hs : Nc ((20 + 1) * 3) 1 (.tuple (d.st.map .int)) := nc_tup (k := 0) (fun x hx => by
      obtain ⟨y, hy, rfl⟩ := List.mem_map.mp hx
      rcases List.mem_cons.mp hy with rfl | hy
      · exact nc_int h.s1 hm
      · rcases List.mem_cons.mp hy with rfl | hy
        · exact nc_int h.s2 hm
        · cases List.mem_singleton.mp hy
          exact nc_int h.s3 hm) (Nat.le_refl _)
    have h0 : Nc 20 0 (.str "dealing") := nc_str (by decide +kernel) (by decide +kernel)
    have h1 := nc_int h.num hm
    have h2 := nc_int h.beg hm
    have h3 := nc_int h.told hm
    show Nc 2600 4 d.d
    unfold Deal.d
    refine ⟨?_, ?_, ?_, ?_, ?_⟩
    · simp only [PyData.showable, PyData.showableAll] at *
      have a1 := hr.sh; have a2 := hw.sh; have a3 := hs.sh; have a4 := h1.sh; have a5 := h2.sh; have a6 := h3.sh
      simp only [PyData.showable] at a1 a2 a3 a4 a5 a6
      simp only [a1, a2, a3, a4, a5, a6, Bool.and_self]
    · have a1 := hr.dp; have a2 := hw.dp; have a3 := hs.dp
      simp only [PyData.depth, PyData.depthAll] at *
      omega
    · have a1 := hr.lv; have a2 := hw.lv; have a3 := hs.lv; have a4 := h1.lv; have a5 := h2.lv; have a6 := h3.lv; have a0 := h0.lv
      simp only [PyData.leavesShort, PyData.leavesShortAll] at *
      simp only [a0, a1, a2, a3, a4, a5, a6, Bool.and_self]
    · have a1 := hr.wt; have a2 := hw.wt; have a3 := hs.wt; have a4 := h1.wt; have a5 := h2.wt; have a6 := h3.wt; have a0 := h0.wt
      show PyData.weightAll _ ≤ 2600
      simp only [PyData.weightAll]
      omega
    · have a1 := hr.ly; have a2 := hw.ly; have a3 := hs.ly; have a0 := h0.ly
      simp only [PyData.canLay0, PyData.canLayAll0] at *
      simp only [a0, a1, a2, a3, Bool.and_self]
  | form t f =>
    refine (nc_tup (n := 20) (k := 0) (l := 3) (fun x hx => ?_) (Nat.le_refl _)).mono (by decide) (by decide)
    rcases List.mem_cons.mp hx with rfl | hx
    · exact nc_str (by decide +kernel) (by decide +kernel)
    · rcases List.mem_cons.mp hx with rfl | hx
      · exact nc_int h.1 hm
      · cases List.mem_singleton.mp hx
        exact nc_int (m := m) ⟨by have := h.2.1; omega, by have := h.2.2; omega⟩ hm
  | read n a t k w =>
    obtain ⟨h1, h2, h3, h4⟩ := h
    refine (nc_tup (n := 84) (k := 1) (l := 5) (fun x hx => ?_) (Nat.le_refl _)).mono (by decide) (by decide)
    rcases List.mem_cons.mp hx with rfl | hx
    · refine (nc_str (k := rwName n) (n := 20) ?_ ?_).mono (by decide) (by decide) <;> cases n <;> decide +kernel
    · rcases List.mem_cons.mp hx with rfl | hx
      · exact (nc_int h1 hm).mono (by decide) (by decide)
      · rcases List.mem_cons.mp hx with rfl | hx
        · exact (nc_int h2 hm).mono (by decide) (by decide)
        · rcases List.mem_cons.mp hx with rfl | hx
          · exact (nc_key h3).mono (by decide) (by decide)
          · cases List.mem_singleton.mp hx
            exact nc_ow h4 hm
theorem nc_rows {m : Nat} {rs : List Row} (h : ∀ r ∈ rs, RB m r) (hm : m ≤ 3) (hl : rs.length ≤ 16) : Nc 41616 5 (.list (rs.map Row.d)) := nc_lst (n := 2600) (k := 4) (l := 16) (fun d hd => by
  obtain ⟨r, hr, rfl⟩ := List.mem_map.mp hd
  exact nc_row (h r hr) hm) (by rw [List.length_map]; exact hl)
/-! ### the heap without some addresses -/
def mk (S : List Addr) (H : Hp) : Hp := fun b => if b ∈ S then none else H b
theorem mk_at {S : List Addr} {H : Hp} {b : Addr} (h : b ∉ S) : mk S H b = H b := if_neg h
theorem mk_in {S : List Addr} {H : Hp} {b : Addr} (h : b ∈ S) : mk S H b = none := if_pos h
theorem mk_some {S : List Addr} {H : Hp} {b : Addr} {o : HO} (h : mk S H b = some o) : b ∉ S ∧ H b = some o := by
  by_cases c : b ∈ S
  · rw [mk_in c] at h
    cases h
  · rw [mk_at c] at h
    exact ⟨c, h⟩
theorem mk_sub (S : List Addr) (H : Hp) : Same (mk S H) H := fun b o e => (mk_some e).2
theorem mk_same {S : List Addr} {H H' : Hp} (k : Same H H') : Same (mk S H) (mk S H') := fun b o e => by
  obtain ⟨h1, h2⟩ := mk_some e
  rw [mk_at h1]
  exact k b o h2
theorem mk_kp {S : List Addr} {s : Addr} {H H' : Hp} (k : Kp s H H') (hs : s ∈ S) : Same (mk S H) (mk S H') := fun b o e => by
  obtain ⟨h1, h2⟩ := mk_some e
  rw [mk_at h1]
  exact k.1 b o (fun z => h1 (by rw [z]; exact hs)) h2
theorem mk_upd {S : List Addr} {H : Hp} {b : Addr} {o : HO} (h : b ∈ S) : mk S (upd H b o) = mk S H := by
  funext c
  by_cases hc : c ∈ S
  · rw [mk_in hc, mk_in hc]
  · rw [mk_at hc, mk_at hc, upd_ne (fun z => hc (by rw [z]; exact h))]
theorem mk_new {S : List Addr} {H : Hp} {p : Addr} {o : HO} (h : H p = none) : Same (mk S H) (mk S (upd H p o)) := mk_same (same_new (Same.refl H) h)
theorem mk_less {S S' : List Addr} {H : Hp} (h : ∀ b ∈ S, b ∈ S') : Same (mk S' H) (mk S H) := fun b o e => by
  obtain ⟨h1, h2⟩ := mk_some e
  rw [mk_at fun z => h1 (h b z)]
  exact h2
/-- a new address out of the way: what was without it is with it -/
theorem mk_more {S : List Addr} {H : Hp} {p : Addr} (h : H p = none) : Same (mk S H) (mk (p :: S) H) := fun b o e => by
  obtain ⟨h1, h2⟩ := mk_some e
  rw [mk_at (fun z => ?_)]
  · exact h2
  · rcases List.mem_cons.mp z with rfl | z
    · rw [h] at h2
      cases h2
    · exact h1 z
theorem sqt_mk {K : PySem.W.Frag} {S : List Addr} {H : Hp} {p : Addr} {xs : List V} (hS : ∀ b ∈ S, ∃ ys, H b = some (.lst ys)) (h : SqT K H p xs) : SqT K (mk S H) p xs := by
  rcases h with (h | ⟨u, h⟩) | h
  · refine .inl (.inl ?_)
    rw [mk_at fun z => ?_]
    · exact h
    · obtain ⟨ys, e⟩ := hS p z
      rw [h] at e
      cases e
  · refine .inl (.inr ⟨u, ?_⟩)
    rw [mk_at fun z => ?_]
    · exact h
    · obtain ⟨ys, e⟩ := hS p z
      rw [h] at e
      cases e
  · exact .inr h
theorem ow_mk {K : PySem.W.Frag} {S : List Addr} {H : Hp} {v : V} {w : Option (List Int)} (hS : ∀ b ∈ S, ∃ ys, H b = some (.lst ys)) (h : Dp K H v (owD w)) : Dp K (mk S H) v (owD w) := by
  cases w with
  | none =>
    cases dp_noneI h
    exact .non
  | some w =>
    obtain ⟨p, rfl, hp⟩ := wo_at h
    exact wo_dp (sqt_mk hS hp)
theorem wp_mk {K : PySem.W.Frag} {S : List Addr} {H : Hp} {v : V} {p : Str × List Int} (hS : ∀ b ∈ S, ∃ ys, H b = some (.lst ys)) (h : Dp K H v (wpD p)) : Dp K (mk S H) v (wpD p) := by
  obtain ⟨q, u, rfl, hq, hu⟩ := wp_at h
  obtain ⟨r, rfl, hr⟩ := wo_at hu
  exact .tup (sqt_mk hS hq) (.cons (.str _) (.cons (wo_dp (sqt_mk hS hr)) .nil))
theorem rp_mk {K : PySem.W.Frag} {S : List Addr} {H : Hp} {v : V} {p : Str × Option (List Int)} (hS : ∀ b ∈ S, ∃ ys, H b = some (.lst ys)) (h : Dp K H v (rpD p)) : Dp K (mk S H) v (rpD p) := by
  obtain ⟨q, u, rfl, hq, hu⟩ := rp_at h
  exact .tup (sqt_mk hS hq) (.cons (.str _) (.cons (ow_mk hS hu) .nil))
theorem dpall_mk {K : PySem.W.Frag} {S : List Addr} {H : Hp} {α : Type} {f : α → PyData} (hf : ∀ v x, Dp K H v (f x) → Dp K (mk S H) v (f x)) : ∀ {vs : List V} {xs : List α}, DpAll K H vs (xs.map f) → DpAll K (mk S H) vs (xs.map f)
  | _, [], .nil => .nil
  | _, x :: r, .cons h hs => .cons (hf _ x h) (dpall_mk hf hs)
theorem StAt.lst {H : Hp} {s : Addr} (h : StAt H s) : ∃ ys, H s = some (.lst ys) := by
  obtain ⟨a, b, c, e, _⟩ := h
  exact ⟨_, e⟩

/-! ### promises of the laws of histories -/
/-- what a law's worth is, in a field's measure -/
def spFormed (K : PySem.W.Frag) : Sp := fun vs H Q _ => ∃ (v : V) (w : Option (List Int)) (f : Option Int), vs = [v, fV f] ∧ Dp K H v (owD w) ∧ owgood w ∧ (∀ i, f = some i → 1 ≤ i ∧ i ≤ 4) ∧ ∀ v' H', Same H H' → Dp K H' v' (owD (shp w f)) → Q v' H'
theorem formed_fin {K : PySem.W.Frag} {H0 G : Hp} {Q : VK} {p z : Addr} {w : List Int} {f : Int} {ys : List V} (s : Same H0 G) (hp : SqT K G p ((w.take f.toNat).map V.int)) (hz : SqT K G z ys) (hy : ys = List.replicate (f - (w.length : Int)).toNat (V.int 0)) (hw : wgood w) (f1 : 1 ≤ f) (f2 : f ≤ 4)
    (q : ∀ v' H', Same H0 H' → Dp K H' v' (owD (shp (some w) (some f))) → Q v' H') : rCatT K (.ref p) (.ref z) G Q := by
  obtain ⟨w1, w2⟩ := hw
  have e : (w.take f.toNat).map V.int ++ ys = ((w ++ List.replicate f.toNat 0).take f.toNat).map V.int := by
    rw [hy, List.take_append, List.map_append, List.take_replicate, List.map_replicate]
    congr 2
    omega
  subst hy
  refine ⟨p, z, _, _, rfl, rfl, hp, hz, fun e => ?_, ?_, fun e0 => ?_, fun _ r nr => ?_⟩
  · have := congrArg List.length e
    rw [List.length_map, List.length_take] at this
    have : min f.toNat w.length = 0 := this
    omega
  · rw [List.length_map, List.length_take, List.length_replicate]
    exact Nat.le_trans (show _ ≤ 8 by omega) (by decide)
  · refine q _ _ s ?_
    rw [e0, List.append_nil] at e
    rw [e] at hp
    exact wo_dp hp
  · refine q _ _ (same_new s nr) ?_
    rw [e]
    exact wo_dp (SqT.of upd_same)
/-- forms of the list, of the times up to t -/
def spFields (K : PySem.W.Frag) : Sp := fun vs H Q _ => ∃ (l : Addr) (bs : List (V × Row)) (t : Int), vs = [.ref l, .int t] ∧ SqL K H l (bs.map (·.1)) ∧ RsAt K H bs ∧ bs.length ≤ 900 ∧ (∀ b ∈ bs, ∀ t f, b.2 = .form t f → 1 ≤ f ∧ f ≤ 4) ∧ ∀ (f : Option Int) H', Same H H' → (∀ i, f = some i → 1 ≤ i ∧ i ≤ 4) → f = lastUp (formS (bs.map (·.2))) t → Q (fV f) H'
def i3D (q : Int × Int × Int) : PyData := .tuple [.int q.1, .int q.2.1, .int q.2.2]
theorem i3_alike (qs : List (Int × Int × Int)) : PySem.W.AlikeAll (qs.map i3D) := by
  refine ⟨fun x hx y hy => ?_, fun x hx e => ?_⟩
  · obtain ⟨a, _, rfl⟩ := List.mem_map.mp hx
    obtain ⟨b, _, rfl⟩ := List.mem_map.mp hy
    rfl
  · obtain ⟨a, _, rfl⟩ := List.mem_map.mp hx
    cases e
theorem i3_depth : ∀ qs : List (Int × Int × Int), PyData.depthAll (qs.map i3D) ≤ 1
  | [] => Nat.zero_le _
  | q :: r => by
    rw [List.map_cons]
    simp only [PyData.depthAll]
    have := i3_depth r
    have e : (i3D q).depth = 1 := rfl
    omega
theorem i3_dp {K : PySem.W.Frag} {H : Hp} : ∀ {zs : List (Addr × Int × Int × Int)}, (∀ z ∈ zs, SqT K H z.1 [.int z.2.1, .int z.2.2.1, .int z.2.2.2]) → DpAll K H (zs.map fun z => V.ref z.1) ((zs.map (·.2)).map i3D)
  | [], _ => .nil
  | z :: r, h => .cons (.tup (h z (.head _)) (.cons (.int _) (.cons (.int _) (.cons (.int _) .nil)))) (i3_dp fun y hy => h y (.tail _ hy))
/-- pairs of a shelf's, as dict takes them -/
theorem ws_pairs {K : PySem.W.Frag} {H : Hp} : ∀ {vs : List V} {ws : List (Str × List Int)}, DpAll K H vs (ws.map wpD) → ∃ (ps : List Addr) (kvs : List (Key × V)), vs = ps.map V.ref ∧ Paired (fun p kv => SqT K H p [kV kv.1, kv.2]) ps kvs ∧ kvs.map (·.1) = ws.map (fun p => Sum.inr p.1) ∧ ∀ kv ∈ kvs, ∃ p ∈ ws, kv.1 = Sum.inr p.1 ∧ Dp K H kv.2 (woD p.2)
  | vs, [], h => by
    have h : DpAll K H vs [] := h
    cases h
    exact ⟨[], [], rfl, .nil, rfl, fun kv h => by cases h⟩
  | vs, w :: r, h => by
    obtain ⟨v, vs', rfl, h1, h2⟩ := dpall_consI h
    obtain ⟨ps, kvs, rfl, hp, hk, ha⟩ := ws_pairs h2
    obtain ⟨q, u, rfl, hq, hu⟩ := wp_at h1
    refine ⟨q :: ps, (Sum.inr w.1, u) :: kvs, rfl, .cons hq hp, by rw [List.map_cons, hk]; rfl, fun kv h => ?_⟩
    rcases List.mem_cons.mp h with rfl | h
    · exact ⟨w, .head _, rfl, hu⟩
    · obtain ⟨p, hp, e⟩ := ha kv h
      exact ⟨p, .tail _ hp, e⟩
theorem merge_of {P : V → Prop} : ∀ (more kvs : List (Key × V)) (k : Key) (v : V), valV (mergeK kvs more) k = some v → (∀ k v, valV kvs k = some v → P v) → (∀ kv ∈ more, P kv.2) → P v
  | [], kvs, k, v, h, h1, _ => h1 k v h
  | m :: r, kvs, k, v, h, h1, h2 => merge_of (P := P) r (putK kvs m.1 m.2) k v h (fun k v e => by
      rw [valV_put] at e
      split at e
      · cases e
        exact h2 m (.head _)
      · exact h1 k v e) fun kv hk => h2 kv (.tail _ hk)
def swD (q : List Int × List Int) : PyData := .tuple [woD q.1, woD q.2]
theorem ints_alike : ∀ a b : List Int, PySem.W.alikeAll (a.map .int) (b.map .int) = true
  | [], _ => by simp [PySem.W.alikeAll]
  | _ :: _, [] => by simp [PySem.W.alikeAll]
  | x :: a, y :: b => by
    rw [List.map_cons, List.map_cons]
    simp only [PySem.W.alikeAll, PySem.W.alike, ints_alike a b, Bool.and_self]
theorem wo_alike (a b : List Int) : PySem.W.alike (woD a) (woD b) = true := by
  unfold woD
  simp only [PySem.W.alike]
  exact ints_alike a b
theorem sw_alike (a b : List Int × List Int) : PySem.W.alike (swD a) (swD b) = true := by
  unfold swD
  simp only [PySem.W.alike, PySem.W.alikeAll, wo_alike, Bool.and_self]
theorem ints_depth : ∀ w : List Int, PyData.depthAll (w.map .int) = 0
  | [] => rfl
  | x :: r => by
    rw [List.map_cons]
    simp only [PyData.depthAll, PyData.depth, ints_depth r]
    rfl
theorem wo_depth (w : List Int) : (woD w).depth = 1 := by
  unfold woD
  simp only [PyData.depth, ints_depth]
theorem sw_depth (q : List Int × List Int) : (swD q).depth = 2 := by
  unfold swD
  simp only [PyData.depth, PyData.depthAll, wo_depth]
  rfl
theorem last_of {vs : List V} : ∃ v, atI (V.non :: vs) (-1) = some v ∧ (v = .non ∨ v ∈ vs) := by
  rcases List.eq_nil_or_concat vs with rfl | ⟨i, x, rfl⟩
  · exact ⟨.non, atI_last [] _, .inl rfl⟩
  · exact ⟨x, by rw [List.concat_eq_append, ← List.cons_append]; exact atI_last _ x, .inr (by simp)⟩
theorem dp_up {K : PySem.W.Frag} {H : Hp} {D : Addr} {ys : List V} {o : HO} (hD : H D = some (.lst ys)) {v : V} {q : List Int × List Int} (h : Dp K H v (swD q)) : Dp K (upd H D o) v (swD q) := by
  obtain ⟨p, xs, rfl, hp, h⟩ := dp_tupI h
  obtain ⟨a, r, rfl, h1, h⟩ := dpall_consI h
  obtain ⟨b, r, rfl, h2, h⟩ := dpall_consI h
  cases dpall_nilI h
  exact .tup (sqt_upd hD hp) (.cons (wo_upd hD h1) (.cons (wo_upd hD h2) .nil))
theorem sw_at {K : PySem.W.Frag} {H : Hp} {v : V} {q : List Int × List Int} (h : Dp K H v (swD q)) : ∃ p a b, v = .ref p ∧ SqT K H p [a, b] ∧ Dp K H a (woD q.1) ∧ Dp K H b (woD q.2) := by
  obtain ⟨p, xs, rfl, hp, h⟩ := dp_tupI h
  obtain ⟨a, r, rfl, h1, h⟩ := dpall_consI h
  obtain ⟨b, r, rfl, h2, h⟩ := dpall_consI h
  cases dpall_nilI h
  exact ⟨p, a, b, rfl, hp, h1, h2⟩
theorem paired_up {K : PySem.W.Frag} {H G : Hp} (s : Same H G) : ∀ {qs : List Addr} {kvs : List (Key × V)}, Paired (fun p (kv : Key × V) => SqT K H p [kV kv.1, kv.2]) qs kvs → Paired (fun p (kv : Key × V) => SqT K G p [kV kv.1, kv.2]) qs kvs
  | _, _, .nil => .nil
  | _, _, .cons h r => .cons (same_sqt s h) (paired_up s r)
/-- pairs of keys and worths, drawn -/
def spPairs (K : PySem.W.Frag) : Sp := fun vs H Q _ => ∃ (s : Addr) (n : Int), vs = [.ref s, .int n] ∧ StAt H s ∧ 1 ≤ n ∧ n ≤ 10 ∧ ∀ (p : Addr) (xs : List V) (ws : List (Str × List Int)) (H' : Hp), Kp s H H' → H p = none → H' p = some (.lst xs) → DpAll K H' xs (ws.map wpD) → (ws.map (·.1)).Nodup → ws.length ≤ 4 → (∀ p ∈ ws, p.1 ∈ kL ∧ wB 0 p.2) → Q (.ref p) H'
theorem one_lst {H : Hp} {s : Addr} {ys : List V} (h : H s = some (.lst ys)) : ∀ b ∈ [s], ∃ ys, H b = some (.lst ys) := fun b hb => by
  cases List.mem_singleton.mp hb
  exact ⟨_, h⟩
theorem mk_kpD {K : PySem.W.Frag} {S : List Addr} {s : Addr} {H H' : Hp} {v : V} {d : PyData} (h : Dp K (mk S H) v d) (hs : s ∈ S) (k : Kp s H H') : Dp K (mk S H') v d := dp_ext (LamX.ExtN.of (mk_kp k hs)) h
theorem mk_out {K : PySem.W.Frag} {S : List Addr} {H : Hp} {v : V} {d : PyData} (h : Dp K (mk S H) v d) : Dp K H v d := dp_ext (LamX.ExtN.of (mk_sub S H)) h
theorem mk_put {K : PySem.W.Frag} {S : List Addr} {D : Addr} {H : Hp} {o : HO} {v : V} {d : PyData} (h : Dp K (mk S H) v d) (hs : D ∈ S) : Dp K (mk S (upd H D o)) v d := by
  rw [mk_upd hs]
  exact h
theorem wp_kp {K : PySem.W.Frag} {s : Addr} {H H' : Hp} {v : V} {p : Str × List Int} (hs : StAt H s) (k : Kp s H H') (h : Dp K H v (wpD p)) : Dp K H' v (wpD p) := by
  obtain ⟨ys, e⟩ := hs.lst
  exact mk_out (mk_kpD (wp_mk (one_lst e) h) (.head _) k)
theorem wp_put {K : PySem.W.Frag} {D : Addr} {H : Hp} {o : HO} {ys : List V} {v : V} {p : Str × List Int} (hD : H D = some (.lst ys)) (h : Dp K H v (wpD p)) : Dp K (upd H D o) v (wpD p) :=
  mk_out (mk_put (wp_mk (one_lst hD) h) (.head _))
theorem wo_kp {K : PySem.W.Frag} {s : Addr} {H H' : Hp} {v : V} {w : Option (List Int)} (hs : StAt H s) (k : Kp s H H') (h : Dp K H v (owD w)) : Dp K H' v (owD w) := by
  obtain ⟨ys, e⟩ := hs.lst
  exact mk_out (mk_kpD (ow_mk (one_lst e) h) (.head _) k)
theorem ow_put {K : PySem.W.Frag} {D : Addr} {H : Hp} {o : HO} {ys : List V} {v : V} {w : Option (List Int)} (hD : H D = some (.lst ys)) (h : Dp K H v (owD w)) : Dp K (upd H D o) v (owD w) :=
  mk_out (mk_put (ow_mk (one_lst hD) h) (.head _))
theorem rp_kp {K : PySem.W.Frag} {s : Addr} {H H' : Hp} {v : V} {p : Str × Option (List Int)} (hs : StAt H s) (k : Kp s H H') (h : Dp K H v (rpD p)) : Dp K H' v (rpD p) := by
  obtain ⟨ys, e⟩ := hs.lst
  exact mk_out (mk_kpD (rp_mk (one_lst e) h) (.head _) k)
theorem rp_put {K : PySem.W.Frag} {D : Addr} {H : Hp} {o : HO} {ys : List V} {v : V} {p : Str × Option (List Int)} (hD : H D = some (.lst ys)) (h : Dp K H v (rpD p)) : Dp K (upd H D o) v (rpD p) :=
  mk_out (mk_put (rp_mk (one_lst hD) h) (.head _))
/-- what stood at an address that is not the state's stands -/
theorem Kp.lst {s l : Addr} {H H' : Hp} {ys : List V} (k : Kp s H H') (n : l ≠ s) (h : H l = some (.lst ys)) : H' l = some (.lst ys) := k.1 _ _ n h
theorem Kp.put {s D : Addr} {H0 H : Hp} {ys : List V} {o : HO} (k : Kp s H0 H) (nD : H0 D = none) (n : D ≠ s) : Kp s H0 (upd H D o) := by
  refine ⟨fun b u nb e => ?_, ?_⟩
  · rw [upd_ne (ne_of_none e nD)]
    exact k.1 b u nb e
  · obtain ⟨x, y, c, e, r⟩ := k.2
    exact ⟨x, y, c, by rw [upd_ne n.symm]; exact e, r⟩
def abcd : List Str := ["a", "b", "c", "abcdef"]
theorem abcd_kL : ∀ k ∈ abcd, k ∈ kL := by decide +kernel
theorem abcd_at {r : Int} (h0 : 0 ≤ r) (h1 : r < 4) : ∃ k ∈ abcd, atI [V.str "a", V.str "b", V.str "c", V.str "abcdef"] r = some (V.str k) := by
  have : r = 0 ∨ r = 1 ∨ r = 2 ∨ r = 3 := by omega
  rcases this with rfl | rfl | rfl | rfl
  · exact ⟨"a", by decide +kernel, atI_nat (j := 0) rfl⟩
  · exact ⟨"b", by decide +kernel, atI_nat (j := 1) rfl⟩
  · exact ⟨"c", by decide +kernel, atI_nat (j := 2) rfl⟩
  · exact ⟨"abcdef", by decide +kernel, atI_nat (j := 3) rfl⟩
theorem Kp.step {s : Addr} {H H1 H2 : Hp} (k : Kp s H H1) (e : Same H1 H2) : Kp s H H2 := ⟨fun b o n h => e _ _ (k.1 b o n h), by
  obtain ⟨x, y, c, h, r⟩ := k.2
  exact ⟨x, y, c, e _ _ h, r⟩⟩
/-- a dealing whose lists stand in the heap by themselves -/
def RwAt (K : PySem.W.Frag) (H : Hp) (v : V) (d : Deal) : Prop := ∃ p ps rl wl xs ys, DealAt K H v d p ps rl wl xs ys ∧ H rl = some (.lst xs) ∧ H wl = some (.lst ys)
theorem DealAt.ext {K : PySem.W.Frag} {H H' : Hp} {v : V} {d : Deal} {p ps rl wl : Addr} {xs ys : List V} (h : DealAt K H v d p ps rl wl xs ys) (k : LamX.ExtN H H') : DealAt K H' v d p ps rl wl xs ys :=
  ⟨h.e, SL.SqT.extN h.row k, SL.SqT.extN h.st k, SL.SqL.extN h.rl k, dpall_ext k h.rs, SL.SqL.extN h.wl k, dpall_ext k h.ws⟩
theorem DealAt.dp {K : PySem.W.Frag} {H : Hp} {v : V} {d : Deal} {p ps rl wl : Addr} {xs ys : List V} (h : DealAt K H v d p ps rl wl xs ys) : Dp K H v d.d := by
  rw [h.e]
  exact .tup h.row (.cons (.str _) (.cons (.int _) (.cons (.int _) (.cons (.int _) (.cons (.tup h.st (dpall_ints _)) (.cons (.lst h.rl h.rs) (.cons (.lst h.wl h.ws) .nil)))))))
theorem RwAt.ext {K : PySem.W.Frag} {H H' : Hp} {v : V} {d : Deal} (h : RwAt K H v d) (k : LamX.ExtN H H') : RwAt K H' v d := by
  obtain ⟨p, ps, rl, wl, xs, ys, A, h1, h2⟩ := h
  exact ⟨p, ps, rl, wl, xs, ys, A.ext k, k _ _ h1 (fun _ z => by cases z), k _ _ h2 (fun _ z => by cases z)⟩
theorem RwAt.dp {K : PySem.W.Frag} {H : Hp} {v : V} {d : Deal} (h : RwAt K H v d) : Dp K H v d.d := by
  obtain ⟨p, ps, rl, wl, xs, ys, A, _⟩ := h
  exact A.dp
def RowR (K : PySem.W.Frag) (H : Hp) (v : V) : Row → Prop
  | .deal d => RwAt K H v d
  | .form t f => Dp K H v (Row.form t f).d
  | .read n a t k w => Dp K H v (Row.read n a t k w).d
theorem RowR.ext {K : PySem.W.Frag} {H H' : Hp} {v : V} {r : Row} (h : RowR K H v r) (k : LamX.ExtN H H') : RowR K H' v r := by
  cases r with
  | deal d => exact RwAt.ext h k
  | form t f => exact dp_ext k h
  | read n a t k' w => exact dp_ext k h
theorem RowR.dp {K : PySem.W.Frag} {H : Hp} {v : V} {r : Row} (h : RowR K H v r) : Dp K H v r.d := by
  cases r with
  | deal d => exact RwAt.dp h
  | form t f => exact h
  | read n a t k' w => exact h
def DsR (K : PySem.W.Frag) (H : Hp) (zs : List (V × Deal)) : Prop := ∀ z ∈ zs, RwAt K H z.1 z.2
def RsR (K : PySem.W.Frag) (H : Hp) (bs : List (V × Row)) : Prop := ∀ b ∈ bs, RowR K H b.1 b.2
theorem DsR.ext {K : PySem.W.Frag} {H H' : Hp} {zs : List (V × Deal)} (h : DsR K H zs) (k : LamX.ExtN H H') : DsR K H' zs := fun z hz => (h z hz).ext k
theorem RsR.ext {K : PySem.W.Frag} {H H' : Hp} {bs : List (V × Row)} (h : RsR K H bs) (k : LamX.ExtN H H') : RsR K H' bs := fun z hz => (h z hz).ext k
theorem DsR.at_ {K : PySem.W.Frag} {H : Hp} {zs : List (V × Deal)} (h : DsR K H zs) : DsAt K H zs := fun z hz => (h z hz).dp
theorem RsR.at_ {K : PySem.W.Frag} {H : Hp} {bs : List (V × Row)} (h : RsR K H bs) : RsAt K H bs := fun z hz => (h z hz).dp
theorem xkp {S : List Addr} {s : Addr} {H H' : Hp} (k : Kp s H H') (hs : s ∈ S) : LamX.ExtN (mk S H) (mk S H') := LamX.ExtN.of (mk_kp k hs)
theorem xsm {S : List Addr} {H H' : Hp} (k : Same H H') : LamX.ExtN (mk S H) (mk S H') := LamX.ExtN.of (mk_same k)
theorem xlt {S S' : List Addr} {H : Hp} (l : ∀ b ∈ S, b ∈ S') : LamX.ExtN (mk S' H) (mk S H) := LamX.ExtN.of (mk_less l)
theorem xmo {S : List Addr} {p : Addr} {H : Hp} (n : H p = none) : LamX.ExtN (mk S H) (mk (p :: S) H) := LamX.ExtN.of (mk_more n)
theorem xpu {S : List Addr} {D : Addr} {o : HO} {H : Hp} (hs : D ∈ S) : LamX.ExtN (mk S H) (mk S (upd H D o)) := by
  rw [mk_upd hs]
  exact LamX.ExtN.of (Same.refl _)
theorem xout {S : List Addr} {H : Hp} : LamX.ExtN (mk S H) H := LamX.ExtN.of (mk_sub S H)
theorem mk_has {S : List Addr} {H : Hp} {l : Addr} {o : HO} (h : H l = some o) (n : l ∉ S) : mk S H l = some o := by rw [mk_at n]; exact h
theorem deal_dp {K : PySem.W.Frag} {G : Hp} {r t rl wl : Addr} {xs ys : List V} {d : Deal} (hr : G r = some (.tup [.str "dealing", .int d.num, .int d.beg, .int d.told, .ref t, .ref rl, .ref wl])) (ht : G t = some (.tup (d.st.map V.int))) (h1 : G rl = some (.lst xs)) (d1 : DpAll K G xs (d.rs.map rpD)) (h2 : G wl = some (.lst ys)) (d2 : DpAll K G ys (d.ws.map wpD)) : Dp K G (.ref r) d.d :=
  .tup (SqT.of hr) (.cons (.str _) (.cons (.int _) (.cons (.int _) (.cons (.int _) (.cons (.tup (SqT.of ht) (dpall_ints _)) (.cons (.lst (SqL.of h1) d1) (.cons (.lst (SqL.of h2) d2) .nil)))))))
theorem deal_rw {K : PySem.W.Frag} {G : Hp} {r t rl wl : Addr} {xs ys : List V} {d : Deal} (hr : G r = some (.tup [.str "dealing", .int d.num, .int d.beg, .int d.told, .ref t, .ref rl, .ref wl])) (ht : G t = some (.tup (d.st.map V.int))) (h1 : G rl = some (.lst xs)) (d1 : DpAll K G xs (d.rs.map rpD)) (h2 : G wl = some (.lst ys)) (d2 : DpAll K G ys (d.ws.map wpD)) : RwAt K G (.ref r) d :=
  ⟨r, t, rl, wl, xs, ys, ⟨rfl, SqT.of hr, SqT.of ht, SqL.of h1, d1, SqL.of h2, d2⟩, h1, h2⟩
theorem two_lst {H : Hp} {s D : Addr} {ys : List V} (h : StAt H s) (h2 : H D = some (.lst ys)) : ∀ b ∈ [s, D], ∃ ys, H b = some (.lst ys) := fun b hb => by
  rcases List.mem_cons.mp hb with rfl | hb
  · exact h.lst
  · cases List.mem_singleton.mp hb
    exact ⟨_, h2⟩
theorem not_two {b s D : Addr} (h1 : b ≠ s) (h2 : b ≠ D) : b ∉ [s, D] := fun h => by
  rcases List.mem_cons.mp h with rfl | h
  · exact h1 rfl
  · cases List.mem_singleton.mp h
    exact h2 rfl
theorem mk_sqL {K : PySem.W.Frag} {S : List Addr} {s : Addr} {H H' : Hp} {l : Addr} {xs : List V} (h : SqL K (mk S H) l xs) (hs : s ∈ S) (k : Kp s H H') : SqL K (mk S H') l xs := SL.SqL.extN h (LamX.ExtN.of (mk_kp k hs))
theorem sqL_out {K : PySem.W.Frag} {S : List Addr} {H : Hp} {l : Addr} {xs : List V} (h : SqL K (mk S H) l xs) : SqL K H l xs := SL.SqL.extN h (LamX.ExtN.of (mk_sub S H))
theorem owB_shp {m : Nat} {w : Option (List Int)} {f : Option Int} (h : owB m w) (hf : ∀ i, f = some i → 1 ≤ i ∧ i ≤ 4) : owB m (shp w f) := by
  cases w with
  | none => exact h
  | some w =>
    cases f with
    | none => exact h
    | some f =>
      obtain ⟨⟨h1, h2⟩, h3⟩ := (show wB m w from h)
      obtain ⟨f1, f2⟩ := hf f rfl
      refine ⟨?_, fun x hx => ?_⟩
      · rw [List.length_take, List.length_append, List.length_replicate]
        omega
      · rcases List.mem_append.mp (List.mem_of_mem_take hx) with hx | hx
        · exact h3 x hx
        · cases List.eq_of_mem_replicate hx
          exact ⟨by omega, by omega⟩
theorem owB_good {m : Nat} {w : Option (List Int)} (h : owB m w) : owgood w := by
  cases w with
  | none => trivial
  | some w => exact h.1
def abce : List Str := ["a", "b", "c", "e"]
theorem abce_kL : ∀ k ∈ abce, k ∈ kL := by decide +kernel
theorem abce_at {r : Int} (h0 : 0 ≤ r) (h1 : r < 4) : ∃ k ∈ abce, atI [V.str "a", V.str "b", V.str "c", V.str "e"] r = some (V.str k) := by
  have : r = 0 ∨ r = 1 ∨ r = 2 ∨ r = 3 := by omega
  rcases this with rfl | rfl | rfl | rfl
  · exact ⟨"a", by decide +kernel, atI_nat (j := 0) rfl⟩
  · exact ⟨"b", by decide +kernel, atI_nat (j := 1) rfl⟩
  · exact ⟨"c", by decide +kernel, atI_nat (j := 2) rfl⟩
  · exact ⟨"e", by decide +kernel, atI_nat (j := 3) rfl⟩
theorem rw_at {r : Int} (h0 : 0 ≤ r) (h1 : r < 2) : ∃ n : Bool, atI [V.str "read", V.str "now"] r = some (V.str (rwName n)) := by
  have : r = 0 ∨ r = 1 := by omega
  rcases this with rfl | rfl
  · exact ⟨false, atI_nat (j := 0) rfl⟩
  · exact ⟨true, atI_nat (j := 1) rfl⟩
theorem cut_from (xs : List V) (n : Nat) : cutV xs (some (n : Int)) none = xs.drop n := by
  unfold cutV
  rw [HT.sIx_nat, HT.sIx_none]
  by_cases c : n ≤ xs.length
  · rw [Nat.min_eq_left c, List.take_of_length_le (by rw [List.length_drop]; omega)]
  · rw [Nat.min_eq_right (by omega), List.drop_length, List.take_nil, List.drop_of_length_le (by omega)]
def zrow (z : V × Deal) : V × Row := (z.1, .deal z.2)
theorem zrow_fst (zs : List (V × Deal)) : (zs.map zrow).map (·.1) = zs.map (·.1) := by
  rw [List.map_map]
  rfl
theorem rs_kp {K : PySem.W.Frag} {s : Addr} {H H' : Hp} {bs : List (V × Row)} (h : RsAt K (mk [s] H) bs) (k : Kp s H H') : RsAt K (mk [s] H') bs := fun z hz => mk_kpD (h z hz) (.head _) k
theorem rs_same {K : PySem.W.Frag} {s : Addr} {H H' : Hp} {bs : List (V × Row)} (h : RsAt K (mk [s] H) bs) (k : Same H H') : RsAt K (mk [s] H') bs := fun z hz => dp_ext (LamX.ExtN.of (mk_same k)) (h z hz)
theorem ds_kp {K : PySem.W.Frag} {s : Addr} {H H' : Hp} {bs : List (V × Deal)} (h : DsAt K (mk [s] H) bs) (k : Kp s H H') : DsAt K (mk [s] H') bs := fun z hz => mk_kpD (h z hz) (.head _) k
theorem ds_same {K : PySem.W.Frag} {s : Addr} {H H' : Hp} {bs : List (V × Deal)} (h : DsAt K (mk [s] H) bs) (k : Same H H') : DsAt K (mk [s] H') bs := fun z hz => dp_ext (LamX.ExtN.of (mk_same k)) (h z hz)
theorem not_one {b s : Addr} (h : b ≠ s) : b ∉ [s] := fun z => h (List.mem_singleton.mp z)
theorem mk_one2 {K : PySem.W.Frag} {s p : Addr} {H : Hp} {v : V} {d : PyData} (h : Dp K (mk [s, p] H) v d) : Dp K (mk [s] H) v d := dp_ext (LamX.ExtN.of (mk_less fun b hb => by
  cases List.mem_singleton.mp hb
  exact .head _)) h
theorem sub_two {p s : Addr} : ∀ b ∈ [s], b ∈ [p, s] := fun b hb => .tail _ hb
theorem sub_two' {p s : Addr} : ∀ b ∈ [s], b ∈ [s, p] := fun b hb => by
  cases List.mem_singleton.mp hb
  exact .head _
theorem in_two {p s : Addr} : s ∈ [p, s] := .tail _ (.head _)
theorem rs_zrow {K : PySem.W.Frag} {H : Hp} {zs : List (V × Deal)} (h : DsR K H zs) : RsR K H (zs.map zrow) := fun b hb => by
  obtain ⟨z, hz, rfl⟩ := List.mem_map.mp hb
  exact h z hz
theorem rs_app {K : PySem.W.Frag} {H : Hp} {as bs : List (V × Row)} (h : RsR K H as) (g : RsR K H bs) : RsR K H (as ++ bs) := fun b hb => (List.mem_append.mp hb).elim (h b) (g b)
theorem rb_app {m : Nat} {as bs : List (V × Row)} (h : ∀ b ∈ as, RB m b.2) (g : ∀ b ∈ bs, RB m b.2) : ∀ b ∈ as ++ bs, RB m b.2 := fun b hb => (List.mem_append.mp hb).elim (h b) (g b)
theorem rb_zrow {m : Nat} {zs : List (V × Deal)} (h : ∀ z ∈ zs, DB m z.2) : ∀ b ∈ zs.map zrow, RB m b.2 := fun b hb => by
  obtain ⟨z, hz, rfl⟩ := List.mem_map.mp hb
  exact h z hz
theorem vne {i j : Int} (h : i ≠ j) : V.int i ≠ V.int j := fun z => h (V.int.inj z)
/-- a bent dealing, laid -/
theorem bd_fin {K : PySem.W.Frag} {s r t rl wl : Addr} {m : Nat} {H0 HF : Hp} {Q : VK} {d' : Deal} {xs ys : List V} (k : Kp s H0 HF) (nr : HF r = none) (ht : SqT K (mk [s] HF) t (d'.st.map V.int)) (h1 : mk [s] HF rl = some (.lst xs)) (g1 : DpAll K (mk [s] HF) xs (d'.rs.map rpD)) (h2 : mk [s] HF wl = some (.lst ys)) (g2 : DpAll K (mk [s] HF) ys (d'.ws.map wpD)) (hb : DB m d')
    (q : ∀ v' d' H', Kp s H0 H' → RwAt K (mk [s] H') v' d' → DB m d' → Q v' H') : Q (.ref r) (upd HF r (.tup [.str "dealing", .int d'.num, .int d'.beg, .int d'.told, .ref t, .ref rl, .ref wl])) := by
  have rs_ : r ≠ s := k.2.ne_new nr
  have s5 : Same HF (upd HF r (.tup [.str "dealing", .int d'.num, .int d'.beg, .int d'.told, .ref t, .ref rl, .ref wl])) := same_new (Same.refl HF) nr
  have hr : mk [s] (upd HF r (.tup [.str "dealing", .int d'.num, .int d'.beg, .int d'.told, .ref t, .ref rl, .ref wl])) r = some (.tup [.str "dealing", .int d'.num, .int d'.beg, .int d'.told, .ref t, .ref rl, .ref wl]) := mk_has upd_same (not_one rs_)
  have x := xsm (S := [s]) s5
  refine q _ d' _ (k.step s5) ⟨r, t, rl, wl, xs, ys, ⟨rfl, SqT.of hr, SL.SqT.extN ht x, SL.SqL.extN (SqL.of h1) x, dpall_ext x g1, SL.SqL.extN (SqL.of h2) x, dpall_ext x g2⟩, x _ _ h1 (fun _ z => by cases z), x _ _ h2 (fun _ z => by cases z)⟩ hb
def spBentD (K : PySem.W.Frag) : Sp := fun vs H Q _ => ∃ (s : Addr) (v : V) (d : Deal) (m : Nat), vs = [.ref s, v] ∧ StAt H s ∧ RwAt K (mk [s] H) v d ∧ m ≤ 3 ∧ DB m d ∧ ∀ v' d' H', Kp s H H' → RwAt K (mk [s] H') v' d' → DB (m + 1) d' → Q v' H'
theorem sqt_out {K : PySem.W.Frag} {S : List Addr} {H : Hp} {p : Addr} {xs : List V} (h : SqT K (mk S H) p xs) : SqT K H p xs := SL.SqT.extN h xout
theorem rsl_tail {K : PySem.W.Frag} {H : Hp} {α : Type} {f : α → PyData} {vs : List V} {xs : List α} (h : DpAll K H vs (xs.map f)) : DpAll K H (vs.drop 1) ((xs.drop 1).map f) := by
  cases xs with
  | nil =>
    cases dpall_nilI h
    exact .nil
  | cons x r =>
    obtain ⟨v, r', rfl, _, h2⟩ := dpall_consI h
    exact h2
theorem dpall_app2 {K : PySem.W.Frag} {H : Hp} : ∀ {vs ws : List V} {ds es : List PyData}, DpAll K H vs ds → DpAll K H ws es → DpAll K H (vs ++ ws) (ds ++ es)
  | _, _, _, _, .nil, h => h
  | _, _, _, _, .cons a b, h => .cons a (dpall_app2 b h)
theorem dpall_rev {K : PySem.W.Frag} {H : Hp} : ∀ {vs : List V} {ds : List PyData}, DpAll K H vs ds → DpAll K H vs.reverse ds.reverse
  | _, _, .nil => .nil
  | _, _, .cons a b => by
    rw [List.reverse_cons, List.reverse_cons]
    exact dpall_app2 (dpall_rev b) (.cons a .nil)
theorem ib_up {m : Nat} {i j : Int} (h : Ib m i) (h1 : i - 100 ≤ j) (h2 : j ≤ i + 100) : Ib (m + 1) j := by
  have a := h.1
  have b := h.2
  exact ⟨by omega, by omega⟩
/-- a dealing's row while it is bent -/
structure BW (K : PySem.W.Frag) (s : Addr) (H0 H : Hp) (v : V) (d : Deal) (p ps rl wl : Addr) (xs ys : List V) : Prop where
  of ::
  k : Kp s H0 H
  A : DealAt K (mk [s] H) v d p ps rl wl xs ys
  hrl : mk [s] H rl = some (.lst xs)
  hwl : mk [s] H wl = some (.lst ys)
theorem BW.kp {K : PySem.W.Frag} {s : Addr} {H0 H H2 : Hp} {v : V} {d : Deal} {p ps rl wl : Addr} {xs ys : List V} (h : BW K s H0 H v d p ps rl wl xs ys) (k2 : Kp s H H2) : BW K s H0 H2 v d p ps rl wl xs ys :=
  ⟨h.k.trans k2, h.A.ext (xkp k2 (.head _)), (xkp k2 (.head _)) _ _ h.hrl (fun _ z => by cases z), (xkp k2 (.head _)) _ _ h.hwl (fun _ z => by cases z)⟩
theorem BW.sm {K : PySem.W.Frag} {s : Addr} {H0 H H2 : Hp} {v : V} {d : Deal} {p ps rl wl : Addr} {xs ys : List V} (h : BW K s H0 H v d p ps rl wl xs ys) (e : Same H H2) : BW K s H0 H2 v d p ps rl wl xs ys :=
  ⟨h.k.step e, h.A.ext (xsm e), (xsm e) _ _ h.hrl (fun _ z => by cases z), (xsm e) _ _ h.hwl (fun _ z => by cases z)⟩
theorem BW.nw {K : PySem.W.Frag} {s u : Addr} {o : HO} {H0 H : Hp} {v : V} {d : Deal} {p ps rl wl : Addr} {xs ys : List V} (h : BW K s H0 H v d p ps rl wl xs ys) (n : H u = none) : BW K s H0 (upd H u o) v d p ps rl wl xs ys := h.sm (same_new (Same.refl H) n)
theorem BW.has {K : PySem.W.Frag} {s u : Addr} {o : HO} {H0 H : Hp} {v : V} {d : Deal} {p ps rl wl : Addr} {xs ys : List V} (h : BW K s H0 H v d p ps rl wl xs ys) (n : H u = none) : mk [s] (upd H u o) u = some o := mk_has upd_same (not_one (h.k.2.ne_new n))
theorem mk_nw {s u a : Addr} {o ob : HO} {H : Hp} (h : mk [s] H a = some ob) (n : H u = none) : mk [s] (upd H u o) a = some ob := mk_same (same_new (Same.refl H) n) _ _ h
theorem dpall_len {K : PySem.W.Frag} {H : Hp} : ∀ {vs : List V} {ds : List PyData}, DpAll K H vs ds → vs.length = ds.length
  | _, _, .nil => rfl
  | _, _, .cons _ h => congrArg Nat.succ (dpall_len h)
/-- a history while it is bent -/
structure TW (K : PySem.W.Frag) (s : Addr) (H0 H : Hp) (l : Addr) (bs : List (V × Row)) : Prop where
  of ::
  k : Kp s H0 H
  hl : SqL K (mk [s] H) l (bs.map (·.1))
  hb : RsR K (mk [s] H) bs
theorem TW.kp {K : PySem.W.Frag} {s l : Addr} {H0 H H2 : Hp} {bs : List (V × Row)} (h : TW K s H0 H l bs) (k : Kp s H H2) : TW K s H0 H2 l bs := ⟨h.k.trans k, SL.SqL.extN h.hl (xkp k (.head _)), h.hb.ext (xkp k (.head _))⟩
theorem TW.sm {K : PySem.W.Frag} {s l : Addr} {H0 H H2 : Hp} {bs : List (V × Row)} (h : TW K s H0 H l bs) (k : Same H H2) : TW K s H0 H2 l bs := ⟨h.k.step k, SL.SqL.extN h.hl (xsm k), h.hb.ext (xsm k)⟩
theorem TW.nw {K : PySem.W.Frag} {s l u : Addr} {o : HO} {H0 H : Hp} {bs : List (V × Row)} (h : TW K s H0 H l bs) (n : H u = none) : TW K s H0 (upd H u o) l bs := h.sm (same_new (Same.refl H) n)
theorem TW.has {K : PySem.W.Frag} {s l u : Addr} {o : HO} {H0 H : Hp} {bs : List (V × Row)} (h : TW K s H0 H l bs) (n : H u = none) : mk [s] (upd H u o) u = some o := mk_has upd_same (not_one (h.k.2.ne_new n))
theorem TW.lst {K : PySem.W.Frag} {s l : Addr} {H0 H : Hp} {bs : List (V × Row)} (h : TW K s H0 H l bs) : SqL K H l (bs.map (·.1)) := sqL_out h.hl
def spBent (K : PySem.W.Frag) : Sp := fun vs H Q _ => ∃ (s l : Addr) (bs : List (V × Row)) (m : Nat), vs = [.ref s, .ref l] ∧ StAt H s ∧ SqL K (mk [s] H) l (bs.map (·.1)) ∧ RsR K (mk [s] H) bs ∧ bs.length ≤ 14 ∧ m ≤ 3 ∧ (∀ b ∈ bs, RB m b.2) ∧
  ∀ p bs' H', Kp s H H' → SqL K (mk [s] H') p (bs'.map (·.1)) → RsR K (mk [s] H') bs' → bs'.length ≤ bs.length + 1 → (∀ b ∈ bs', RB (m + 1) b.2) → Q (.ref p) H'
theorem bt_fin {K : PySem.W.Frag} {s r : Addr} {m n : Nat} {H0 HF : Hp} {Q : VK} {zs : List (V × Row)} {xs : List V} (k : Kp s H0 HF) (nr : HF r = none) (hz : RsR K (mk [s] HF) zs) (hl : zs.length ≤ n) (hb : ∀ b ∈ zs, RB m b.2)
    (q : ∀ p bs' H', Kp s H0 H' → SqL K (mk [s] H') p (bs'.map (·.1)) → RsR K (mk [s] H') bs' → bs'.length ≤ n → (∀ b ∈ bs', RB m b.2) → Q (.ref p) H') (e : xs = zs.map (·.1)) : Q (.ref r) (upd HF r (.lst xs)) := by
  subst e
  have rs_ : r ≠ s := k.2.ne_new nr
  have s5 : Same HF (upd HF r (.lst (zs.map (·.1)))) := same_new (Same.refl HF) nr
  exact q r zs _ (k.step s5) (SqL.of (mk_has upd_same (not_one rs_))) (hz.ext (xsm s5)) hl hb
theorem rs_take {K : PySem.W.Frag} {H : Hp} {bs : List (V × Row)} (h : RsR K H bs) (n : Nat) : RsR K H (bs.take n) := fun b hb => h b (List.mem_of_mem_take hb)
theorem rs_drop {K : PySem.W.Frag} {H : Hp} {bs : List (V × Row)} (h : RsR K H bs) (n : Nat) : RsR K H (bs.drop n) := fun b hb => h b (List.mem_of_mem_drop hb)
theorem rs_one {K : PySem.W.Frag} {H : Hp} {v : V} {r : Row} (h : RowR K H v r) : RsR K H [(v, r)] := fun b hb => by
  cases List.mem_singleton.mp hb
  exact h
theorem rb_one {m : Nat} {v : V} {r : Row} (h : RB m r) : ∀ b ∈ [(v, r)], RB m b.2 := fun b hb => by
  cases List.mem_singleton.mp hb
  exact h
theorem cut_toN (xs : List V) (n : Nat) : cutV xs none (some (n : Int)) = xs.take n := by
  rw [cut_to _ (by omega), Int.toNat_natCast]
theorem rows_eq_nil (bs : List (V × Row)) : PyData.eqv (.list ((bs.map (·.2)).map Row.d)) (.list []) = bs.isEmpty := by
  cases bs with
  | nil => rfl
  | cons b r => rfl
/-! ### two ways to sort by stamps -/
theorem st_le (a b : List Int) : stLe a b = decide (a ≤ b) := by
  show (!PySem.W.dataLt (.tuple (b.map .int)) (.tuple (a.map .int))) = _
  rw [PySem.W.dataLt_tuple]
  show (!PySem.W.rowLt (b.map .int) (a.map .int)) = _
  rw [PySem.W.dataLt_ints]
  by_cases h : b < a
  · have h' : ¬ a ≤ b := fun r => List.not_lt.mpr r h
    simp [h, h']
  · have h' : a ≤ b := List.not_lt.mp h
    simp [h, h']
theorem uniq_sort {α : Type} (key : α → List Int) : ∀ {l m : List α}, l.Perm m → l.Pairwise (fun a b => key a ≤ key b) → m.Pairwise (fun a b => key a ≤ key b) → (∀ a ∈ l, ∀ b ∈ l, key a = key b → a = b) → l = m
  | [], m, p, _, _, _ => (List.nil_perm.mp p).symm
  | a :: l, [], p, _, _, _ => absurd p.length_eq (by simp)
  | a :: l, b :: m, p, hl, hm, inj => by
    have ha : a ∈ b :: m := p.mem_iff.mp (.head _)
    have hb : b ∈ a :: l := p.mem_iff.mpr (.head _)
    have e : a = b := by
      rcases List.mem_cons.mp ha with e | ha'
      · exact e
      · rcases List.mem_cons.mp hb with e | hb'
        · exact e.symm
        · have h1 : key a ≤ key b := (List.pairwise_cons.mp hl).1 b hb'
          have h2 : key b ≤ key a := (List.pairwise_cons.mp hm).1 a ha'
          exact inj a (.head _) b hb (List.le_antisymm h1 h2)
    subst e
    rw [uniq_sort key (List.Perm.cons_inv p) (List.pairwise_cons.mp hl).2 (List.pairwise_cons.mp hm).2 fun x hx y hy => inj x (.tail _ hx) y (.tail _ hy)]
theorem ints_lt_or {a b : List Int} (h : a ≤ b) : a < b ∨ a = b := by
  by_cases c : a < b
  · exact .inl c
  · exact .inr (List.le_antisymm h (List.not_lt.mp c))
def snD (q : List Int × Int) : PyData := .tuple [woD q.1, .int q.2]
theorem sn_alike (a b : List Int × Int) : PySem.W.alike (snD a) (snD b) = true := by
  unfold snD
  simp only [PySem.W.alike, PySem.W.alikeAll, wo_alike, Bool.and_self]
theorem sn_depth (q : List Int × Int) : (snD q).depth = 2 := by
  unfold snD
  simp only [PyData.depth, PyData.depthAll, wo_depth]
  rfl
def snLe (p q : List Int × Int) : Bool := PySem.W.dataLe false snD p q
theorem sn_le (p q : List Int × Int) : snLe p q = decide (p.1 < q.1 ∨ (p.1 = q.1 ∧ p.2 ≤ q.2)) := by
  show (!PySem.W.dataLt (snD q) (snD p)) = _
  unfold snD
  rw [PySem.W.dataLt_pair (wo_alike _ _) (by simp [PySem.W.alike]), eqv_wo, PySem.W.dataLt_int]
  have e1 : PySem.W.dataLt (woD q.1) (woD p.1) = decide (q.1 < p.1) := by
    unfold woD
    rw [PySem.W.dataLt_tuple]
    exact PySem.W.dataLt_ints q.1 p.1
  rw [e1]
  simp only [PyData.eqv, beq_iff_eq, decide_eq_true_eq]
  by_cases h1 : q.1 = p.1
  · rw [if_pos h1, h1]
    have hirr : ¬ p.1 < p.1 := List.lt_irrefl _
    by_cases h2 : q.2 = p.2
    · rw [if_pos h2, h2]
      simp
    · rw [if_neg h2]
      by_cases h3 : q.2 < p.2
      · have h4 : ¬ p.2 ≤ q.2 := by omega
        simp [h3, h4, hirr]
      · have h4 : p.2 ≤ q.2 := by omega
        simp [h3, h4]
  · rw [if_neg h1]
    have h1' : ¬ p.1 = q.1 := fun e => h1 e.symm
    by_cases h2 : q.1 < p.1
    · have h3 : ¬ p.1 < q.1 := List.lt_asymm h2
      simp [h2, h3, h1']
    · have h3 : p.1 ≤ q.1 := List.not_lt.mp h2
      have h4 : p.1 < q.1 := by
        rcases ints_lt_or h3 with h | h
        · exact h
        · exact absurd h h1'
      simp [h2, h4]
theorem sn_trans (a b c : List Int × Int) : snLe a b = true → snLe b c = true → snLe a c = true := by
  rw [sn_le, sn_le, sn_le]
  simp only [decide_eq_true_eq]
  rintro (h1 | ⟨h1, h2⟩) (h3 | ⟨h3, h4⟩)
  · exact .inl (List.lt_trans h1 h3)
  · exact .inl (h3 ▸ h1)
  · exact .inl (h1 ▸ h3)
  · exact .inr ⟨h1.trans h3, Int.le_trans h2 h4⟩
theorem sn_total (a b : List Int × Int) : (snLe a b || snLe b a) = true := by
  rw [sn_le, sn_le, Bool.or_eq_true, decide_eq_true_eq, decide_eq_true_eq]
  by_cases h : a.1 < b.1
  · exact .inl (.inl h)
  · have h := List.not_lt.mp h
    rcases ints_lt_or h with h | h
    · exact .inr (.inl h)
    · rcases Int.le_total a.2 b.2 with k | k
      · exact .inl (.inr ⟨h.symm, k⟩)
      · exact .inr (.inr ⟨h, k⟩)
theorem st_trans (a b c : Deal) : stLe a.st b.st = true → stLe b.st c.st = true → stLe a.st c.st = true := by
  rw [st_le, st_le, st_le]
  simp only [decide_eq_true_eq]
  exact fun h1 h2 => List.le_trans h1 h2
theorem st_total (a b : Deal) : (stLe a.st b.st || stLe b.st a.st) = true := by
  rw [st_le, st_le, Bool.or_eq_true, decide_eq_true_eq, decide_eq_true_eq]
  exact List.le_total _ _
theorem sort_nums {ds : List Deal} (hn : (ds.map (·.st)).Nodup) : ((ds.map fun d => (d.st, d.num)).mergeSort snLe).map (·.2) = (srt ds).map (·.num) := by
  have e : (ds.map fun d => (d.st, d.num)).mergeSort snLe = (srt ds).map fun d => (d.st, d.num) := by
    refine uniq_sort (fun q : List Int × Int => q.1) ?_ ?_ ?_ ?_
    · exact (List.mergeSort_perm _ _).trans ((List.mergeSort_perm ds _).symm.map _)
    · refine (List.pairwise_mergeSort (le := snLe) sn_trans sn_total _).imp fun {a b} h => ?_
      rw [sn_le, decide_eq_true_eq] at h
      rcases h with h | ⟨h, _⟩
      · exact List.le_of_lt h
      · exact h ▸ List.le_refl _
    · refine List.pairwise_map.mpr ((List.pairwise_mergeSort (le := fun a b : Deal => stLe a.st b.st) st_trans st_total ds).imp fun {a b} h => ?_)
      rw [st_le, decide_eq_true_eq] at h
      exact h
    · intro a ha b hb e
      obtain ⟨x, hx, rfl⟩ := List.mem_map.mp (List.mem_mergeSort.mp ha)
      obtain ⟨y, hy, rfl⟩ := List.mem_map.mp (List.mem_mergeSort.mp hb)
      have e : x.st = y.st := e
      have : x = y := by
        clear ha hb
        induction ds with
        | nil => cases hx
        | cons d r ih =>
          obtain ⟨n1, n2⟩ := List.nodup_cons.mp hn
          rcases List.mem_cons.mp hx with e1 | hx1
          · rcases List.mem_cons.mp hy with e2 | hy1
            · rw [e1, e2]
            · have hm := List.mem_map_of_mem (f := fun d : Deal => d.st) hy1
              have e3 : (fun d : Deal => d.st) y = d.st := by rw [← e1]; exact e.symm
              have hm : d.st ∈ r.map (fun d : Deal => d.st) := e3 ▸ hm
              exact absurd hm n1
          · rcases List.mem_cons.mp hy with e2 | hy1
            · have hm := List.mem_map_of_mem (f := fun d : Deal => d.st) hx1
              have e3 : (fun d : Deal => d.st) x = d.st := by rw [← e2]; exact e
              have hm : d.st ∈ r.map (fun d : Deal => d.st) := e3 ▸ hm
              exact absurd hm n1
            · exact ih n2 hx1 hy1
      rw [this]
  rw [e, List.map_map]
  rfl
/-! ### tables beside lists that change -/
theorem tabs_but {T : List (Addr × Str)} {H H' : Hp} {D : Addr} {ys : List V} (t : LamX.Tabs T H) (hD : H D = some (.lst ys)) (e : ∀ b o, b ≠ D → H b = some o → H' b = some o) : LamX.Tabs T H' := fun p hp => by
  obtain ⟨ps, h1, h2, h3⟩ := t p hp
  refine ⟨ps, e _ _ (fun z => by rw [z, hD] at h1; cases h1) h1, h2, fun pos cv hc => ?_⟩
  obtain ⟨c, e1, e2⟩ := h3 pos cv hc
  exact ⟨c, e1, e _ _ (fun z => by rw [z, hD] at e2; cases e2) e2⟩
theorem tabs_kp {T : List (Addr × Str)} {s : Addr} {H H' : Hp} (t : LamX.Tabs T H) (hs : StAt H s) (k : Kp s H H') : LamX.Tabs T H' := by
  obtain ⟨ys, e⟩ := hs.lst
  exact tabs_but t e fun b o n h => k.1 b o n h
/-- a list that was not told of ahead, changed behind -/
theorem ex_put {T : List (Addr × Str)} {H H' : Hp} {p : Addr} {o : HO} {ys : List V} (x : LM.Ex T H H') (f : Fr H p) (hp : H' p = some (.lst ys)) : LM.Ex T H (upd H' p o) := by
  refine ⟨fun b ob h nt => ?_, fun t => tabs_but (x.tab t) hp fun b ob n h => by rw [upd_ne n]; exact h⟩
  rw [upd_ne (fun z => ?_)]
  · exact x.ext b ob h nt
  · subst z
    obtain ⟨ps, e⟩ := f ob h
    exact nt ps e
def dueL (d : PyData) : List PyData := if ordD d then (numsOf d).map .int else [.str "refused", .bool true]
def spTold (K : PySem.W.Frag) (a : Nat → Addr) : Sp := fun vs H Q _ => ∃ (v : V) (d : PyData), vs = [v] ∧ Gd K H v d ∧ Few d ∧ LamX.Tabs (TT a) H ∧
  ∀ p ys H', LM.Ex (TT a) H H' → LamX.Tabs (TT a) H' → Fr H p → H' p = some (.lst ys) → DpAll K H' ys (dueL d) → Q (.ref p) H'
def spRight (K : PySem.W.Frag) (a : Nat → Addr) : Sp := fun vs H Q _ => ∃ (v : V) (d : PyData), vs = [v] ∧ Gd K H v d ∧ An K H v d ∧ Few d ∧ Shw d ∧ Shw (.list ((numsOf d).map .int)) ∧ LamX.Tabs (TT a) H ∧
  ∀ H', LM.Ex (TT a) H H' → LamX.Tabs (TT a) H' → Q (.bl true) H'
theorem an_ext {K : PySem.W.Frag} {H H' : Hp} (k : LamX.ExtN H H') {v : V} {d : PyData} (h : An K H v d) : An K H' v d := by
  cases h with
  | dp h => exact .dp (dp_ext k h)
  | dict e => exact .dict (k _ _ e fun _ z => by cases z)
theorem shw_ref : Shw (.list [.str "refused", .bool true]) := ⟨rfl, by decide, by decide +kernel⟩
theorem due_shw {d : PyData} (h : Shw (.list ((numsOf d).map .int))) : Shw (.list (dueL d)) := by
  unfold dueL
  split
  · exact h
  · exact shw_ref
theorem due_len {d : PyData} (h : Few d) : (dueL d).length < 64 := by
  unfold dueL
  split
  · rw [List.length_map]
    cases d with
    | list ds =>
      have h : ds.length < 64 := h
      show ((srt (dealsOf (ds.map rowOf))).map (·.num)).length < 64
      unfold srt dealsOf
      rw [List.length_map, List.length_mergeSort]
      have := List.length_filterMap_le dealOf (ds.map rowOf)
      rw [List.length_map] at this
      omega
    | _ => exact (show 0 < 64 by decide)
  · exact (show 2 < 64 by decide)
theorem ord_nodup {rs : List Row} (h : ordR rs = true) : ((dealsOf rs).map (·.st)).Nodup := by
  unfold ordR at h
  rw [Bool.or_eq_true] at h
  rcases h with h | h
  · have : rs = [] := List.isEmpty_iff.mp h
    subst this
    exact List.nodup_nil
  · simp only [Bool.and_eq_true] at h
    have h := h.1.1.1
    unfold fitB at h
    simp only [Bool.and_eq_true, decide_eq_true_eq] at h
    exact ((List.mergeSort_perm (dealsOf rs) _).map _).nodup_iff.mp h.1.2
theorem sn_at {K : PySem.W.Frag} {H : Hp} {v : V} {q : List Int × Int} (h : Dp K H v (snD q)) : ∃ p a, v = .ref p ∧ SqT K H p [a, .int q.2] ∧ Dp K H a (woD q.1) := by
  obtain ⟨p, xs, rfl, hp, h⟩ := dp_tupI h
  obtain ⟨a, r, rfl, h1, h⟩ := dpall_consI h
  obtain ⟨b, r, rfl, h2, h⟩ := dpall_consI h
  cases dpall_nilI h
  cases dp_intI h2
  exact ⟨p, a, rfl, hp, h1⟩
theorem sn_upd {K : PySem.W.Frag} {H : Hp} {D : Addr} {ys : List V} {o : HO} (hD : H D = some (.lst ys)) {v : V} {q : List Int × Int} (h : Dp K H v (snD q)) : Dp K (upd H D o) v (snD q) := by
  obtain ⟨p, a, rfl, hp, ha⟩ := sn_at h
  exact .tup (sqt_upd hD hp) (.cons (wo_upd hD ha) (.cons (.int _) .nil))
theorem deals_take {bs : List (V × Row)} {j : Nat} {b : V × Row} (h : bs[j]? = some b) : dealsOf ((bs.take (j + 1)).map (·.2)) = dealsOf ((bs.take j).map (·.2)) ++ (match dealOf b.2 with | some d => [d] | none => []) := by
  rw [List.take_add_one, h, List.map_append]
  unfold dealsOf
  rw [List.filterMap_append]
  congr 1
  show List.filterMap dealOf [b.2] = _
  rw [List.filterMap_cons]
  cases dealOf b.2 <;> rfl
theorem dpall_ints' {K : PySem.W.Frag} {H : Hp} : ∀ es : List (Addr × List Int × Int), DpAll K H (es.map fun e => V.int e.2.2) (es.map (PyData.int ∘ fun e => e.2.2))
  | [] => .nil
  | e :: r => .cons (.int _) (dpall_ints' r)
/-! ### forms: the last of a stable order is the greatest by time and place -/
theorem lastUp_filter {α : Type} (rows : List (Int × α)) (t : Int) : lastUp rows t = ((rows.filter fun p => decide (p.1 ≤ t)).getLast?).map (·.2) := by
  unfold lastUp
  rw [← List.head?_filter, List.filter_reverse, List.head?_reverse]
theorem last_filter {α : Type} {p : α → Bool} {l : List α} {x : α} (h : l.getLast? = some x) (hp : p x = true) : (l.filter p).getLast? = some x := by
  obtain ⟨i, rfl⟩ : ∃ i, l = i ++ [x] := by
    rcases List.eq_nil_or_concat l with rfl | ⟨i, y, rfl⟩
    · cases h
    · rw [List.concat_eq_append, List.getLast?_append, List.getLast?_singleton] at h
      cases h
      exact ⟨i, List.concat_eq_append⟩
  rw [List.filter_append, List.getLast?_append]
  simp [hp]
def keyLe (a b : Int × Int) : Bool := decide (a.1 ≤ b.1)
theorem keyLe_eq : (PySem.W.dataLe false fun p : Int × Int => PyData.int p.1) = keyLe := by
  rw [PySem.W.dataLe_int]
  rfl
theorem keyLe_trans (a b c : Int × Int) : keyLe a b = true → keyLe b c = true → keyLe a c = true := by
  unfold keyLe
  simp only [decide_eq_true_eq]
  omega
theorem keyLe_total (a b : Int × Int) : (keyLe a b || keyLe b a) = true := by
  unfold keyLe
  rw [Bool.or_eq_true, decide_eq_true_eq, decide_eq_true_eq]
  omega
theorem same_keys (l : List (Int × Int)) (T : Int) : (l.mergeSort keyLe).filter (fun p => decide (p.1 = T)) = l.filter fun p => decide (p.1 = T) := by
  have h1 : (l.filter fun p => decide (p.1 = T)).Pairwise (fun a b => keyLe a b = true) := by
    refine List.pairwise_iff_forall_sublist.mpr fun {a b} h => ?_
    have ha := (List.mem_filter.mp (h.subset (.head _))).2
    have hb := (List.mem_filter.mp (h.subset (.tail _ (.head _)))).2
    simp only [decide_eq_true_eq] at ha hb
    unfold keyLe
    rw [decide_eq_true_eq]
    omega
  have h2 : (l.filter fun p => decide (p.1 = T)).Sublist (l.mergeSort keyLe) := List.sublist_mergeSort keyLe_trans keyLe_total h1 List.filter_sublist
  have h3 := h2.filter fun p => decide (p.1 = T)
  rw [List.filter_filter] at h3
  have e : (l.filter fun p => decide (p.1 = T) && decide (p.1 = T)) = l.filter fun p => decide (p.1 = T) := by
    congr 1
    funext p
    rw [Bool.and_self]
  rw [e] at h3
  exact (h3.eq_of_length ((List.mergeSort_perm l keyLe).filter _).length_eq.symm).symm
theorem form_last {es : List (Int × Int × Int)} {l : List (Int × Int)} {t : Int} {e : Int × Int × Int} (hes : es.map (fun e => (e.1, e.2.2)) = l.filter fun p => decide (p.1 ≤ t)) (hj : es.Pairwise fun a b => a.2.1 < b.2.1) (he : e ∈ es) (hmax : ∀ x ∈ es, x.1 < e.1 ∨ (x.1 = e.1 ∧ x.2.1 ≤ e.2.1)) :
    lastUp (l.mergeSort keyLe) t = some e.2.2 := by
  rw [lastUp_filter]
  have het : e.1 ≤ t := by
    have : (e.1, e.2.2) ∈ l.filter fun p => decide (p.1 ≤ t) := by rw [← hes]; exact List.mem_map_of_mem (f := fun e : Int × Int × Int => (e.1, e.2.2)) he
    exact of_decide_eq_true (List.mem_filter.mp this).2
  -- those of e's time, in their own order: e is the last
  have h1 : ((es.filter fun x => decide (x.1 = e.1)).getLast?) = some e := by
    have hm : e ∈ es.filter fun x => decide (x.1 = e.1) := List.mem_filter.mpr ⟨he, decide_eq_true rfl⟩
    have hp := hj.filter (fun x => decide (x.1 = e.1))
    have hx : ∀ x ∈ es.filter fun x => decide (x.1 = e.1), x.2.1 ≤ e.2.1 := fun x hx => by
      obtain ⟨a, b⟩ := List.mem_filter.mp hx
      simp only [decide_eq_true_eq] at b
      rcases hmax x a with h | h
      · omega
      · exact h.2
    generalize (es.filter fun x => decide (x.1 = e.1)) = fs at hm hp hx
    rcases List.eq_nil_or_concat fs with rfl | ⟨i, y, rfl⟩
    · cases hm
    · rw [List.concat_eq_append] at *
      rw [List.getLast?_append, List.getLast?_singleton]
      rcases List.mem_append.mp hm with h | h
      · have := (List.pairwise_append.mp hp).2.2 e h y (.head _)
        have := hx y (List.mem_append_right _ (.head _))
        omega
      · cases List.mem_singleton.mp h
        rfl
  have h2 : (l.filter fun p => decide (p.1 = e.1)) = (es.filter fun x => decide (x.1 = e.1)).map fun x => (x.1, x.2.2) := by
    have a : (l.filter fun p => decide (p.1 = e.1)) = (l.filter fun p => decide (p.1 ≤ t)).filter fun p => decide (p.1 = e.1) := by
      rw [List.filter_filter]
      refine List.filter_congr fun p _ => ?_
      by_cases c : p.1 = e.1
      · have : p.1 ≤ t := by omega
        simp [c, het]
      · simp [c]
    rw [a, ← hes, List.filter_map]
    rfl
  have h3 : ((l.mergeSort keyLe).filter fun p => decide (p.1 = e.1)).getLast? = some (e.1, e.2.2) := by
    rw [same_keys, h2, List.getLast?_map, h1]
    rfl
  -- the last of those up to t has e's time
  have hsort : ((l.mergeSort keyLe).filter fun p => decide (p.1 ≤ t)).Pairwise (fun a b => keyLe a b = true) := (List.pairwise_mergeSort keyLe_trans keyLe_total l).filter _
  have hmem : ∀ p, p ∈ (l.mergeSort keyLe).filter (fun p => decide (p.1 ≤ t)) ↔ p ∈ l.filter fun p => decide (p.1 ≤ t) := fun p => by
    rw [List.mem_filter, List.mem_filter, List.mem_mergeSort]
  have h4 : ((l.mergeSort keyLe).filter fun p => decide (p.1 = e.1)) = ((l.mergeSort keyLe).filter fun p => decide (p.1 ≤ t)).filter fun p => decide (p.1 = e.1) := by
    rw [List.filter_filter]
    refine List.filter_congr fun p _ => ?_
    by_cases c : p.1 = e.1
    · simp [c, het]
    · simp [c]
  rw [h4] at h3
  have hin : (e.1, e.2.2) ∈ (l.mergeSort keyLe).filter fun p => decide (p.1 ≤ t) := (hmem _).mpr (by rw [← hes]; exact List.mem_map_of_mem (f := fun e : Int × Int × Int => (e.1, e.2.2)) he)
  have hle : ∀ p ∈ (l.mergeSort keyLe).filter (fun p => decide (p.1 ≤ t)), p.1 ≤ e.1 := fun p hp => by
    have hp := (hmem p).mp hp
    rw [← hes] at hp
    obtain ⟨x, hx, rfl⟩ := List.mem_map.mp hp
    rcases hmax x hx with h | h <;> dsimp only <;> omega
  generalize ((l.mergeSort keyLe).filter fun p => decide (p.1 ≤ t)) = S at h3 hsort hin hle
  rcases List.eq_nil_or_concat S with rfl | ⟨i, y, rfl⟩
  · cases hin
  · rw [List.concat_eq_append] at *
    have hy : (i ++ [y]).getLast? = some y := by rw [List.getLast?_append, List.getLast?_singleton]; rfl
    have ey : y.1 = e.1 := by
      have a := hle y (List.mem_append_right _ (.head _))
      rcases List.mem_append.mp hin with h | h
      · have b := (List.pairwise_append.mp hsort).2.2 _ h y (.head _)
        unfold keyLe at b
        simp only [decide_eq_true_eq] at b
        omega
      · rw [← List.mem_singleton.mp h]
    rw [last_filter hy (decide_eq_true ey)] at h3
    rw [hy]
    cases h3
    rfl
theorem form_none {l : List (Int × Int)} {t : Int} (h : (l.filter fun p => decide (p.1 ≤ t)) = []) : lastUp (l.mergeSort keyLe) t = none := by
  rw [lastUp_filter]
  have : ((l.mergeSort keyLe).filter fun p => decide (p.1 ≤ t)) = [] := by
    refine List.eq_nil_iff_forall_not_mem.mpr fun p hp => ?_
    rw [List.mem_filter, List.mem_mergeSort] at hp
    have : p ∈ l.filter fun p => decide (p.1 ≤ t) := List.mem_filter.mpr hp
    rw [h] at this
    cases this
  rw [this]
  rfl
theorem lt_wo (a b : List Int) : PySem.W.dataLt (woD a) (woD b) = decide (a < b) := by
  unfold woD
  rw [PySem.W.dataLt_tuple]
  exact PySem.W.dataLt_ints a b
/-- the greatest of tuples of ints -/
theorem max_wo : ∀ (r : List (List Int)) (x : List Int), ∃ y, PySem.W.maxD (woD x) (r.map woD) = woD y ∧ y ∈ x :: r ∧ ∀ z ∈ x :: r, ¬ y < z
  | [], x => ⟨x, rfl, .head _, fun z hz => by
    cases List.mem_singleton.mp hz
    exact List.lt_irrefl _⟩
  | z :: r, x => by
    have e : PySem.W.maxD (woD x) ((z :: r).map woD) = PySem.W.maxD (if x < z then woD z else woD x) (r.map woD) := by
      show List.foldl _ (if PySem.W.dataLt (woD x) (woD z) = true then woD z else woD x) _ = _
      rw [lt_wo]
      by_cases c : x < z
      · rw [if_pos (decide_eq_true c), if_pos c]
        rfl
      · rw [if_neg (by rw [decide_eq_false c]; decide), if_neg c]
        rfl
    rw [e]
    by_cases c : x < z
    · rw [if_pos c]
      obtain ⟨y, ey, hy, hz⟩ := max_wo r z
      refine ⟨y, ey, .tail _ hy, fun u hu => ?_⟩
      rcases List.mem_cons.mp hu with rfl | hu
      · exact fun h => hz z (.head _) (List.lt_trans h c)
      · exact hz u hu
    · rw [if_neg c]
      obtain ⟨y, ey, hy, hz⟩ := max_wo r x
      refine ⟨y, ey, ?_, fun u hu => ?_⟩
      · rcases List.mem_cons.mp hy with rfl | hy
        · exact .head _
        · exact .tail _ (.tail _ hy)
      · rcases List.mem_cons.mp hu with rfl | hu
        · exact hz u (.head _)
        · rcases List.mem_cons.mp hu with rfl | hu
          · intro h
            rcases ints_lt_or (List.not_lt.mp c) with k | k
            · exact hz x (.head _) (List.lt_trans h k)
            · exact hz x (.head _) (k ▸ h)
          · exact hz u (.tail _ hu)
theorem wo_inj {a b : List Int} (h : woD a = woD b) : a = b := by
  have := congrArg intsOf h
  rwa [intsOf_wo, intsOf_wo] at this
/-! ### what an ordered history says, dealing by dealing -/
def putD (m : Str → Option (List Int)) (d : Deal) : Str → Option (List Int) := d.ws.foldl putW m
theorem rd_at : ∀ {ds : List Deal} {m : Str → Option (List Int)}, rdB m ds = true → ∀ (i : Nat) (d : Deal), ds[i]? = some d → ∀ p ∈ d.rs, ((ds.take i).foldl putD m) p.1 = p.2
  | [], m, _, i, d, h, _, _ => by simp at h
  | x :: r, m, h, 0, d, e, p, hp => by
    have h : ((x.rs.all fun p => decide (m p.1 = p.2)) && rdB (x.ws.foldl putW m) r) = true := h
    rw [Bool.and_eq_true] at h
    simp at e
    subst e
    exact of_decide_eq_true (List.all_eq_true.mp h.1 p hp)
  | x :: r, m, h, i + 1, d, e, p, hp => by
    have h : ((x.rs.all fun p => decide (m p.1 = p.2)) && rdB (x.ws.foldl putW m) r) = true := h
    rw [Bool.and_eq_true] at h
    rw [List.take_succ_cons, List.foldl_cons]
    exact rd_at h.2 i d (by simpa using e) p hp
theorem go_at : ∀ {ds : List Deal} {o : Option Int}, goB o ds = true → ∀ (i : Nat) (d : Deal), ds[i]? = some d → (∀ l, o = some l → l < d.told) ∧ ∀ e ∈ ds.take i, e.beg < d.told
  | [], o, _, i, d, h => by simp at h
  | x :: r, o, h, 0, d, e => by
    simp at e
    subst e
    refine ⟨fun l hl => ?_, fun e he => by cases he⟩
    subst hl
    have h : (!decide (x.told ≤ l) && goB (some (max l x.beg)) r) = true := h
    rw [Bool.and_eq_true] at h
    have := h.1
    simp at this
    exact this
  | x :: r, o, h, i + 1, d, e => by
    have e : r[i]? = some d := by simpa using e
    obtain ⟨o', ho', hx, hl⟩ : ∃ o', goB (some o') r = true ∧ x.beg ≤ o' ∧ ∀ l, o = some l → l ≤ o' := by
      cases o with
      | none => exact ⟨x.beg, h, Int.le_refl _, fun l z => by cases z⟩
      | some l =>
        have h : (!decide (x.told ≤ l) && goB (some (max l x.beg)) r) = true := h
        rw [Bool.and_eq_true] at h
        exact ⟨max l x.beg, h.2, by omega, fun l' z => by cases z; omega⟩
    obtain ⟨h1, h2⟩ := go_at ho' i d e
    have h1 := h1 o' rfl
    refine ⟨fun l z => by have := hl l z; omega, fun y hy => ?_⟩
    rw [List.take_succ_cons] at hy
    rcases List.mem_cons.mp hy with rfl | hy
    · omega
    · exact h2 y hy
theorem forms_take {bs : List (V × Row)} {j : Nat} {b : V × Row} (h : bs[j]? = some b) : ((bs.take (j + 1)).map (·.2)).filterMap formOf = ((bs.take j).map (·.2)).filterMap formOf ++ (formOf b.2).toList := by
  rw [List.take_add_one, h, List.map_append, List.filterMap_append]
  have e : List.filterMap formOf ((some b).toList.map (·.2)) = (formOf b.2).toList := by
    show List.filterMap formOf [b.2] = _
    rw [List.filterMap_cons]
    cases formOf b.2 <;> rfl
  rw [e]
def vOf (d : Deal) (k : Str) : List (Int × List Int) := (d.ws.filter fun p => decide (k = p.1)).map fun p => (d.s1, p.2)
theorem addV_all (t : Int) (k : Str) : ∀ (ws : List (Str × List Int)) (m : Str → List (Int × List Int)), (ws.foldl (addV t) m) k = m k ++ (ws.filter fun p => decide (k = p.1)).map fun p => (t, p.2)
  | [], m => by simp
  | p :: r, m => by
    rw [List.foldl_cons, addV_all t k r, List.filter_cons]
    unfold addV
    by_cases c : k = p.1
    · simp [c]
    · simp [c]
theorem ver_all (k : Str) : ∀ (ds : List Deal) (m : Str → List (Int × List Int)), (ds.foldl (fun m d => d.ws.foldl (addV d.s1) m) m) k = m k ++ ds.flatMap fun d => vOf d k
  | [], m => by simp
  | d :: r, m => by
    rw [List.foldl_cons, ver_all k r, addV_all, List.flatMap_cons, List.append_assoc]
    rfl
theorem ver_eq (ds : List Deal) (k : Str) : verS ds k = ds.flatMap fun d => vOf d k := by
  unfold verS
  rw [ver_all]
  rfl
theorem putW_all (k : Str) : ∀ (ws : List (Str × List Int)) (m : Str → Option (List Int)), (ws.foldl putW m) k = ((((ws.filter fun p => decide (k = p.1)).getLast?).map (·.2)).or (m k))
  | [], m => by simp
  | p :: r, m => by
    rw [List.foldl_cons, putW_all k r, List.filter_cons]
    unfold putW
    by_cases c : k = p.1
    · rw [if_pos c, if_pos (decide_eq_true c)]
      cases e : (r.filter fun p => decide (k = p.1)) with
      | nil => simp
      | cons x xs =>
        rw [List.getLast?_cons_cons]
        cases h : (x :: xs).getLast? with
        | none => simp at h
        | some y => rfl
    · rw [if_neg c, if_neg (by rw [decide_eq_false c]; decide)]
theorem put_all (k : Str) : ∀ (ds : List Deal) (m : Str → Option (List Int)), (ds.foldl putD m) k = ((((ds.flatMap fun d => vOf d k).getLast?).map (·.2)).or (m k))
  | [], m => by simp
  | d :: r, m => by
    rw [List.foldl_cons, put_all k r, List.flatMap_cons, List.getLast?_append]
    unfold putD
    rw [putW_all]
    have e : (vOf d k).getLast?.map (·.2) = ((d.ws.filter fun p => decide (k = p.1)).getLast?).map (·.2) := by
      unfold vOf
      rw [List.getLast?_map, Option.map_map]
      rfl
    cases c : (r.flatMap fun d => vOf d k).getLast? with
    | none =>
      rw [← e]
      simp
    | some x => simp
def mAt (ds : List Deal) (i : Nat) : Str → Option (List Int) := (ds.take i).foldl putD fun _ => none
theorem mAt_last (ds : List Deal) (i : Nat) (k : Str) : mAt ds i k = ((verS (ds.take i) k).getLast?).map (·.2) := by
  unfold mAt
  rw [put_all, ver_eq]
  simp
theorem ver_time {ds : List Deal} {k : Str} {x : Int × List Int} (h : x ∈ verS ds k) : ∃ d ∈ ds, x.1 = d.s1 := by
  rw [ver_eq] at h
  obtain ⟨d, hd, hx⟩ := List.mem_flatMap.mp h
  obtain ⟨p, _, rfl⟩ := List.mem_map.mp hx
  exact ⟨d, hd, rfl⟩
/-- what keys have behind those up to a time is what was read at it -/
theorem then_is {ds : List Deal} {i : Nat} {T : Int} (h1 : ∀ d ∈ ds.take i, d.s1 ≤ T) (h2 : ∀ d ∈ ds.drop i, T < d.s1) (k : Str) : mAt ds i k = lastUp (verS ds k) T := by
  have e : verS ds k = verS (ds.take i) k ++ verS (ds.drop i) k := by
    rw [ver_eq, ver_eq, ver_eq, ← List.flatMap_append, List.take_append_drop]
  rw [mAt_last, lastUp_filter, e, List.filter_append]
  have a : (verS (ds.take i) k).filter (fun p => decide (p.1 ≤ T)) = verS (ds.take i) k := List.filter_eq_self.mpr fun x hx => by
    obtain ⟨d, hd, ed⟩ := ver_time hx
    have := h1 d hd
    exact decide_eq_true (by omega)
  have b : (verS (ds.drop i) k).filter (fun p => decide (p.1 ≤ T)) = [] := List.filter_eq_nil_iff.mpr fun x hx => by
    obtain ⟨d, hd, ed⟩ := ver_time hx
    have := h2 d hd
    simp only [decide_eq_true_eq]
    omega
  rw [a, b, List.append_nil]
theorem srt_mono (ds : List Deal) : (srt ds).Pairwise fun a b => a.s1 ≤ b.s1 := by
  refine (List.pairwise_mergeSort (le := fun a b : Deal => stLe a.st b.st) st_trans st_total ds).imp fun {a b} h => ?_
  rw [st_le, decide_eq_true_eq] at h
  by_cases c : b.s1 < a.s1
  · have : b.st < a.st := List.cons_lt_cons_iff.mpr (.inl c)
    exact absurd this (List.not_lt.mpr h)
  · omega
theorem srt_perm {a b : List Deal} (p : a.Perm b) (hn : (a.map (·.st)).Nodup) : srt a = srt b := by
  refine uniq_sort (fun d : Deal => d.st) (((List.mergeSort_perm a _).trans p).trans (List.mergeSort_perm b _).symm) ?_ ?_ ?_
  · refine (List.pairwise_mergeSort (le := fun a b : Deal => stLe a.st b.st) st_trans st_total a).imp fun {x y} h => ?_
    rw [st_le, decide_eq_true_eq] at h
    exact h
  · refine (List.pairwise_mergeSort (le := fun a b : Deal => stLe a.st b.st) st_trans st_total b).imp fun {x y} h => ?_
    rw [st_le, decide_eq_true_eq] at h
    exact h
  · intro x hx0 y hy0 e
    have hx := List.mem_mergeSort.mp hx0
    have hy := List.mem_mergeSort.mp hy0
    clear p hx0 hy0
    induction a with
    | nil => cases hx
    | cons d r ih =>
      obtain ⟨n1, n2⟩ := List.nodup_cons.mp hn
      rcases List.mem_cons.mp hx with e1 | hx1
      · rcases List.mem_cons.mp hy with e2 | hy1
        · rw [e1, e2]
        · have hm := List.mem_map_of_mem (f := fun d : Deal => d.st) hy1
          have e3 : (fun d : Deal => d.st) y = d.st := by rw [← e1]; exact e.symm
          have hm : d.st ∈ r.map (fun d : Deal => d.st) := e3 ▸ hm
          exact absurd hm n1
      · rcases List.mem_cons.mp hy with e2 | hy1
        · have hm := List.mem_map_of_mem (f := fun d : Deal => d.st) hx1
          have e3 : (fun d : Deal => d.st) x = d.st := by rw [← e2]; exact e
          have hm : d.st ∈ r.map (fun d : Deal => d.st) := e3 ▸ hm
          exact absurd hm n1
        · exact ih n2 hx1 hy1
theorem ord_parts {rs : List Row} (h : ordR rs = true) : fitB (srt (dealsOf rs)) = true ∧ goB none (srt (dealsOf rs)) = true ∧ rdB (fun _ => none) (srt (dealsOf rs)) = true ∧ readsB rs (srt (dealsOf rs)) = true := by
  unfold ordR at h
  rw [Bool.or_eq_true] at h
  rcases h with h | h
  · have : rs = [] := List.isEmpty_iff.mp h
    subst this
    have e : srt (dealsOf []) = [] := by
      unfold srt dealsOf
      exact List.mergeSort_nil
    rw [e]
    exact ⟨rfl, rfl, rfl, rfl⟩
  · simp only [Bool.and_eq_true] at h
    exact ⟨h.1.1.1, h.1.1.2, h.1.2, h.2⟩
theorem reads_at {rs : List Row} {ds : List Deal} (h : readsB rs ds = true) {r : Row} (hr : r ∈ rs) : readB rs ds r = true := by
  cases r with
  | read n a t k w =>
    unfold readsB at h
    refine List.all_eq_true.mp h _ (List.mem_append.mpr ?_)
    cases n with
    | false => exact .inl (List.mem_filter.mpr ⟨hr, rfl⟩)
    | true => exact .inr (List.mem_filter.mpr ⟨hr, rfl⟩)
  | deal d => rfl
  | form t f => rfl
theorem ord_rev {rs : List Row} (h : ordR rs = true) (nf : rs.filterMap formOf = []) : ordR rs.reverse = true := by
  obtain ⟨h1, h2, h3, h4⟩ := ord_parts h
  have e : srt (dealsOf rs.reverse) = srt (dealsOf rs) := by
    refine (srt_perm ?_ (ord_nodup h)).symm
    unfold dealsOf
    rw [List.filterMap_reverse]
    exact (List.reverse_perm _).symm
  have ef : formS rs.reverse = formS rs := by
    unfold formS
    rw [List.filterMap_reverse, nf]
    rfl
  unfold ordR
  rw [e, h1, h2, h3]
  have : readsB rs.reverse (srt (dealsOf rs)) = true := by
    unfold readsB
    refine List.all_eq_true.mpr fun r hr => ?_
    have hm : r ∈ rs := by
      rcases List.mem_append.mp hr with h | h
      · exact List.mem_reverse.mp (List.mem_filter.mp h).1
      · exact List.mem_reverse.mp (List.mem_filter.mp h).1
    have := reads_at h4 hm
    cases r with
    | read n a t k w =>
      unfold readB at this ⊢
      rw [ef]
      exact this
    | deal d => rfl
    | form t f => rfl
  rw [this]
  simp
/-- the last of the chosen ones: its place, none chosen behind it -/
theorem last_place {α : Type} {p : α → Bool} : ∀ {l : List α} {x : α}, (l.filter p).getLast? = some x → ∃ j : Nat, l[j]? = some x ∧ p x = true ∧ ∀ (i : Nat) (y : α), j < i → l[i]? = some y → p y = false
  | [], x, h => by cases h
  | y :: r, x, h => by
    rw [List.filter_cons] at h
    cases e : (r.filter p).getLast? with
    | some z =>
      have hz : z = x := by
        split at h
        · rw [List.getLast?_cons, e] at h
          simpa using h
        · rw [e] at h
          simpa using h
      subst hz
      obtain ⟨j, h1, h2, h3⟩ := last_place e
      refine ⟨j + 1, by simpa using h1, h2, fun i u hi hu => ?_⟩
      cases i with
      | zero => omega
      | succ i => exact h3 i u (by omega) (by simpa using hu)
    | none =>
      have hn : r.filter p = [] := List.getLast?_eq_none_iff.mp e
      rw [hn] at h
      split at h
      · rename_i hp
        simp at h
        subst h
        refine ⟨0, rfl, hp, fun i u hi hu => ?_⟩
        cases i with
        | zero => omega
        | succ i =>
          have hm := List.mem_of_getElem? (l := r) (i := i) (by simpa using hu)
          have := List.filter_eq_nil_iff.mp hn u hm
          cases c : p u with
          | true => exact absurd c this
          | false => rfl
      · cases h
/-- worths by keys, one beside the other -/
def WsR (K : PySem.W.Frag) (H : Hp) : List (Key × V) → List (Str × List Int) → Prop
  | [], [] => True
  | kv :: r, w :: s => (kv.1 = Sum.inr w.1 ∧ Dp K H kv.2 (woD w.2)) ∧ WsR K H r s
  | _, _ => False
theorem WsR.keys {K : PySem.W.Frag} {H : Hp} : ∀ {kvs : List (Key × V)} {ws : List (Str × List Int)}, WsR K H kvs ws → kvs.map (·.1) = ws.map fun p => Sum.inr p.1
  | [], [], _ => rfl
  | kv :: r, w :: s, h => by rw [List.map_cons, List.map_cons, h.1.1, WsR.keys h.2]
  | [], _ :: _, h => h.elim
  | _ :: _, [], h => h.elim
theorem WsR.len {K : PySem.W.Frag} {H : Hp} {kvs : List (Key × V)} {ws : List (Str × List Int)} (h : WsR K H kvs ws) : kvs.length = ws.length := by
  have := congrArg List.length h.keys
  rw [List.length_map, List.length_map] at this
  exact this
theorem ws_pairs2 {K : PySem.W.Frag} {H : Hp} : ∀ {vs : List V} {ws : List (Str × List Int)}, DpAll K H vs (ws.map wpD) → ∃ (ps : List Addr) (kvs : List (Key × V)), vs = ps.map V.ref ∧ Paired (fun p kv => SqT K H p [kV kv.1, kv.2]) ps kvs ∧ WsR K H kvs ws
  | vs, [], h => by
    have h : DpAll K H vs [] := h
    cases h
    exact ⟨[], [], rfl, .nil, trivial⟩
  | vs, w :: r, h => by
    obtain ⟨v, vs', rfl, h1, h2⟩ := dpall_consI h
    obtain ⟨ps, kvs, rfl, hp, hr⟩ := ws_pairs2 h2
    obtain ⟨q, u, rfl, hq, hu⟩ := wp_at h1
    exact ⟨q :: ps, (Sum.inr w.1, u) :: kvs, rfl, .cons hq hp, ⟨rfl, hu⟩, hr⟩
theorem WM.merge {K : PySem.W.Frag} {H : Hp} : ∀ {more : List (Key × V)} {ws : List (Str × List Int)} {kvs : List (Key × V)} {m : Str → Option (List Int)}, WsR K H more ws → WM K H kvs m → WM K H (mergeK kvs more) (ws.foldl putW m)
  | [], [], _, _, _, h => h
  | kv :: r, w :: s, kvs, m, g, h => by
    have e : mergeK kvs (kv :: r) = mergeK (putK kvs kv.1 kv.2) r := rfl
    rw [e, List.foldl_cons, g.1.1]
    exact WM.merge g.2 (h.put g.1.2)
  | [], _ :: _, _, _, g, _ => g.elim
  | _ :: _, [], _, _, g, _ => g.elim
theorem WsR.mem {K : PySem.W.Frag} {H : Hp} : ∀ {kvs : List (Key × V)} {ws : List (Str × List Int)}, WsR K H kvs ws → ∀ kv ∈ kvs, ∃ x, Dp K H kv.2 (woD x)
  | kv :: r, w :: s, h, e, he => by
    rcases List.mem_cons.mp he with rfl | he
    · exact ⟨_, h.1.2⟩
    · exact WsR.mem h.2 e he
  | [], _, _, e, he => by cases he
  | _ :: _, [], h, _, _ => h.elim
theorem merge_src {K : PySem.W.Frag} {H : Hp} {kvs : List (Key × V)} {ws : List (Str × List Int)} {k : Str} {u : V} (h : WsR K H kvs ws) (e : valV (mergeK [] kvs) (Sum.inr k) = some u) : ∃ x, Dp K H u (woD x) :=
  merge_of (P := fun v => ∃ x, Dp K H v (woD x)) kvs [] _ u e (fun k v e => by cases e) fun kv hk => h.mem kv hk
/-! ### the law's worth of a key, just told -/
theorem lex_eq : ∀ a b : List Int, HT.lexLt a b = decide (a < b)
  | [], [] => by rw [HT.lexLt_nil_nil]; exact (decide_eq_false (List.lt_irrefl _)).symm
  | [], y :: r => by rw [HT.lexLt_nil_cons]; exact (decide_eq_true (List.nil_lt_cons y r)).symm
  | x :: r, [] => by rw [HT.lexLt_cons_nil]; exact (decide_eq_false (List.not_lt_nil _)).symm
  | x :: r, y :: s => by
    rw [HT.lexLt_cons, lex_eq r s]
    by_cases h : x = y
    · subst h
      rw [if_pos rfl]
      exact decide_eq_decide.mpr ⟨fun h => List.cons_lt_cons_iff.mpr (.inr ⟨rfl, h⟩), fun h => (List.cons_lt_cons_iff.mp h).elim (fun z => absurd z (Int.lt_irrefl x)) (·.2)⟩
    · rw [if_neg h]
      exact decide_eq_decide.mpr ⟨fun h => List.cons_lt_cons_iff.mpr (.inl h), fun z => (List.cons_lt_cons_iff.mp z).elim id fun k => absurd k.1 h⟩
def wAll (d : Deal) (k : Str) : Option (List Int) := (d.ws.foldl putW fun _ => none) k
def cand (k : Str) (most : List Int) (d : Deal) : Option (List Int × List Int) := if HT.lexLt d.st most = true then (wAll d k).map fun w => (d.st, w) else none
def swLe (p q : List Int × List Int) : Bool := PySem.W.dataLe false swD p q
def wOf (ds : List Deal) (k : Str) (most : List Int) : Option (List Int) := (((ds.filterMap (cand k most)).mergeSort swLe).getLast?).map (·.2)
theorem sw_le (p q : List Int × List Int) : swLe p q = decide (p.1 < q.1 ∨ (p.1 = q.1 ∧ p.2 ≤ q.2)) := by
  show (!PySem.W.dataLt (swD q) (swD p)) = _
  unfold swD
  rw [PySem.W.dataLt_pair (wo_alike _ _) (wo_alike _ _), eqv_wo, eqv_wo, lt_wo, lt_wo]
  simp only [decide_eq_true_eq]
  by_cases h1 : q.1 = p.1
  · rw [if_pos h1, h1]
    have hirr : ¬ p.1 < p.1 := List.lt_irrefl _
    by_cases h2 : q.2 = p.2
    · rw [if_pos h2, h2]
      simp [List.le_refl]
    · rw [if_neg h2]
      by_cases h3 : q.2 < p.2
      · have h4 : ¬ p.2 ≤ q.2 := fun r => List.not_lt.mpr r h3
        simp [h3, h4, hirr]
      · have h4 : p.2 ≤ q.2 := List.not_lt.mp h3
        simp [h3, h4]
  · rw [if_neg h1]
    have h1' : ¬ p.1 = q.1 := fun e => h1 e.symm
    by_cases h2 : q.1 < p.1
    · have h3 : ¬ p.1 < q.1 := List.lt_asymm h2
      simp [h2, h3, h1']
    · have h4 : p.1 < q.1 := by
        rcases ints_lt_or (List.not_lt.mp h2) with h | h
        · exact h
        · exact absurd h h1'
      simp [h2, h4]
theorem sw_trans (a b c : List Int × List Int) : swLe a b = true → swLe b c = true → swLe a c = true := by
  rw [sw_le, sw_le, sw_le]
  simp only [decide_eq_true_eq]
  rintro (h1 | ⟨h1, h2⟩) (h3 | ⟨h3, h4⟩)
  · exact .inl (List.lt_trans h1 h3)
  · exact .inl (h3 ▸ h1)
  · exact .inl (h1 ▸ h3)
  · exact .inr ⟨h1.trans h3, List.le_trans h2 h4⟩
theorem sw_total (a b : List Int × List Int) : (swLe a b || swLe b a) = true := by
  rw [sw_le, sw_le, Bool.or_eq_true, decide_eq_true_eq, decide_eq_true_eq]
  by_cases h : a.1 < b.1
  · exact .inl (.inl h)
  · rcases ints_lt_or (List.not_lt.mp h) with h | h
    · exact .inr (.inl h)
    · rcases List.le_total a.2 b.2 with k | k
      · exact .inl (.inr ⟨h.symm, k⟩)
      · exact .inr (.inr ⟨h, k⟩)
theorem putW_mem {k : Str} {x : List Int} : ∀ {ws : List (Str × List Int)} {m : Str → Option (List Int)}, (ws.foldl putW m) k = some x → m k = none → ∃ p ∈ ws, p.1 = k ∧ p.2 = x := fun {ws m} h hm => by
  rw [putW_all, hm] at h
  cases e : (ws.filter fun p => decide (k = p.1)).getLast? with
  | none => rw [e] at h; cases h
  | some p =>
    rw [e] at h
    have hp := List.mem_filter.mp (List.mem_of_getLast? e)
    exact ⟨p, hp.1, (of_decide_eq_true hp.2).symm, Option.some.inj h⟩
theorem cand_take {α : Type} {zs : List (V × Deal)} {j : Nat} {z : V × Deal} (f : Deal → Option α) (h : zs[j]? = some z) : ((zs.take (j + 1)).map (·.2)).filterMap f = ((zs.take j).map (·.2)).filterMap f ++ (f z.2).toList := by
  rw [List.take_add_one, h, List.map_append, List.filterMap_append]
  have e : List.filterMap f ((some z).toList.map (·.2)) = (f z.2).toList := by
    show List.filterMap f [z.2] = _
    rw [List.filterMap_cons]
    cases f z.2 <;> rfl
  rw [e]
theorem dp_non_ow {K : PySem.W.Frag} {H : Hp} {w : Option (List Int)} (h : Dp K H .non (owD w)) : w = none := by
  cases w with
  | none => rfl
  | some w =>
    obtain ⟨p, e, _⟩ := wo_at h
    cases e
theorem last_of2 {α : Type} (es : List (V × α)) : (es = [] ∧ atI (V.non :: es.map (·.1)) (-1) = some .non) ∨ ∃ e, es.getLast? = some e ∧ e ∈ es ∧ atI (V.non :: es.map (·.1)) (-1) = some e.1 := by
  rcases List.eq_nil_or_concat es with rfl | ⟨i, x, rfl⟩
  · exact .inl ⟨rfl, atI_last [] _⟩
  · refine .inr ⟨x, by rw [List.concat_eq_append, List.getLast?_append, List.getLast?_singleton]; rfl, by simp, ?_⟩
    rw [List.concat_eq_append, List.map_append, ← List.cons_append]
    exact atI_last _ x.1
/-- where dealings are in order, with stamps that are unlike -/
theorem fold_last (k : Str) (g : Deal → Option (List Int × List Int)) : ∀ (L : List Deal) (m : Str → Option (List Int)), (∀ d ∈ L, (g d).map (·.2) = wAll d k) → (L.foldl putD m) k = (((L.filterMap g).getLast?).map (·.2)).or (m k)
  | [], m, _ => by simp
  | d :: r, m, h => by
    have hd := h d (.head _)
    rw [List.foldl_cons, fold_last k g r _ fun x hx => h x (.tail _ hx), List.filterMap_cons]
    have e : (putD m d) k = (wAll d k).or (m k) := by
      unfold putD wAll
      rw [putW_all, putW_all k d.ws fun _ => none]
      simp
    rw [e]
    cases c : g d with
    | none =>
      rw [c] at hd
      rw [← hd]
      simp
    | some x =>
      rw [c] at hd
      rw [← hd]
      cases c2 : r.filterMap g with
      | nil => simp
      | cons y ys =>
        rw [List.getLast?_cons_cons]
        cases c3 : (y :: ys).getLast? with
        | none => simp at c3
        | some u => simp
theorem srt_lt {ds : List Deal} (hn : (ds.map (·.st)).Nodup) : (srt ds).Pairwise fun a b => a.st < b.st := by
  have h1 : (srt ds).Pairwise fun a b => a.st ≤ b.st := (List.pairwise_mergeSort (le := fun a b : Deal => stLe a.st b.st) st_trans st_total ds).imp fun {a b} h => by
    rw [st_le, decide_eq_true_eq] at h
    exact h
  have h2 : (srt ds).Pairwise fun a b => a.st ≠ b.st := by
    have := ((List.mergeSort_perm ds fun a b : Deal => stLe a.st b.st).map (·.st)).nodup_iff.mpr hn
    exact List.pairwise_map.mp this
  exact (h1.and h2).imp fun {a b} h => (ints_lt_or h.1).elim id fun e => absurd e h.2
theorem wOf_srt {ds : List Deal} (hn : (ds.map (·.st)).Nodup) (k : Str) (most : List Int) : wOf ds k most = (((srt ds).filterMap (cand k most)).getLast?).map (·.2) := by
  unfold wOf
  have e : (ds.filterMap (cand k most)).mergeSort swLe = (srt ds).filterMap (cand k most) := by
    have hfst : ∀ {d : Deal} {p : List Int × List Int}, cand k most d = some p → p.1 = d.st := fun {d p} h => by
      unfold cand at h
      split at h
      · cases c : wAll d k with
        | none => rw [c] at h; cases h
        | some w => rw [c] at h; cases h; rfl
      · cases h
    refine uniq_sort (fun q : List Int × List Int => q.1) ?_ ?_ ?_ ?_
    · exact (List.mergeSort_perm _ _).trans ((List.mergeSort_perm ds _).symm.filterMap _)
    · refine (List.pairwise_mergeSort sw_trans sw_total _).imp fun {a b} h => ?_
      rw [sw_le, decide_eq_true_eq] at h
      rcases h with h | ⟨h, _⟩
      · exact List.le_of_lt h
      · exact h ▸ List.le_refl _
    · refine (srt_lt hn).filterMap _ fun a b h x hx y hy => ?_
      rw [hfst hx, hfst hy]
      exact List.le_of_lt h
    · intro a ha b hb eab
      obtain ⟨x, hx, ex⟩ := List.mem_filterMap.mp (List.mem_mergeSort.mp ha)
      obtain ⟨y, hy, ey⟩ := List.mem_filterMap.mp (List.mem_mergeSort.mp hb)
      have est : x.st = y.st := by rw [← hfst ex, ← hfst ey]; exact eab
      have exy : x = y := by
        clear ha hb
        induction ds with
        | nil => cases hx
        | cons d r ih =>
          obtain ⟨n1, n2⟩ := List.nodup_cons.mp hn
          rcases List.mem_cons.mp hx with e1 | hx1
          · rcases List.mem_cons.mp hy with e2 | hy1
            · rw [e1, e2]
            · exact absurd (List.mem_map.mpr ⟨y, hy1, by rw [← est, e1]⟩) n1
          · rcases List.mem_cons.mp hy with e2 | hy1
            · exact absurd (List.mem_map.mpr ⟨x, hx1, by rw [est, e2]⟩) n1
            · exact ih n2 hx1 hy1
      subst exy
      exact Option.some.inj (ex.symm.trans ey)
  rw [e]
theorem wOf_at {ds : List Deal} (hn : (ds.map (·.st)).Nodup) (k : Str) (most : List Int) {i : Nat} (h1 : ∀ d ∈ (srt ds).take i, d.st < most) (h2 : ∀ d ∈ (srt ds).drop i, ¬ d.st < most) : wOf ds k most = mAt (srt ds) i k := by
  rw [wOf_srt hn]
  have e : (srt ds).filterMap (cand k most) = ((srt ds).take i).filterMap (cand k most) := by
    have a : (srt ds).filterMap (cand k most) = ((srt ds).take i).filterMap (cand k most) ++ ((srt ds).drop i).filterMap (cand k most) := by
      rw [← List.filterMap_append, List.take_append_drop]
    have b : ((srt ds).drop i).filterMap (cand k most) = [] := by
      refine List.filterMap_eq_nil_iff.mpr fun d hd => ?_
      unfold cand
      rw [if_neg (by rw [lex_eq, decide_eq_true_eq]; exact h2 d hd)]
    rw [a, b, List.append_nil]
  rw [e]
  unfold mAt
  rw [fold_last k (cand k most) _ _ fun d hd => ?_]
  · simp
  · unfold cand
    rw [if_pos (by rw [lex_eq, decide_eq_true_eq]; exact h1 d hd), Option.map_map]
    cases wAll d k <;> rfl
theorem wOf_own {ds : List Deal} (hn : (ds.map (·.st)).Nodup) (k : Str) {i : Nat} {d : Deal} (hd : (srt ds)[i]? = some d) : wOf ds k d.st = mAt (srt ds) i k := by
  have hp := srt_lt hn
  obtain ⟨hi, rfl⟩ := List.getElem?_eq_some_iff.mp hd
  refine wOf_at hn k _ (fun e he => ?_) fun e he => ?_
  · obtain ⟨j, hj, rfl⟩ := List.getElem_of_mem he
    rw [List.length_take] at hj
    rw [List.getElem_take]
    exact List.pairwise_iff_getElem.mp hp j i (by omega) hi (by omega)
  · obtain ⟨j, hj, rfl⟩ := List.getElem_of_mem he
    rw [List.length_drop] at hj
    rw [List.getElem_drop]
    by_cases c : j = 0
    · subst c
      exact List.lt_irrefl _
    · exact List.lt_asymm (List.pairwise_iff_getElem.mp hp i (i + j) hi (by omega) (by omega))
/-- a place in a row that doesn't fall -/
theorem split_at {α : Type} (f : α → Int) (t : Int) : ∀ {l : List α}, l.Pairwise (fun a b => f a ≤ f b) → ∃ i, i ≤ l.length ∧ (∀ x ∈ l.take i, f x ≤ t) ∧ ∀ x ∈ l.drop i, t < f x
  | [], _ => ⟨0, Nat.le_refl _, (fun x h => by cases h), fun x h => by cases h⟩
  | x :: r, h => by
    obtain ⟨hx, hr⟩ := List.pairwise_cons.mp h
    by_cases c : f x ≤ t
    · obtain ⟨i, h0, h1, h2⟩ := split_at f t hr
      refine ⟨i + 1, by simpa using h0, fun y hy => ?_, fun y hy => h2 y (by simpa using hy)⟩
      rw [List.take_succ_cons] at hy
      rcases List.mem_cons.mp hy with rfl | hy
      · exact c
      · exact h1 y hy
    · refine ⟨0, Nat.zero_le _, (fun y hy => by cases hy), fun y hy => ?_⟩
      rcases List.mem_cons.mp (show y ∈ x :: r from hy) with rfl | hy
      · omega
      · have := hx y hy
        omega
theorem st_lt_up {d : Deal} (h : 0 ≤ d.s2) (t : Int) : d.st < [t + 1, -1, -1] ↔ d.s1 ≤ t := by
  show [d.s1, d.s2, d.s3] < [t + 1, -1, -1] ↔ _
  rw [List.cons_lt_cons_iff]
  constructor
  · rintro (h1 | ⟨h1, h2⟩)
    · omega
    · rw [List.cons_lt_cons_iff] at h2
      rcases h2 with h2 | ⟨h2, _⟩ <;> omega
  · intro h1
    exact .inl (by omega)
theorem wOf_up {ds : List Deal} (hn : (ds.map (·.st)).Nodup) (h0 : ∀ d ∈ ds, 0 ≤ d.s2) (k : Str) (t : Int) : wOf ds k [t + 1, -1, -1] = lastUp (verS (srt ds) k) t := by
  obtain ⟨i, _, h1, h2⟩ := split_at (fun d : Deal => d.s1) t (srt_mono ds)
  have hm : ∀ d ∈ srt ds, d ∈ ds := fun d hd => List.mem_mergeSort.mp hd
  rw [← then_is h1 h2 k]
  refine wOf_at hn k _ (fun d hd => ?_) fun d hd => ?_
  · exact (st_lt_up (h0 d (hm d (List.mem_of_mem_take hd))) t).mpr (h1 d hd)
  · intro z
    have := (st_lt_up (h0 d (hm d (List.mem_of_mem_drop hd))) t).mp z
    have := h2 d hd
    omega
/-- a worth told by the deals for the key, the last of those before most: here only that it is one of theirs -/
def spWorthOf (K : PySem.W.Frag) : Sp := fun vs H Q _ => ∃ (l m : Addr) (k : Str) (zs : List (V × Deal)) (st : List Int), vs = [.ref l, .str k, .ref m] ∧ SqL K H l (zs.map (·.1)) ∧ DsAt K H zs ∧ zs.length ≤ 900 ∧ SqT K H m (st.map V.int) ∧
  ∀ v (w : Option (List Int)) H', Same H H' → Dp K H' v (owD w) → (∀ x, w = some x → ∃ z ∈ zs, ∃ p ∈ z.2.ws, p.2 = x) → w = wOf (zs.map (·.2)) k st → Q v H'
def xB : Row → Bool
  | .deal d => decide (d.beg ≤ d.told) && (decide (d.rs.map (·.1)).Nodup && decide (d.ws.map (·.1)).Nodup)
  | _ => true
def pairOk (ds : List Deal) (one : Deal) : Bool := ds.all fun other => !(!decide (other.num = one.num) && (decide (one.told ≤ other.beg) && decide (other.st ≤ one.st)))
def readsOk (ds : List Deal) (one : Deal) : Bool := one.rs.all fun p => decide (p.2 = wOf ds p.1 one.st)
def fitsB (rs : List Row) (ds : List Deal) : Row → Bool
  | .read n a t k w => decide (w = shp (wOf ds k [t + 1, -1, -1]) (lastUp (formS rs) t)) && (!n || !lackB ds a t)
  | _ => true
def lawR (rs : List Row) : Bool := decide ((dealsOf rs).map (·.num)).Nodup && decide ((dealsOf rs).map (·.st)).Nodup && ((dealsOf rs).all (fun one => pairOk (dealsOf rs) one && readsOk (dealsOf rs) one) && rs.all (fitsB rs (dealsOf rs)))
/-! ### what is drawn is ordered -/
/-- dealings drawn one behind the other -/
structure Drn (n x now : Int) (ds : List Deal) : Prop where
  of ::
  pw : ds.Pairwise fun a b => a.num < b.num ∧ a.s1 ≤ b.s1 ∧ a.s2 < b.s2 ∧ a.beg < b.beg
  up : ∀ d ∈ ds, d.num < 10 * n ∧ d.s1 ≤ x ∧ d.s2 ≤ n ∧ d.beg < now
  own : ∀ d ∈ ds, (d.beg ≤ d.told ∧ 0 ≤ d.s2 ∧ 0 ≤ d.s3) ∧ (d.rs.map (·.1)).Nodup ∧ (d.ws.map (·.1)).Nodup ∧ ∀ p ∈ d.rs, p.2 = wOf ds p.1 d.st
theorem Drn.nil : Drn 0 0 0 [] := ⟨.nil, (fun d h => by cases h), (fun d h => by cases h)⟩
theorem wOf_more {ds : List Deal} {d : Deal} {k : Str} {st : List Int} (h : ¬ d.st < st) : wOf (ds ++ [d]) k st = wOf ds k st := by
  unfold wOf
  rw [List.filterMap_append]
  have e : cand k st d = none := by
    unfold cand
    rw [lex_eq, decide_eq_false h]
    rfl
  have e2 : [d].filterMap (cand k st) = [] := by
    rw [List.filterMap_cons, e]
    rfl
  rw [e2, List.append_nil]
theorem st_not {a b : Deal} (h1 : a.s1 ≤ b.s1) (h2 : a.s2 < b.s2) : ¬ b.st < a.st := fun h => by
  unfold Deal.st at h
  rcases List.cons_lt_cons_iff.mp h with h | ⟨e, h⟩
  · omega
  · rcases List.cons_lt_cons_iff.mp h with h | ⟨e, h⟩ <;> omega
theorem st_lt2 {a b : Deal} (h1 : a.s1 ≤ b.s1) (h2 : a.s2 < b.s2) : a.st < b.st := by
  unfold Deal.st
  rcases (show a.s1 < b.s1 ∨ a.s1 = b.s1 by omega) with h | h
  · exact List.cons_lt_cons_iff.mpr (.inl h)
  · exact List.cons_lt_cons_iff.mpr (.inr ⟨h, List.cons_lt_cons_iff.mpr (.inl h2)⟩)
theorem Drn.add {n x now now' : Int} {ds : List Deal} (h : Drn n x now ds) {d : Deal} (a1 : 10 * n ≤ d.num) (a2 : d.num < 10 * (n + 1)) (a3 : x ≤ d.s1) (a4 : d.s2 = n + 1) (a5 : now ≤ d.beg) (a6 : d.beg ≤ d.told) (a7 : d.beg < now') (a8 : 0 ≤ d.s2 ∧ 0 ≤ d.s3) (b1 : (d.rs.map (·.1)).Nodup) (b2 : (d.ws.map (·.1)).Nodup) (b3 : ∀ p ∈ d.rs, p.2 = wOf ds p.1 d.st) : Drn (n + 1) d.s1 now' (ds ++ [d]) := by
  have up1 : ∀ e ∈ ds, e.num < d.num ∧ e.s1 ≤ d.s1 ∧ e.s2 < d.s2 ∧ e.beg < d.beg := fun e he => by
    obtain ⟨u1, u2, u3, u4⟩ := h.up e he
    exact ⟨by omega, by omega, by omega, by omega⟩
  refine ⟨List.pairwise_append.mpr ⟨h.pw, List.pairwise_singleton _ _, fun e he b hb => ?_⟩, fun e he => ?_, fun e he => ?_⟩
  · cases List.mem_singleton.mp hb
    exact up1 e he
  · rcases List.mem_append.mp he with he | he
    · obtain ⟨u1, u2, u3, u4⟩ := h.up e he
      exact ⟨by omega, by omega, by omega, by omega⟩
    · cases List.mem_singleton.mp he
      exact ⟨by omega, by omega, by omega, by omega⟩
  · rcases List.mem_append.mp he with he | he
    · obtain ⟨o1, o2, o3, o4⟩ := h.own e he
      refine ⟨o1, o2, o3, fun p hp => ?_⟩
      rw [wOf_more (st_not (up1 e he).2.1 (up1 e he).2.2.1)]
      exact o4 p hp
    · cases List.mem_singleton.mp he
      refine ⟨⟨a6, a8⟩, b1, b2, fun p hp => ?_⟩
      rw [wOf_more (List.lt_irrefl _)]
      exact b3 p hp
theorem pwo_ {α : Type} {R : α → α → Prop} : ∀ {l : List α}, l.Pairwise R → ∀ {a b : α}, a ∈ l → b ∈ l → a = b ∨ R a b ∨ R b a
  | [], _, _, _, h, _ => by cases h
  | x :: r, hp, a, b, ha, hb => by
    obtain ⟨h1, h2⟩ := List.pairwise_cons.mp hp
    rcases List.mem_cons.mp ha with rfl | ha1
    · rcases List.mem_cons.mp hb with rfl | hb1
      · exact .inl rfl
      · exact .inr (.inl (h1 b hb1))
    · rcases List.mem_cons.mp hb with rfl | hb1
      · exact .inr (.inr (h1 a ha1))
      · exact pwo_ h2 ha1 hb1
theorem Drn.law {n x now : Int} {ds : List Deal} (h : Drn n x now ds) {rs : List Row} (e : dealsOf rs = ds) (hr : ∀ r ∈ rs, fitsB rs ds r = true) : lawR rs = true := by
  unfold lawR
  rw [e]
  simp only [Bool.and_eq_true, decide_eq_true_eq]
  refine ⟨⟨List.pairwise_map.mpr (h.pw.imp fun {a b} z => by have := z.1; omega), List.pairwise_map.mpr (h.pw.imp fun {a b} z => fun e => ?_)⟩, List.all_eq_true.mpr fun d hd => ?_, List.all_eq_true.mpr hr⟩
  · exact List.lt_irrefl _ (e ▸ st_lt2 z.2.1 z.2.2.1)
  · rw [Bool.and_eq_true]
    refine ⟨List.all_eq_true.mpr fun o ho => ?_, List.all_eq_true.mpr fun p hp => decide_eq_true ((h.own d hd).2.2.2 p hp)⟩
    have hb := (h.own d hd).1.1
    rcases pwo_ h.pw hd ho with rfl | z | z
    · rw [decide_eq_true rfl]
      rfl
    · rw [decide_eq_false (show ¬ o.st ≤ d.st from fun q => List.not_lt.mpr q (st_lt2 z.2.1 z.2.2.1))]
      simp
    · have hb2 := z.2.2.2
      rw [decide_eq_false (show ¬ d.told ≤ o.beg by omega)]
      simp
theorem fits_eq {rs rs' : List Row} {ds : List Deal} (e : rs.filterMap formOf = rs'.filterMap formOf) (r : Row) : fitsB rs ds r = fitsB rs' ds r := by
  cases r with
  | read n a t k w =>
    show (decide (w = shp (wOf ds k [t + 1, -1, -1]) (lastUp (formS rs) t)) && (!n || !lackB ds a t)) = (decide (w = shp (wOf ds k [t + 1, -1, -1]) (lastUp (formS rs') t)) && (!n || !lackB ds a t))
    unfold formS
    rw [e]
  | deal d => rfl
  | form t f => rfl
theorem lack_no {zs : List (V × Deal)} {a t : Int} {es : List (V × Deal)} (h : es = zs.filter fun z => decide (z.2.told ≤ a) && decide (t < z.2.s1)) (e : es.isEmpty = true) : lackB (zs.map (·.2)) a t = false := by
  subst h
  have e := List.isEmpty_iff.mp e
  unfold lackB
  rw [List.any_eq_false]
  intro d hd
  obtain ⟨z, hz, rfl⟩ := List.mem_map.mp hd
  exact fun c => (List.filter_eq_nil_iff.mp e z hz) c
theorem deals_eq_nil (bs : List (V × Deal)) : PyData.eqv (.list ((bs.map (·.2)).map Deal.d)) (.list []) = bs.isEmpty := by
  cases bs with
  | nil => rfl
  | cons b r => rfl
/-- what a draw of a history tells -/
def HistOk (rs : List Row) : Prop := lawR rs = true ∧ (∀ r ∈ rs, xB r = true) ∧ ∀ r ∈ rs, ∀ d, r = .deal d → 0 ≤ d.s2 ∧ 0 ≤ d.s3
/-- a row that is neither dealing nor form -/
def IsRd (r : Row) : Prop := dealOf r = none ∧ formOf r = none ∧ ∃ n a t k w, r = .read n a t k w
def IsFm (r : Row) : Prop := ∃ t f, r = .form t f
theorem fmap_none {α β : Type} {f : α → Option β} {l : List α} (h : ∀ x ∈ l, f x = none) : l.filterMap f = [] := List.filterMap_eq_nil_iff.mpr h
theorem deals_z (zs : List (V × Deal)) : dealsOf ((zs.map zrow).map (·.2)) = zs.map (·.2) := by
  unfold dealsOf
  induction zs with
  | nil => rfl
  | cons z r ih =>
    rw [List.map_cons, List.map_cons, List.filterMap_cons, ih]
    rfl
theorem forms_z (zs : List (V × Deal)) : ((zs.map zrow).map (·.2)).filterMap formOf = [] := fmap_none fun x hx => by
  obtain ⟨y, hy, rfl⟩ := List.mem_map.mp hx
  obtain ⟨z, hz, rfl⟩ := List.mem_map.mp hy
  rfl
theorem hist_of {n x now : Int} {zs : List (V × Deal)} {fs rs all : List (V × Row)} (h : Drn n x now (zs.map (·.2))) (hf : ∀ f ∈ fs, IsFm f.2) (hr : ∀ r ∈ rs, IsRd r.2 ∧ fitsB ((zs.map zrow ++ fs).map (·.2)) (zs.map (·.2)) r.2 = true) (e : all = zs.map zrow ++ fs ++ rs ∨ all = fs ++ zs.map zrow ++ rs) : HistOk (all.map (·.2)) := by
  have df : dealsOf (fs.map (·.2)) = [] := fmap_none fun y hy => by
    obtain ⟨f, hf', rfl⟩ := List.mem_map.mp hy
    obtain ⟨t, g, e⟩ := hf f hf'
    rw [e]
    rfl
  have dr : dealsOf (rs.map (·.2)) = [] := fmap_none fun y hy => by
    obtain ⟨f, hf', rfl⟩ := List.mem_map.mp hy
    exact (hr f hf').1.1
  have fr : (rs.map (·.2)).filterMap formOf = [] := fmap_none fun y hy => by
    obtain ⟨f, hf', rfl⟩ := List.mem_map.mp hy
    exact (hr f hf').1.2.1
  have ap : ∀ a b : List Row, dealsOf (a ++ b) = dealsOf a ++ dealsOf b := fun a b => List.filterMap_append
  have e1 : dealsOf (all.map (·.2)) = zs.map (·.2) := by
    rcases e with rfl | rfl <;> rw [List.map_append, List.map_append, ap, ap, df, dr, deals_z] <;> simp
  have e2 : (all.map (·.2)).filterMap formOf = ((zs.map zrow ++ fs).map (·.2)).filterMap formOf := by
    rcases e with rfl | rfl <;> simp only [List.map_append, List.filterMap_append, forms_z, fr] <;> simp
  have hm : ∀ b ∈ all, (∃ z ∈ zs, b = zrow z) ∨ b ∈ fs ∨ b ∈ rs := fun b hb => by
    rcases e with rfl | rfl
    · rcases List.mem_append.mp hb with hb | hb
      · rcases List.mem_append.mp hb with hb | hb
        · obtain ⟨z, hz, rfl⟩ := List.mem_map.mp hb
          exact .inl ⟨z, hz, rfl⟩
        · exact .inr (.inl hb)
      · exact .inr (.inr hb)
    · rcases List.mem_append.mp hb with hb | hb
      · rcases List.mem_append.mp hb with hb | hb
        · exact .inr (.inl hb)
        · obtain ⟨z, hz, rfl⟩ := List.mem_map.mp hb
          exact .inl ⟨z, hz, rfl⟩
      · exact .inr (.inr hb)
  refine ⟨h.law e1 fun r hr' => ?_, fun r hr' => ?_, fun r hr' d ed => ?_⟩
  · obtain ⟨b, hb, rfl⟩ := List.mem_map.mp hr'
    rw [fits_eq e2]
    rcases hm b hb with ⟨z, hz, rfl⟩ | hb | hb
    · rfl
    · obtain ⟨t, g, e⟩ := hf b hb
      rw [e]
      rfl
    · exact (hr b hb).2
  · obtain ⟨b, hb, rfl⟩ := List.mem_map.mp hr'
    rcases hm b hb with ⟨z, hz, rfl⟩ | hb | hb
    · obtain ⟨o1, o2, o3, _⟩ := h.own z.2 (List.mem_map_of_mem hz)
      show (decide (z.2.beg ≤ z.2.told) && (decide (z.2.rs.map (·.1)).Nodup && decide (z.2.ws.map (·.1)).Nodup)) = true
      rw [decide_eq_true o1.1, decide_eq_true o2, decide_eq_true o3]
      rfl
    · obtain ⟨t, g, e⟩ := hf b hb
      rw [e]
      rfl
    · obtain ⟨n, a, t, k, w, e⟩ := (hr b hb).1.2.2
      rw [e]
      rfl
  · obtain ⟨b, hb, rfl⟩ := List.mem_map.mp hr'
    rcases hm b hb with ⟨z, hz, rfl⟩ | hb | hb
    · cases ed
      exact (h.own z.2 (List.mem_map_of_mem hz)).1.2
    · obtain ⟨t, g, e⟩ := hf b hb
      rw [e] at ed
      cases ed
    · obtain ⟨n, a, t, k, w, e⟩ := (hr b hb).1.2.2
      rw [e] at ed
      cases ed
theorem fits_rd {rs : List Row} {ds : List Deal} {n : Bool} {a t : Int} {k : Str} {w : Option (List Int)} (h : w = shp (wOf ds k [t + 1, -1, -1]) (lastUp (formS rs) t)) (g : (!n || !lackB ds a t) = true) : fitsB rs ds (.read n a t k w) = true := by
  show (decide (w = shp (wOf ds k [t + 1, -1, -1]) (lastUp (formS rs) t)) && (!n || !lackB ds a t)) = true
  rw [decide_eq_true h, g]
  rfl
theorem filter_take0 {α : Type} (p : α → Bool) {l : List α} {j : Nat} {b : α} (h : l[j]? = some b) : (l.take (j + 1)).filter p = (l.take j).filter p ++ (if p b = true then [b] else []) := by
  rw [List.take_add_one, h, List.filter_append]
  congr 1
  show List.filter p [b] = _
  rw [List.filter_cons]
  rfl
def spMade (K : PySem.W.Frag) : Sp := fun vs H Q _ => ∃ (s : Addr) (n : Int), vs = [.ref s, .int n] ∧ StAt H s ∧ 0 ≤ n ∧ n ≤ 6 ∧ ∀ (p : Addr) (zs : List (V × Deal)) (H' : Hp), Kp s H H' → H p = none → H' p = some (.lst (zs.map (·.1))) → DsR K (mk [s, p] H') zs → zs.length ≤ 6 → (∀ z ∈ zs, DB 0 z.2) → (∃ n x now, Drn n x now (zs.map (·.2))) → Q (.ref p) H'
def spReads (K : PySem.W.Frag) : Sp := fun vs H Q _ => ∃ (s l m : Addr) (zs : List (V × Deal)) (bs : List (V × Row)), vs = [.ref s, .ref l, .ref m] ∧ StAt H s ∧ SqL K (mk [s] H) l (zs.map (·.1)) ∧ DsAt K (mk [s] H) zs ∧ zs.length ≤ 6 ∧ (∀ z ∈ zs, DB 0 z.2) ∧ SqL K (mk [s] H) m (bs.map (·.1)) ∧ RsAt K (mk [s] H) bs ∧ bs.length ≤ 8 ∧ (∀ b ∈ bs, RB 0 b.2) ∧
  ∀ (p : Addr) (rs : List (V × Row)) (H' : Hp), Kp s H H' → H p = none → H' p = some (.lst (rs.map (·.1))) → RsR K (mk [s, p] H') rs → rs.length ≤ 3 → (∀ r ∈ rs, RB 0 r.2) → (∀ r ∈ rs, IsRd r.2 ∧ fitsB (bs.map (·.2)) (zs.map (·.2)) r.2 = true) → Q (.ref p) H'
def spHist (K : PySem.W.Frag) : Sp := fun vs H Q _ => ∃ s : Addr, vs = [.ref s] ∧ StAt H s ∧ ∀ (p : Addr) (bs : List (V × Row)) (H' : Hp), Kp s H H' → H p = none → H' p = some (.lst (bs.map (·.1))) → RsR K (mk [s] H') bs → bs.length ≤ 11 → (∀ b ∈ bs, RB 0 b.2) → HistOk (bs.map (·.2)) → Q (.ref p) H'

theorem ok_l_begun {P : Program} {w : World} {K : PySem.W.Frag} {mg : Str → Option Value} {base : Heap} {a : Nat → Addr} {d : Nat → FuncData} (T : Txt K mg a d) : FnOk P w K mg base CX0 1 (a 25) (d 25) ["_law_script", "_law_k"] (spBegun K) := by
  refine T.F_l_begun.ok sc_l_begun (fun vs H Q E h => ?_) (fun cdv A outer s0 H vs Q E hr h => ?_)
  · obtain ⟨l, ns, k, rfl, hS, hl, hk0, hk1, q⟩ := h
    rfl
  · obtain ⟨l, ns, k, rfl, hS, hl, hk0, hk1, q⟩ := h
    have hc := cell_at ns (some k) (some (k + 1))
    obtain ⟨c, hc⟩ := hc
    refine ⟨_, (pss_cons (ps_set (i := 2) sc_l_begun.nd rfl (Or.inl rfl) (pe_ix ix_list (pe_op op_cat (pe_slice sl_list (pv 0) (po_some (pv 1)) (po_some (pe_op op_add (pv 1) pe_int))) (pe_lst (pa_cons pe_int pa_nil))) pe_int (fun _ _ => rfl))) (pss_cons (ps_set (i := 3) sc_l_begun.nd rfl (Or.inl rfl) (pe_callB (call_max2 rfl) (by rfl) T.z_max (by decide +kernel) (pa_cons (pv 2) (pa_cons (pe_op op_sub (pe_un un_neg pe_int) (pv 2)) pa_nil)))) (pss_cons (ps_set (i := 4) sc_l_begun.nd rfl (Or.inl rfl) (pe_op op_mod (pe_op op_add (pe_op op_add (pe_op op_add (pe_op op_mod (pv 3) pe_int) (pe_op op_mul pe_int (pv 1))) (pe_op op_mul (pe_op op_mul pe_int (pv 1)) (pv 1))) pe_int) pe_int)) (pss_one (ps_ret (pe_lst (pa_cons (pv 3) (pa_cons (pv 4) (pa_cons (pe_cmpR op_ge (pv 3) (pe_op op_pow pe_int pe_int) (nomark _)) pa_nil))))))))), ?_⟩
    refine ⟨_, rfl, _, rfl, k, rfl, _, rfl, k, 1, rfl, rfl, k + 1, rfl, l, _, rfl, hS, fun p1 n1 => ?_⟩
    refine ⟨len1, fun p2 n2 => ?_⟩
    have n12 : p1 ≠ p2 := fun e => by rw [e] at n1; rw [← e, upd_same] at n2; cases n2
    refine ⟨p1, p2, _, _, rfl, rfl, (by rw [upd_ne n12]; exact upd_same), upd_same, ?_, fun p3 n3 => ?_⟩
    · have z := cut_len (ns.map V.int) (some k) (some (k + 1))
      rw [List.length_map] at z
      exact Nat.le_trans (Nat.add_le_add_right (Nat.le_trans z hl) 1) (by decide)
    refine ⟨p3, _, 0, _, rfl, rfl, SqL.of upd_same, hc, ?_⟩
    refine ⟨_, rfl, 1, rfl, _, rfl, -1, c, rfl, rfl, c, -1 - c, rfl, ?_⟩
    refine ⟨_, rfl, _, _, rfl, rfl, (by show (0 : Int) < 2147483629; decide), _, rfl, 7919, k, rfl, rfl, .inl (m64 (by decide) (by decide)), _, _, rfl, rfl, ?_⟩
    refine ⟨_, rfl, 104729, k, rfl, rfl, .inl (m64 (by decide) (by decide)), _, rfl, _, k, rfl, rfl, .inr (m64 (by omega) (by omega)), _, _, rfl, rfl, _, 11, rfl, rfl, _, _, rfl, rfl, (by show (0 : Int) < 2147483629; decide), ?_⟩
    refine ⟨_, rfl, _, rfl, _, rfl, 10, 18, rfl, rfl, ⟨by decide, by decide, by decide⟩, _, _, rfl, rfl, len3, fun p4 n4 => ?_⟩
    refine q p4 _ (Same.free (same_new (same_new (same_new (Same.refl H) n1) n2) n3) n4) (same_new (same_new (same_new (same_new (Same.refl H) n1) n2) n3) n4) ⟨_, _, _, upd_same, ?_, ?_⟩
    · exact Int.emod_nonneg _ (by decide)
    · exact Int.lt_trans (Int.emod_lt_of_pos _ (by decide)) (by decide)

theorem ok_l_take {P : Program} {w : World} {K : PySem.W.Frag} {mg : Str → Option Value} {base : Heap} {a : Nat → Addr} {d : Nat → FuncData} (T : Txt K mg a d) : FnOk P w K mg base CX0 1 (a 26) (d 26) ["_law_state", "_law_many"] spTake := by
  refine T.F_l_take.ok sc_l_take (fun vs H Q E h => ?_) (fun cdv A outer s0 H vs Q E hr h => ?_)
  · obtain ⟨s, m, rfl, ⟨x, y, c, hs, y0, y1⟩, m0, m1, q⟩ := h
    rfl
  · obtain ⟨s, m, rfl, ⟨x, y, c, hs, y0, y1⟩, m0, m1, q⟩ := h
    refine ⟨_, (pss_cons (ps_if (pt_truth (pe_ix ix_list (pv 0) pe_int (fun _ _ => rfl)) (by intro _; rfl)) (pss_cons (ps_set (i := 2) sc_l_take.nd rfl (Or.inl rfl) (pe_op op_mod (pe_ix ix_list (pv 0) pe_int (fun _ _ => rfl)) (pv 1))) (pss_cons (ps_asg (pe_op op_fdivW (pe_ix ix_list (pv 0) pe_int (fun _ _ => rfl)) (pv 1)) (pg_sub (pv 0) pe_int set_list)) (pss_cons (ps_asg (pe_cmpR op_gt (pe_ix ix_list (pv 0) pe_int (fun _ _ => rfl)) pe_int (nomark _)) (pg_sub (pv 0) pe_int set_list)) (pss_one (ps_ret (pv 2)))))) pss_nil) (pss_cons (ps_set (i := 3) sc_l_take.nd rfl (Or.inl rfl) pe_int) (pss_cons (ps_for PassesOwn.never rfl (pi_range1 (by rfl) T.z_range (pa_cons (pe_op op_add pe_int (pe_callTy call_int1 (by rfl) T.z_int (by decide +kernel) (pa_cons (pe_cmpR op_gt (pv 1) (pe_op op_pow pe_int pe_int) (nomark _)) pa_nil))) pa_nil)) (pg_name (i := 4) sc_l_take.nd rfl (.inl rfl)) (pss_cons (ps_asg (pe_op op_mod (pe_op op_add (pe_op op_mul (pe_ix ix_list (pv 0) pe_int (fun _ _ => rfl)) pe_int) pe_int) pe_int) (pg_sub (pv 0) pe_int set_list)) (pss_one (ps_set (i := 3) sc_l_take.nd rfl (Or.inl rfl) (pe_op op_add (pe_op op_mul (pv 3) pe_int) (pe_op op_mod (pe_op op_mul (pe_ix ix_list (pv 0) pe_int (fun _ _ => rfl)) (pe_ix ix_list (pv 0) pe_int (fun _ _ => rfl))) pe_int)))))) (pss_one (ps_ret (pe_op op_mod (pe_op op_fdiv (pv 3) pe_int) (pv 1))))))), ?_⟩
    refine ⟨_, rfl, s, _, 2, _, rfl, rfl, SqL.of hs, rfl, c, rfl, ?_⟩
    cases c with
    | true =>
      refine iteT ?_
      refine ⟨_, rfl, s, _, 0, _, rfl, rfl, SqL.of hs, rfl, _, rfl, x, m, rfl, rfl, m0, ?_⟩
      refine ⟨_, rfl, s, _, 0, _, rfl, rfl, SqL.of hs, rfl, _, rfl, x, m, rfl, rfl, divW m0 (p2000 m1), _, rfl, s, _, 0, 0, rfl, rfl, hs, rfl, ?_⟩
      refine ⟨_, rfl, s, _, 0, _, rfl, rfl, SqL.of upd_same, rfl, _, 0, rfl, rfl, _, rfl, s, _, 2, 2, rfl, rfl, upd_same, rfl, ?_⟩
      refine ⟨_, rfl, ?_⟩
      refine q _ _ (Int.emod_nonneg _ (by omega)) (Int.emod_lt_of_pos _ m0) ⟨fun b o n e => ?_, ⟨_, _, _, upd_same, y0, y1⟩⟩
      rw [upd_ne n, upd_ne n]
      exact e
    | false =>
      refine iteF ?_
      refine ⟨_, rfl, 10, 6, rfl, rfl, ⟨by decide, by decide, by decide⟩, m, _, rfl, rfl, .inr ⟨_, rfl, 1, _, rfl, rfl, _, rfl, ?_, ?_, ?_⟩⟩
      · cases decide ((10 : Int) ^ (6 : Int).toNat < m) <;> decide
      · cases decide ((10 : Int) ^ (6 : Int).toNat < m) <;> decide
      refine for_range (fun i σ H' => ∃ (made : Int) (t : Option V), σ = [some (.ref s), some (.int m), none, some (.int made), t] ∧ Kp s H H') ⟨0, none, rfl, ⟨fun _ _ _ e => e, _, _, _, hs, y0, y1⟩⟩ ?_ ?_
      · rintro i σ H' hi ⟨made, t, rfl, k, ⟨x', y', c', hs', y0', y1'⟩⟩
        refine ⟨_, rfl, s, _, 1, _, rfl, rfl, SqL.of hs', rfl, y', 48271, rfl, rfl, .inr (m64 (by decide) (by decide)), _, 11, rfl, rfl, _, 2147483647, rfl, rfl, (by show (0 : Int) < 2147483647; decide), _, rfl, s, _, 1, 1, rfl, rfl, hs', rfl, ?_⟩
        have e0 : 0 ≤ (y' * 48271 + 11) % 2147483647 := Int.emod_nonneg _ (by decide)
        have e1 : (y' * 48271 + 11) % 2147483647 < 2147483647 := Int.emod_lt_of_pos _ (by decide)
        refine ⟨_, rfl, made, 2147483587, rfl, rfl, .inr (m64 (by decide) (by decide)), _, rfl, s, _, 1, _, rfl, rfl, SqL.of upd_same, rfl, _, rfl, s, _, 1, _, rfl, rfl, SqL.of upd_same, rfl, _, _, rfl, rfl, .inl (m64 (by omega) (by omega)), _, 2147483587, rfl, rfl, (by show (0 : Int) < 2147483587; decide), _, _, rfl, rfl, ?_⟩
        refine ⟨_, _, rfl, ⟨fun b o n e => ?_, _, _, _, upd_same, e0, e1⟩⟩
        rw [upd_ne n]
        exact k b o n e
      · rintro σ H' ⟨made, t, rfl, k⟩
        refine ⟨_, rfl, made, 64, rfl, rfl, ⟨by decide, by decide⟩, _, rfl, _, m, rfl, rfl, m0, ?_⟩
        exact q _ _ (Int.emod_nonneg _ (by omega)) (Int.emod_lt_of_pos _ m0) k

theorem ok_l_formed {P : Program} {w : World} {K : PySem.W.Frag} {mg : Str → Option Value} {base : Heap} {a : Nat → Addr} {d : Nat → FuncData} (T : Txt K mg a d) : FnOk P w K mg base CX0 1 (a 27) (d 27) ["_law_worth", "_law_fields_here"] (spFormed K) := by
  refine T.F_l_formed.ok sc_l_formed (fun vs H Q E h => ?_) (fun cdv A outer s0 H vs Q E hr h => ?_)
  · obtain ⟨v, w, f, rfl, hv, hw, hf, q⟩ := h
    rfl
  · obtain ⟨v, w, f, rfl, hv, hw, hf, q⟩ := h
    refine ⟨_, (pss_cons (ps_if (PW.pt (pw_or (pt_cmpR op_isN (pv 0) pe_non (nomark _)) (pw_or1 (pt_cmpR op_isN (pv 1) pe_non (nomark _))))) (pss_one (ps_ret (pv 0))) pss_nil) (pss_one (ps_ret (pe_op op_catT (pe_slice sl_tupA (pv 0) po_none (po_some (pv 1))) (pe_op TM2.op_mulTA (pe_tup (pa_cons pe_int pa_nil)) (pe_op op_sub (pv 1) (pe_callB call_len_seq (by rfl) T.z_len PySem.boot_len (pa_cons (pv 0) pa_nil)))))))), ?_⟩
    cases w with
    | none =>
      cases dp_noneI hv
      exact ⟨_, rfl, rfl, _, rfl, iteT ⟨_, rfl, q _ H (Same.refl H) .non⟩⟩
    | some w =>
      obtain ⟨p, rfl, hp⟩ := wo_at hv
      refine ⟨_, rfl, rfl, _, rfl, iteF ?_⟩
      cases f with
      | none => exact ⟨_, rfl, rfl, _, rfl, iteT ⟨_, rfl, q _ H (Same.refl H) hv⟩⟩
      | some f =>
        obtain ⟨f1, f2⟩ := hf f rfl
        obtain ⟨w1, w2⟩ := hw
        refine ⟨_, rfl, rfl, _, rfl, iteF ?_⟩
        have wl : (w.map V.int).length = w.length := List.length_map _
        have ec : cutV (w.map V.int) none (some f) = (w.take f.toNat).map V.int := by rw [cut_to _ (by omega), List.map_take]
        refine ⟨_, rfl, _, rfl, _, rfl, p, _, rfl, hp, fun e => ?_, fun ne r nr => ?_⟩
        · have et : w.take f.toNat = w := by
            have e := e.2
            rw [show f = ((f.toNat : Nat) : Int) from by omega, HT.sIx_nat, wl] at e
            rw [List.take_of_length_le (by omega)]
          have hq : SqT K H p ((w.take f.toNat).map V.int) := by rw [et]; exact hp
          have s1 : Same H H := Same.refl H
          refine ⟨len1, fun z nz => ?_⟩
          have s2 := same_new (o := .tup [V.int 0]) s1 nz
          have hz := SqT.of (K := K) (upd_same (H := H) (a := z) (o := .tup [V.int 0]))
          have hq := same_sqt (same_new (o := .tup [V.int 0]) (Same.refl _) nz) hq
          generalize (upd H z (.tup [V.int 0])) = H1 at s2 hz hq ⊢
          refine ⟨_, rfl, _, rfl, p, _, rfl, .inr (same_sqt s2 hp), f, _, rfl, rfl, z, _, _, rfl, rfl, hz, (by simp), (by decide), by omega, by omega, fun c1 => ?_, fun c0 y ny => ?_, fun c2 y ny => ?_⟩
          · exact formed_fin s2 hq hz (by rw [wl] at c1; rw [c1]; rfl) ⟨w1, w2⟩ f1 f2 q
          · exact formed_fin (same_new s2 ny) (same_sqt (same_new (Same.refl _) ny) hq) (SqT.of upd_same) (by rw [wl] at c0; rw [show (f - (w.length : Int)).toNat = 0 by omega]; rfl) ⟨w1, w2⟩ f1 f2 q
          · refine formed_fin (same_new s2 ny) (same_sqt (same_new (Same.refl _) ny) hq) (SqT.of upd_same) ?_ ⟨w1, w2⟩ f1 f2 q
            rw [rep_one, wl]
        · have s1 : Same H (upd H r (.tup (cutV (w.map V.int) none (some f)))) := same_new (Same.refl H) nr
          have hq : (upd H r (.tup (cutV (w.map V.int) none (some f)))) r = some (.tup ((w.take f.toNat).map V.int)) := by rw [upd_same, ec]
          have hq := SqT.of (K := K) hq
          have hp' := same_sqt s1 hp
          generalize (upd H r (.tup (cutV (w.map V.int) none (some f)))) = H0 at s1 hq hp' ⊢
          refine ⟨len1, fun z nz => ?_⟩
          have s2 := same_new (o := .tup [V.int 0]) s1 nz
          have hz := SqT.of (K := K) (upd_same (H := H0) (a := z) (o := .tup [V.int 0]))
          have hq := same_sqt (same_new (o := .tup [V.int 0]) (Same.refl _) nz) hq
          generalize (upd H0 z (.tup [V.int 0])) = H1 at s2 hz hq ⊢
          refine ⟨_, rfl, _, rfl, p, _, rfl, .inr (same_sqt s2 hp), f, _, rfl, rfl, z, _, _, rfl, rfl, hz, (by simp), (by decide), by omega, by omega, fun c1 => ?_, fun c0 y ny => ?_, fun c2 y ny => ?_⟩
          · exact formed_fin s2 hq hz (by rw [wl] at c1; rw [c1]; rfl) ⟨w1, w2⟩ f1 f2 q
          · exact formed_fin (same_new s2 ny) (same_sqt (same_new (Same.refl _) ny) hq) (SqT.of upd_same) (by rw [wl] at c0; rw [show (f - (w.length : Int)).toNat = 0 by omega]; rfl) ⟨w1, w2⟩ f1 f2 q
          · refine formed_fin (same_new s2 ny) (same_sqt (same_new (Same.refl _) ny) hq) (SqT.of upd_same) ?_ ⟨w1, w2⟩ f1 f2 q
            rw [rep_one, wl]

theorem ok_l_fields {P : Program} {w : World} {K : PySem.W.Frag} {mg : Str → Option Value} {base : Heap} {a : Nat → Addr} {d : Nat → FuncData} (T : Txt K mg a d) : FnOk P w K mg base CX0 1 (a 28) (d 28) ["_law_history_here", "_law_time"] (spFields K) := by
  refine T.F_l_fields.ok sc_l_fields (fun vs H Q E h => ?_) (fun cdv A outer s0 H vs Q E hr h => ?_)
  · obtain ⟨l, bs, t, rfl, hl, hb, hn, hf, q⟩ := h
    rfl
  · obtain ⟨l, bs, t, rfl, hl, hb, hn, hf, q⟩ := h
    refine ⟨_, (pss_cons (ps_setLc (i := 2) (own := [("_law_number", 3), ("_law_one", 4)]) (g := (gTup K 2 (gCons (gName 3) (gCons (gName 4) gNil)))) (te := (tTup (tCons (tOp (rIxT K) (tVar 4) (tC (.int 1))) (tCons (tVar 3) (tCons (tOp (rIxT K) (tVar 4) (tC (.int 2))) tNil))))) (tt := (tAnd (tTest (tOp rEq (tOp (rIxT K) (tVar 4) (tC (.int 0))) (tC (.str "form")))) (tTest (tOp (rI0 fun i j => .bl (decide (i ≤ j))) (tOp (rIxT K) (tVar 4) (tC (.int 1))) (tVar 1))))) (by rfl) sc_l_fields.nd rfl rfl (sw_true rfl rfl rfl (by decide +kernel)) (pi_enum (by rfl) T.z_enumerate (pa_cons (pv 0) pa_nil)) (blkOk_by (own := [("_law_number", 3), ("_law_one", 4)]) (N := ["_law_history_here", "_law_time", "_law_some", "_law_number", "_law_one"]) (sc := defScope s_l_fields) (by decide +kernel)) (fun _ _ _ _ _ => (pg_tup (by rfl) (pgs_cons (pg_name (i := 3) sc_l_fields.nd rfl (.inl rfl)) (pgs_cons (pg_name (i := 4) sc_l_fields.nd rfl (.inl rfl)) pgs_nil)))) (fun _ _ _ _ _ => (pts_one (PW.pt (pw_and (pt_cmpR op_eq (pe_ix ix_tup (pv 4) pe_int (fun _ _ => rfl)) pe_str (nomark _)) (pw_and1 (pt_cmpR op_le (pe_ix ix_tup (pv 4) pe_int (fun _ _ => rfl)) (pv 1) (nomark _))))))) (fun _ _ _ _ _ => (pe_tup (pa_cons (pe_ix ix_tup (pv 4) pe_int (fun _ _ => rfl)) (pa_cons (pv 3) (pa_cons (pe_ix ix_tup (pv 4) pe_int (fun _ _ => rfl)) pa_nil)))))) (pss_cons (ps_if (pt_cmpR (op_eqD hr.units) (pv 2) (pe_lst pa_nil) (nomark _)) (pss_one (ps_ret pe_non)) pss_nil) (pss_one (ps_ret (pe_ix ix_tup (pe_callB (SM.cr_maxA rfl hr.units) (by rfl) T.z_max (by decide +kernel) (pa_cons (pv 2) pa_nil)) pe_int (fun _ _ => rfl)))))), ?_⟩
    refine ⟨_, rfl, l, _, rfl, hl, fun D nD => ?_⟩
    refine lc_it (walk_enum (K := K) (a := l) (xs := bs.map (·.1))) (fun j H' => Same H H' ∧ ∃ zs : List (Addr × Int × Int × Int), H' D = some (.lst (zs.map fun z => V.ref z.1)) ∧ (∀ z ∈ zs, SqT K H' z.1 [.int z.2.1, .int z.2.2.1, .int z.2.2.2] ∧ 1 ≤ z.2.2.2 ∧ z.2.2.2 ≤ 4) ∧ zs.length ≤ j ∧ (zs.map (·.2)).map (fun e => (e.1, e.2.2)) = (((bs.take j).map (·.2)).filterMap formOf).filter (fun p => decide (p.1 ≤ t)) ∧ (zs.map (·.2)).Pairwise (fun a b => a.2.1 < b.2.1) ∧ ∀ z ∈ zs, z.2.2.1 < (j : Int)) ⟨same_new (Same.refl H) nD, [], upd_same, (fun z h => by cases h), Nat.zero_le _, rfl, .nil, fun z h => by cases h⟩ (fun j H' _ z => z.1.seq hl) ?_ ?_
    · rintro j v HA HB hj ⟨sA, zs, hD, hz, hzl, hE, hP, hI⟩ ⟨Tp, x0, y0, rfl, nT, rfl, e1, e2⟩
      cases e1
      have e2 : (bs.map (·.1))[j]? = some y0 := e2
      rw [List.getElem?_map] at e2
      cases eb : bs[j]? with
      | none => rw [eb] at e2; cases e2
      | some b =>
        rw [eb] at e2
        cases e2
        have hm := List.mem_of_getElem? eb
        have s2 : Same HA (upd HA Tp (.tup [.int (j : Int), b.1])) := same_new (Same.refl HA) nT
        have hT : (upd HA Tp (.tup [.int (j : Int), b.1])) Tp = some (.tup [.int (j : Int), b.1]) := upd_same
        generalize (upd HA Tp (.tup [.int (j : Int), b.1])) = HB at s2 hT ⊢
        have hD := s2 _ _ hD
        have sB := sA.trans s2
        have hz2 : ∀ z ∈ zs, SqT K HB z.1 [.int z.2.1, .int z.2.2.1, .int z.2.2.2] ∧ 1 ≤ z.2.2.2 ∧ z.2.2.2 ≤ 4 := fun z h => ⟨same_sqt s2 (hz z h).1, (hz z h).2⟩
        have eft := forms_take eb
        have no : ((formOf b.2).toList.filter fun p => decide (p.1 ≤ t)) = [] → Same H HB ∧ ∃ zs : List (Addr × Int × Int × Int), HB D = some (.lst (zs.map fun z => V.ref z.1)) ∧ (∀ z ∈ zs, SqT K HB z.1 [.int z.2.1, .int z.2.2.1, .int z.2.2.2] ∧ 1 ≤ z.2.2.2 ∧ z.2.2.2 ≤ 4) ∧ zs.length ≤ j + 1 ∧ (zs.map (·.2)).map (fun e => (e.1, e.2.2)) = (((bs.take (j + 1)).map (·.2)).filterMap formOf).filter (fun p => decide (p.1 ≤ t)) ∧ (zs.map (·.2)).Pairwise (fun a b => a.2.1 < b.2.1) ∧ ∀ z ∈ zs, z.2.2.1 < ((j + 1 : Nat) : Int) := fun en =>
          ⟨sB, zs, hD, hz2, by omega, by rw [eft, List.filter_append, en, List.append_nil]; exact hE, hP, fun z h => by have := hI z h; omega⟩
        have hrow := dp_ext (LamX.ExtN.of sB) (hb b hm)
        have hfb := hf b hm
        obtain ⟨bv, row⟩ := b
        refine ⟨Tp, _, rfl, SqT.of hT, rfl, _, _, rfl, _, _, rfl, rfl, rfl, ?_⟩
        cases row with
        | deal d =>
          obtain ⟨p, xs, e, hp⟩ := row_head hrow
          exact ⟨_, rfl, p, _, 0, _, e, rfl, hp, atI_nat (j := 0) rfl, rfl, _, rfl, iteDF (fun z => by cases z) (iteF (no rfl))⟩
        | read n x y k w =>
          obtain ⟨p, xs, e, hp⟩ := row_head hrow
          exact ⟨_, rfl, p, _, 0, _, e, rfl, hp, atI_nat (j := 0) rfl, rfl, _, rfl, iteDF (fun z => by cases n <;> cases z) (iteF (no rfl))⟩
        | form t' f' =>
          obtain ⟨p, e, hp⟩ := form_at hrow
          obtain ⟨f1, f2⟩ := hfb t' f' rfl
          refine ⟨_, rfl, p, _, 0, _, e, rfl, hp, atI_nat (j := 0) rfl, rfl, _, rfl, iteDT rfl ⟨_, rfl, p, _, 1, _, e, rfl, hp, atI_nat (j := 1) rfl, _, rfl, t', t, rfl, rfl, _, rfl, ?_⟩⟩
          by_cases c : t' ≤ t
          · refine iteDT c ⟨_, rfl, p, _, 1, _, e, rfl, hp, atI_nat (j := 1) rfl, _, rfl, _, rfl, p, _, 2, _, e, rfl, hp, atI_nat (j := 2) rfl, len3, fun y ny => ⟨_, by rw [upd_ne (ne_of_none hD ny)]; exact hD, ?_, ?_, zs ++ [(y, t', (j : Int), f')], by rw [upd_same, List.map_append]; rfl, fun z hz => ?_, ?_, ?_, ?_, fun z hz => ?_⟩⟩
            · rw [List.length_map]
              exact Nat.lt_of_le_of_lt hzl (Nat.lt_of_lt_of_le hj (by rw [List.length_map]; exact Nat.le_trans hn (by decide)))
            · exact fun b o w => by
                have nb := ne_of_none w nD
                rw [upd_ne nb]
                exact same_new sB ny b o w
            · have hy : D ≠ y := ne_of_none hD ny
              have up : ∀ q ys, SqT K HB q ys → SqT K (upd (upd HB y (.tup [.int t', .int (j : Int), .int f'])) D (.lst (zs.map (fun z => V.ref z.1) ++ [.ref y]))) q ys := fun q ys h =>
                sqt_upd (by rw [upd_ne hy]; exact hD) (same_sqt (same_new (Same.refl HB) ny) h)
              rcases List.mem_append.mp hz with hz | hz
              · exact ⟨up _ _ (hz2 z hz).1, (hz2 z hz).2⟩
              · cases List.mem_singleton.mp hz
                exact ⟨SqT.of (by rw [upd_ne hy.symm]; exact upd_same), f1, f2⟩
            · rw [List.length_append]
              simp
              exact hzl
            · rw [eft, List.filter_append, ← hE, List.map_append, List.map_append]
              simp [formOf, c]
            · rw [List.map_append]
              refine List.pairwise_append.mpr ⟨hP, List.pairwise_singleton _ _, fun x hx y' hy' => ?_⟩
              cases List.mem_singleton.mp hy'
              obtain ⟨z, hz', rfl⟩ := List.mem_map.mp hx
              exact hI z hz'
            · rcases List.mem_append.mp hz with hz | hz
              · have := hI z hz
                omega
              · cases List.mem_singleton.mp hz
                show (j : Int) < ((j + 1 : Nat) : Int)
                omega
          · exact iteDF c (no (by simp [formOf, c]))
    · rintro HA ⟨sA, zs, hD, hz, hzl, hE, hP, hI⟩
      rw [List.length_map, List.take_length] at hE
      have efs : ∀ rs : List Row, formS rs = (rs.filterMap formOf).mergeSort keyLe := fun rs => by unfold formS; rw [keyLe_eq]
      refine ⟨_, rfl, (by decide : 0 ≤ sizeLine), fun e ne => ?_⟩
      have s2 : Same HA (upd HA e (.lst [])) := same_new (Same.refl HA) ne
      have he : (upd HA e (.lst [])) e = some (.lst []) := upd_same
      generalize (upd HA e (.lst [])) = HB at s2 he ⊢
      have hD := s2 _ _ hD
      have hds := i3_dp (K := K) (H := HB) (zs := zs) fun z h => same_sqt s2 (hz z h).1
      have hsh : SeqAt.shaped (.list ((zs.map (·.2)).map i3D)) = true := by
        unfold SeqAt.shaped
        have h1 : (PyData.list ((zs.map (·.2)).map i3D)).depth ≤ 64 := by
          have := i3_depth (zs.map (·.2))
          simp only [PyData.depth]
          omega
        rw [decide_eq_true h1, Bool.and_true]
        show PyData.canLayAll0 _ = true
        generalize zs.map (·.2) = qs
        induction qs with
        | nil => rfl
        | cons x r ih => rw [List.map_cons]; exact ih
      refine ⟨.list ((zs.map fun z : Addr × Int × Int × Int => z.2).map i3D), .list [], .lst (SqL.of hD) hds, .lst (SqL.of he) .nil, hsh, rfl, _, rfl, ?_⟩
      have sB := sA.trans s2
      cases zs with
      | nil => exact iteBT rfl (q none _ sB (fun i h => by cases h) (by rw [efs, form_none hE.symm]))
      | cons z0 zr =>
        refine iteBF rfl ⟨_, rfl, D, _, _, rfl, SqL.of hD, hds, (fun x hx => ?_), (fun h => by cases h), i3_alike _, Nat.le_trans (i3_depth _) (by decide), fun i v hv hmx => ?_⟩
        · obtain ⟨y, _, rfl⟩ := List.mem_map.mp hx
          exact ⟨_, rfl⟩
        · rw [List.getElem?_map] at hv
          cases ez : (z0 :: zr)[i]? with
          | none => rw [ez] at hv; cases hv
          | some z =>
            rw [ez] at hv
            cases hv
            have := hz z (List.mem_of_getElem? ez)
            have hmx := hmx _ _ rfl
            obtain ⟨y, ey, hy, hgt⟩ := max_wo ((zr.map (·.2)).map fun q => [q.1, q.2.1, q.2.2]) [z0.2.1, z0.2.2.1, z0.2.2.2]
            have em : ((zr.map fun z : Addr × Int × Int × Int => z.2).map fun q : Int × Int × Int => [q.1, q.2.1, q.2.2]).map woD = (zr.map fun z : Addr × Int × Int × Int => z.2).map i3D := by
              rw [List.map_map]
              rfl
            rw [em] at ey
            have e3 : (((z0 :: zr).map fun z : Addr × Int × Int × Int => z.2).map i3D)[i]? = some (i3D z.2) := by
              rw [List.getElem?_map, List.getElem?_map, ez]
              rfl
            have e4 : i3D z.2 = woD y := by
              have := e3.symm.trans hmx
              rw [← ey]
              exact Option.some.inj this
            have e5 : [z.2.1, z.2.2.1, z.2.2.2] = y := wo_inj e4
            have hl : lastUp (formS (bs.map (·.2))) t = some z.2.2.2 := by
              rw [efs]
              refine form_last (e := z.2) hE hP (List.mem_map_of_mem (List.mem_of_getElem? ez)) fun x hx => ?_
              have hx2 : [x.1, x.2.1, x.2.2] ∈ [z0.2.1, z0.2.2.1, z0.2.2.2] :: ((zr.map (·.2)).map fun q : Int × Int × Int => [q.1, q.2.1, q.2.2]) := by
                have := List.mem_map_of_mem (f := fun q : Int × Int × Int => [q.1, q.2.1, q.2.2]) hx
                exact this
              have hn := hgt _ hx2
              rw [← e5] at hn
              by_cases c1 : z.2.1 < x.1
              · exact absurd (List.cons_lt_cons_iff.mpr (.inl c1)) hn
              · by_cases c2 : x.1 < z.2.1
                · exact .inl c2
                · have e6 : x.1 = z.2.1 := by omega
                  refine .inr ⟨e6, ?_⟩
                  by_cases c3 : z.2.2.1 < x.2.1
                  · exact absurd (List.cons_lt_cons_iff.mpr (.inr ⟨e6.symm, List.cons_lt_cons_iff.mpr (.inl c3)⟩)) hn
                  · omega
            exact ⟨z.1, _, 2, _, rfl, rfl, same_sqt s2 this.1, atI_nat (j := 2) rfl, q (some z.2.2.2) _ sB (fun i h => by cases h; exact this.2) hl.symm⟩

theorem ok_l_worth_of {P : Program} {w : World} {K : PySem.W.Frag} {mg : Str → Option Value} {base : Heap} {a : Nat → Addr} {d : Nat → FuncData} (T : Txt K mg a d) : FnOk P w K mg base CX0 1 (a 29) (d 29) ["_law_deals", "_law_key", "_law_most"] (spWorthOf K) := by
  refine T.F_l_worth_of.ok sc_l_worth_of (fun vs H Q E h => ?_) (fun cdv A outer s0 H vs Q E hr h => ?_)
  · obtain ⟨l, m, key, zs, st, rfl, hl, hz, hn, hm, q⟩ := h
    rfl
  · obtain ⟨l, m, key, zs, st, rfl, hl, hz, hn, hm, q⟩ := h
    refine ⟨_, (pss_cons (ps_setLc (i := 3) (own := [("_law_one", 4)]) (g := gName 4) (te := (tTup (tCons (tOp (rIxT K) (tVar 4) (tC (.int 4))) (tCons (tDGet (tCB (fun xs H Q => ∃ (a : Addr) (ps : List Addr) (kvs : List (Key × V)), xs = [.ref a] ∧ SqL K H a (ps.map V.ref) ∧ Paired (fun p kv => SqT K H p [kV kv.1, kv.2]) ps kvs ∧ ∀ p, H p = none → Q (.ref p) (upd H p (.dK (mergeK [] kvs)))) (tCons (tOp (rIxT K) (tVar 4) (tC (.int 6))) tNil)) (tVar 1)) tNil)))) (tt := (tAnd (tB (tDIn (tVar 1) (tCB (fun xs H Q => ∃ (a : Addr) (ps : List Addr) (kvs : List (Key × V)), xs = [.ref a] ∧ SqL K H a (ps.map V.ref) ∧ Paired (fun p kv => SqT K H p [kV kv.1, kv.2]) ps kvs ∧ ∀ p, H p = none → Q (.ref p) (upd H p (.dK (mergeK [] kvs)))) (tCons (tOp (rIxT K) (tVar 4) (tC (.int 6))) tNil)))) (tTest (tOp (rLtT K) (tOp (rIxT K) (tVar 4) (tC (.int 4))) (tVar 2))))) (by rfl) sc_l_worth_of.nd rfl rfl (sw_true rfl rfl rfl (by decide +kernel)) (pi_list (pv 0)) (blkOk_by (own := [("_law_one", 4)]) (N := ["_law_deals", "_law_key", "_law_most", "_law_some", "_law_one", "_law_stamp", "_law_worth"]) (sc := defScope s_l_worth_of) (by decide +kernel)) (fun _ _ _ _ _ => (pg_name (i := 4) sc_l_worth_of.nd rfl (.inl rfl))) (fun _ _ _ _ _ => (pts_one (PW.pt (pw_and (pt_cmp (pc_din (hu_of hr) (pv 1) (pe_callTy (call_dictP rfl) (by rfl) T.z_dict (by decide +kernel) (pa_cons (pe_ix ix_tup (pv 4) pe_int (fun _ _ => rfl)) pa_nil)))) (pw_and1 (pt_cmpR (op_ltT hr.units0) (pe_ix ix_tup (pv 4) pe_int (fun _ _ => rfl)) (pv 2) (nomark _))))))) (fun _ _ _ _ _ => (pe_tup (pa_cons (pe_ix ix_tup (pv 4) pe_int (fun _ _ => rfl)) (pa_cons (pe_dget (hu_of hr) (pe_callTy (call_dictP rfl) (by rfl) T.z_dict (by decide +kernel) (pa_cons (pe_ix ix_tup (pv 4) pe_int (fun _ _ => rfl)) pa_nil)) (pv 1) (fun _ _ => rfl)) pa_nil))))) (pss_one (ps_ret (pe_ix ix_list (pe_op op_cat (pe_lst (pa_cons pe_non pa_nil)) (pe_lc (own := [("_law_stamp", 5), ("_law_worth", 6)]) (g := (gTup K 2 (gCons (gName 5) (gCons (gName 6) gNil)))) (te := (tVar 6)) (by rfl) sc_l_worth_of.nd (pi_list (pe_callB (SM.cr_sortedA hr.units) (by rfl) T.z_sorted (by decide +kernel) (pa_cons (pv 3) pa_nil))) (blkOk_by (own := [("_law_stamp", 5), ("_law_worth", 6)]) (N := ["_law_deals", "_law_key", "_law_most", "_law_some", "_law_one", "_law_stamp", "_law_worth"]) (sc := defScope s_l_worth_of) (by decide +kernel)) (fun _ _ _ _ _ => (pg_tup (by rfl) (pgs_cons (pg_name (i := 5) sc_l_worth_of.nd rfl (.inl rfl)) (pgs_cons (pg_name (i := 6) sc_l_worth_of.nd rfl (.inl rfl)) pgs_nil)))) (fun _ _ _ _ _ => pts_nil) (fun _ _ _ _ _ => (pv 6)))) (pe_un un_neg pe_int) (fun _ _ => rfl))))), ?_⟩
    refine ⟨_, rfl, l, rfl, ⟨_, hl⟩, fun D nD => ?_⟩
    refine lc_list (K := K) (a := l) (xs := zs.map (·.1)) (fun j H' => Same H H' ∧ ∃ bs : List (V × List Int × List Int), H' D = some (.lst (bs.map (·.1))) ∧ (∀ b ∈ bs, Dp K H' b.1 (swD b.2) ∧ ∃ z ∈ zs, ∃ p ∈ z.2.ws, p.2 = b.2.2) ∧ bs.length ≤ j ∧ bs.map (·.2) = ((zs.take j).map (·.2)).filterMap (cand key st)) ⟨same_new (Same.refl H) nD, [], upd_same, (fun z h => by cases h), Nat.zero_le _, rfl⟩ (fun j H' _ z => z.1.seq hl) ?_ ?_
    · rintro j v HA hj ⟨sA, bs, hD, hb, hbl, hcd⟩
      have hjl := (List.getElem?_eq_some_iff.mp hj).1
      rw [List.length_map] at hjl
      rw [List.getElem?_map] at hj
      cases ez : zs[j]? with
      | none => rw [ez] at hj; cases hj
      | some z =>
        rw [ez] at hj
        cases hj
        have hzm := List.mem_of_getElem? ez
        obtain ⟨p, ps, rl, wl, xs, ys, A'⟩ := deal_at (hz z hzm)
        have rowA := same_sqt sA A'.row
        obtain ⟨qs, kvs, rfl, hpair, hws⟩ := ws_pairs2 A'.ws
        have ect := cand_take (cand key st) ez
        have hWM := WM.merge (kvs := []) hws (WM.nil (K := K) (H := H))
        have pup : ∀ {G : Hp}, Same H G → Paired (fun p (kv : Key × V) => SqT K G p [kV kv.1, kv.2]) qs kvs := fun s => paired_up s hpair
        refine ⟨rfl, _, rfl, _, rfl, p, _, 6, _, A'.e, rfl, rowA, atI_nat (j := 6) rfl, wl, qs, kvs, rfl, sA.seq A'.wl, pup sA, fun d1 n1 => ⟨d1, _, rfl, DGet.k (k := Sum.inr key) upd_same, _, rfl, ?_⟩⟩
        have s1 : Same HA (upd HA d1 (.dK (mergeK [] kvs))) := same_new (Same.refl HA) n1
        generalize (upd HA d1 (.dK (mergeK [] kvs))) = HB at s1 ⊢
        have sB := sA.trans s1
        have hD := s1 _ _ hD
        have hb2 : ∀ b ∈ bs, Dp K HB b.1 (swD b.2) ∧ ∃ z ∈ zs, ∃ p ∈ z.2.ws, p.2 = b.2.2 := fun b h => ⟨dp_ext (LamX.ExtN.of s1) (hb b h).1, (hb b h).2⟩
        have no : cand key st z.2 = none → Same H HB ∧ ∃ bs : List (V × List Int × List Int), HB D = some (.lst (bs.map (·.1))) ∧ (∀ b ∈ bs, Dp K HB b.1 (swD b.2) ∧ ∃ z ∈ zs, ∃ p ∈ z.2.ws, p.2 = b.2.2) ∧ bs.length ≤ j + 1 ∧ bs.map (·.2) = ((zs.take (j + 1)).map (·.2)).filterMap (cand key st) := fun en => ⟨sB, bs, hD, hb2, by omega, by rw [ect, en]; simpa using hcd⟩
        cases ev : valV (mergeK [] kvs) (Sum.inr key) with
        | none =>
          have hk := hWM key
          rw [ev] at hk
          have hk := dp_non_ow hk
          exact iteBF rfl (iteF (no (by unfold cand wAll; rw [hk]; split <;> rfl)))
        | some u =>
          have hk := hWM key
          rw [ev] at hk
          have hk : Dp K H u (owD (wAll z.2 key)) := hk
          have hune : wAll z.2 key ≠ none := fun e => by
            have hm := (merge_src hws ev)
            rw [e] at hk
            cases dp_noneI hk
            obtain ⟨x, hx⟩ := hm
            obtain ⟨p', e', _⟩ := wo_at hx
            cases e'
          obtain ⟨x, ex⟩ := Option.ne_none_iff_exists'.mp hune
          rw [ex] at hk
          have hu : Dp K H u (woD x) := hk
          obtain ⟨pw, hpw, _, rfl⟩ := putW_mem (show (z.2.ws.foldl putW fun _ => none) key = some x from ex) rfl
          have rowB := same_sqt sB A'.row
          refine iteBT rfl ⟨_, rfl, p, _, 4, _, A'.e, rfl, rowB, atI_nat (j := 4) rfl, _, rfl, ps, m, z.2.st, st, rfl, rfl, same_sqt sB A'.st, same_sqt sB hm, _, rfl, ?_⟩
          cases elx : HT.lexLt z.2.st st with
          | false => exact iteF (no (by unfold cand; rw [elx]; rfl))
          | true =>
            refine iteT ⟨_, rfl, p, _, 4, _, A'.e, rfl, rowB, atI_nat (j := 4) rfl, _, rfl, p, _, 6, _, A'.e, rfl, rowB, atI_nat (j := 6) rfl, wl, qs, kvs, rfl, sB.seq A'.wl, pup sB, fun d2 n2 => ⟨_, rfl, d2, u, rfl, ?_, len2, fun y ny => ?_⟩⟩
            · have := DGet.k (k := Sum.inr key) (upd_same (H := HB) (a := d2) (o := .dK (mergeK [] kvs)))
              rw [ev] at this
              exact this
            · have s2 : Same HB (upd HB d2 (.dK (mergeK [] kvs))) := same_new (Same.refl HB) n2
              generalize (upd HB d2 (.dK (mergeK [] kvs))) = HC at s2 ny ⊢
              have sC := sB.trans s2
              have hD := s2 _ _ hD
              have s3 : Same HC (upd HC y (.tup [.ref ps, u])) := same_new (Same.refl HC) ny
              have hy : (upd HC y (.tup [.ref ps, u])) y = some (.tup [.ref ps, u]) := upd_same
              generalize (upd HC y (.tup [.ref ps, u])) = HE at s3 hy ⊢
              have sE := sC.trans s3
              have hD := s3 _ _ hD
              refine ⟨_, hD, ?_, fun b o w => ?_, bs ++ [(.ref y, z.2.st, pw.2)], by rw [upd_same, List.map_append]; rfl, fun b hb' => ?_, ?_, ?_⟩
              · rw [List.length_map]
                exact Nat.lt_of_le_of_lt hbl (Nat.lt_of_lt_of_le hjl (Nat.le_trans hn (by decide)))
              · rw [upd_ne (ne_of_none w nD)]
                exact sE b o w
              · rcases List.mem_append.mp hb' with hb' | hb'
                · exact ⟨dp_up hD (dp_ext (LamX.ExtN.of (s2.trans s3)) (hb2 b hb').1), (hb2 b hb').2⟩
                · cases List.mem_singleton.mp hb'
                  exact ⟨dp_up hD (.tup (SqT.of hy) (.cons (wo_dp (same_sqt sE A'.st)) (.cons (dp_ext (LamX.ExtN.of sE) hu) .nil))), z, hzm, pw, hpw, rfl⟩
              · rw [List.length_append]
                simp
                exact hbl
              · rw [List.map_append, hcd, ect]
                unfold cand
                rw [elx, if_pos rfl, ex]
                rfl
    · rintro HA ⟨sA, bs, hD, hb, hbl, hcd⟩
      rw [List.length_map, List.take_length] at hcd
      refine ⟨len1, fun p1 n1 => ?_⟩
      have s1 : Same HA (upd HA p1 (.lst [.non])) := same_new (Same.refl HA) n1
      have h1 : (upd HA p1 (.lst [.non])) p1 = some (.lst [.non]) := upd_same
      generalize (upd HA p1 (.lst [.non])) = HB at s1 h1 ⊢
      have hD := s1 _ _ hD
      have sB := sA.trans s1
      refine ⟨_, rfl, D, bs.map (fun b => (b.1, swD b.2)), rfl, SqL.of (by rw [hD, List.map_map]; rfl), fun b hb' => ?_, ?_, ?_, fun p2 n2 => ?_⟩
      · obtain ⟨b, hm', rfl⟩ := List.mem_map.mp hb'
        exact ⟨dp_ext (LamX.ExtN.of s1) (hb b hm').1, by show (swD b.2).depth ≤ 60; rw [sw_depth]; decide⟩
      · intro x hx y hy
        rw [List.map_map] at hx hy
        obtain ⟨b, _, rfl⟩ := List.mem_map.mp hx
        obtain ⟨c, _, rfl⟩ := List.mem_map.mp hy
        exact sw_alike _ _
      · left
        intro x hx
        rw [List.map_map] at hx
        obtain ⟨b, _, rfl⟩ := List.mem_map.mp hx
        exact ⟨_, _, rfl⟩
      · have ecs : (bs.map (fun b => (b.1, swD b.2))).mergeSort (PySem.W.dataLe false (·.2)) = (bs.mergeSort fun a b => swLe a.2 b.2).map (fun b => (b.1, swD b.2)) := (List.map_mergeSort (r := fun a b : V × List Int × List Int => swLe a.2 b.2) (s := PySem.W.dataLe false fun x : V × PyData => x.2) (f := fun b : V × List Int × List Int => (b.1, swD b.2)) (l := bs) (fun _ _ _ _ => rfl)).symm
        have esn : (bs.mergeSort fun a b => swLe a.2 b.2).map (·.2) = (((zs.map (·.2)).filterMap (cand key st)).mergeSort swLe) := by
          rw [← hcd]
          exact List.map_mergeSort fun _ _ _ _ => rfl
        have hbm' : ∀ b ∈ (bs.mergeSort fun a b => swLe a.2 b.2), b ∈ bs := fun b h => List.mem_mergeSort.mp h
        have hbl' : (bs.mergeSort fun a b => swLe a.2 b.2).length ≤ 900 := by
          rw [List.length_mergeSort]
          rw [List.length_map] at hbl
          omega
        rw [ecs]
        generalize (bs.mergeSort fun a b => swLe a.2 b.2) = bs' at esn hbm' hbl' ⊢
        have hcs : ∀ c ∈ bs'.map (fun b => (b.1, swD b.2)), ∃ b ∈ bs, c = (b.1, swD b.2) := fun c hc => by
          obtain ⟨b, hb', rfl⟩ := List.mem_map.mp hc
          exact ⟨b, hbm' b hb', rfl⟩
        obtain ⟨cs, hcsd⟩ : ∃ cs, cs = bs'.map (fun b : V × List Int × List Int => (b.1, swD b.2)) := ⟨_, rfl⟩
        rw [← hcsd] at hcs ⊢
        have hcl : cs.length ≤ 900 := by rw [hcsd, List.length_map]; exact hbl'
        have s2 : Same HB (upd HB p2 (.lst (cs.map (·.1)))) := same_new (Same.refl HB) n2
        have h2 : (upd HB p2 (.lst (cs.map (·.1)))) p2 = some (.lst (cs.map (·.1))) := upd_same
        generalize (upd HB p2 (.lst (cs.map (·.1)))) = HC at s2 h2 ⊢
        have sC := sB.trans s2
        refine ⟨p2, rfl, ⟨_, SqL.of h2⟩, fun D2 nD2 => ?_⟩
        refine lc_list (K := K) (a := p2) (xs := cs.map (·.1)) (fun j H' => Same HC H' ∧ ∃ es : List (V × List Int), H' D2 = some (.lst (es.map (·.1))) ∧ (∀ e ∈ es, Dp K H' e.1 (woD e.2) ∧ ∃ z ∈ zs, ∃ p ∈ z.2.ws, p.2 = e.2) ∧ es.length ≤ j ∧ es.map (·.2) = (bs'.take j).map (·.2.2)) ⟨same_new (Same.refl HC) nD2, [], upd_same, (fun z h => by cases h), Nat.zero_le _, rfl⟩ (fun j H' _ z => z.1.seq (SqL.of h2)) ?_ ?_
        · rintro j v HE hj ⟨sE, es, hD2, he, hel, hes⟩
          have hjl := (List.getElem?_eq_some_iff.mp hj).1
          rw [List.length_map] at hjl
          rw [List.getElem?_map] at hj
          cases ec : cs[j]? with
          | none => rw [ec] at hj; cases hj
          | some c =>
            rw [ec] at hj
            cases hj
            obtain ⟨b, eb', rfl⟩ : ∃ b, bs'[j]? = some b ∧ (b.1, swD b.2) = c := by
              rw [hcsd, List.getElem?_map] at ec
              exact Option.map_eq_some_iff.mp ec
            have hbm := hbm' b (List.mem_of_getElem? eb')
            obtain ⟨q', x, y, e1, hq', hx, hy⟩ := sw_at (hb b hbm).1
            have sAE := s1.trans (s2.trans sE)
            refine ⟨q', _, e1, same_sqt sAE hq', rfl, _, _, rfl, _, _, rfl, rfl, rfl, _, rfl, _, hD2, ?_, fun b o w => ?_, es ++ [(y, b.2.2)], by rw [upd_same, List.map_append]; rfl, fun e hem => ?_, ?_, by rw [List.map_append, hes, List.take_add_one, eb', List.map_append]; rfl⟩
            · rw [List.length_map]
              exact Nat.lt_of_le_of_lt hel (Nat.lt_of_lt_of_le hjl (Nat.le_trans hcl (by decide)))
            · rw [upd_ne (ne_of_none w nD2)]
              exact sE b o w
            · rcases List.mem_append.mp hem with hem | hem
              · exact ⟨wo_upd hD2 (he e hem).1, (he e hem).2⟩
              · cases List.mem_singleton.mp hem
                exact ⟨wo_upd hD2 (dp_ext (LamX.ExtN.of sAE) hy), (hb b hbm).2⟩
            · rw [List.length_append]
              simp
              exact hel
        · rintro HE ⟨sE, es, hD2, he, hel, hes⟩
          have hes : es.map (·.2) = bs'.map (·.2.2) := by
            rw [hes, List.length_map, hcsd, List.length_map, List.take_length]
          have ewo : wOf (zs.map (·.2)) key st = (es.map (·.2)).getLast? := by
            unfold wOf
            rw [← esn, hes, List.getLast?_map, List.getLast?_map, Option.map_map]
            rfl
          have h1E := sE _ _ (s2 _ _ h1)
          refine ⟨p1, D2, _, _, rfl, rfl, h1E, hD2, ?_, fun r nr => ?_⟩
          · rw [List.length_map] at hel
            rw [List.length_map]
            exact Nat.le_trans (show 1 + es.length ≤ 901 by omega) (by decide)
          · have sF := sC.trans (same_new (o := .lst ([V.non] ++ es.map (·.1))) sE nr)
            rcases last_of2 es with ⟨rfl, hv⟩ | ⟨e, hlast, hem, hv⟩
            · exact ⟨1, rfl, r, _, -1, _, rfl, rfl, SqL.of upd_same, hv, q _ none _ sF .non (fun x h => by cases h) (by rw [ewo]; rfl)⟩
            · exact ⟨1, rfl, r, _, -1, _, rfl, rfl, SqL.of upd_same, hv, q _ (some e.2) _ sF (dp_ext (LamX.ExtN.of (same_new (Same.refl HE) nr)) (he e hem).1) (fun x h => by cases h; exact (he e hem).2) (by rw [ewo, List.getLast?_map, hlast]; rfl)⟩

theorem ok_l_pairs {P : Program} {w : World} {K : PySem.W.Frag} {mg : Str → Option Value} {base : Heap} {a : Nat → Addr} {d : Nat → FuncData} (T : Txt K mg a d) : FnOk P w K mg base CX0 2 (a 30) (d 30) ["_law_state", "_law_some"] (spPairs K) := by
  refine T.F_l_pairs.ok sc_l_pairs (fun vs H Q E h => ?_) (fun cdv A outer s0 H vs Q E hr h => ?_)
  · obtain ⟨s, n, rfl, hs, n1, n2, q⟩ := h
    rfl
  · obtain ⟨s, n, rfl, hs, n1, n2, q⟩ := h
    refine ⟨_, (pss_cons (ps_set (i := 2) sc_l_pairs.nd rfl (Or.inl rfl) (pe_callB (SM.cr_sortedM rfl hr.units) (by rfl) T.z_sorted (by decide +kernel) (pa_cons (pe_callTy (SM.cr_setM rfl) (by rfl) T.z_set (by decide +kernel) (pa_cons (pe_lc (own := [("_law_turn", 3)]) (g := gName 3) (te := (tOp (rIxL K) (tLst (tCons (tC (.str "a")) (tCons (tC (.str "b")) (tCons (tC (.str "c")) (tCons (tC (.str "abcdef")) tNil))))) (tCall spTake [] E0 (tCons (tVar 0) (tCons (tC (.int 4)) tNil))))) (by rfl) sc_l_pairs.nd (pi_range1 (by rfl) T.z_range (pa_cons (pe_call (ok_l_take T) (hr.mono (by decide)) (by rfl) T.g_l_take T.F_l_take.kp T.b_l_take .nil pass0 (pa_cons (pv 0) (pa_cons (pv 1) pa_nil))) pa_nil)) (blkOk_by (own := [("_law_turn", 3)]) (N := ["_law_state", "_law_some", "_law_keys", "_law_turn", "_law_key", "_law_part"]) (sc := defScope s_l_pairs) (by decide +kernel)) (fun _ _ _ _ _ => (pg_name (i := 3) sc_l_pairs.nd rfl (.inl rfl))) (fun _ _ _ _ _ => pts_nil) (fun _ _ _ _ _ => (pe_ix ix_list (pe_lst (pa_cons pe_str (pa_cons pe_str (pa_cons pe_str (pa_cons pe_str pa_nil))))) (pe_call (ok_l_take T) (hr.mono (by decide)) (by rfl) T.g_l_take T.F_l_take.kp T.b_l_take .nil pass0 (pa_cons (pv 0) (pa_cons pe_int pa_nil))) (fun _ _ => rfl)))) pa_nil)) pa_nil))) (pss_one (ps_ret (pe_lc (own := [("_law_key", 4)]) (g := gName 4) (te := (tTup (tCons (tVar 4) (tCons (tCB (fun xs H Q => ∃ p ys, xs = [.ref p] ∧ ((SqL K H p ys ∧ ∀ l, H l = none → Q (.ref l) (upd H l (.tup ys))) ∨ (SqT K H p ys ∧ Q (.ref p) H))) (tCons (tLc (iRng1 (tCons (tOp (rI0 fun i j => .int (i + j)) (tC (.int 1)) (tCall spTake [] E0 (tCons (tVar 0) (tCons (tC (.int 3)) tNil)))) tNil)) (gName 5) tYes (tCall spTake [] E0 (tCons (tVar 0) (tCons (tC (.int 9)) tNil))) [5]) tNil)) tNil)))) (by rfl) sc_l_pairs.nd (pi_list (pv 2)) (blkOk_by (own := [("_law_key", 4)]) (N := ["_law_state", "_law_some", "_law_keys", "_law_turn", "_law_key", "_law_part"]) (sc := defScope s_l_pairs) (by decide +kernel)) (fun _ _ _ _ _ => (pg_name (i := 4) sc_l_pairs.nd rfl (.inl rfl))) (fun _ _ _ _ _ => pts_nil) (fun _ _ _ _ _ => (pe_tup (pa_cons (pv 4) (pa_cons (pe_callTy call_tuple_of (by rfl) T.z_tuple (by decide +kernel) (pa_cons (pe_lc (own := [("_law_part", 5)]) (g := gName 5) (te := (tCall spTake [] E0 (tCons (tVar 0) (tCons (tC (.int 9)) tNil)))) (by rfl) sc_l_pairs.nd (pi_range1 (by rfl) T.z_range (pa_cons (pe_op op_add pe_int (pe_call (ok_l_take T) (hr.mono (by decide)) (by rfl) T.g_l_take T.F_l_take.kp T.b_l_take .nil pass0 (pa_cons (pv 0) (pa_cons pe_int pa_nil)))) pa_nil)) (blkOk_by (own := [("_law_part", 5)]) (by rfl)) (fun _ _ _ _ _ => (pg_name (i := 5) sc_l_pairs.nd rfl (.inl rfl))) (fun _ _ _ _ _ => pts_nil) (fun _ _ _ _ _ => (pe_call (ok_l_take T) (hr.mono (by decide)) (by rfl) T.g_l_take T.F_l_take.kp T.b_l_take .nil pass0 (pa_cons (pv 0) (pa_cons pe_int pa_nil))))) pa_nil)) pa_nil)))))))), ?_⟩
    refine ⟨_, rfl, _, rfl, s, n, rfl, hs, by omega, by omega, fun r H1 r0 r1 k1 => ?_⟩
    have b62 : r < 2 ^ 62 := Int.lt_of_lt_of_le (show r < 100 by omega) (by decide)
    refine ⟨r, rfl, Int.le_trans (by decide) r0, b62, fun D nD => ?_⟩
    have hs1 := k1.2
    have Ds : D ≠ s := hs1.ne_new nD
    have nDH : H D = none := k1.free hs nD
    refine lc_range (lo := 0) (n := r.toNat) (fun i H' => Kp s H H' ∧ ∃ ks : List Str, H' D = some (.lst (ks.map V.str)) ∧ ks.length = i ∧ ∀ k ∈ ks, k ∈ abcd) ⟨k1.new nD, [], upd_same, rfl, fun k h => by cases h⟩ ?_ ?_
    · rintro i HA hi ⟨kA, ks, hD, hkl, hk⟩
      refine ⟨rfl, (by decide : 4 ≤ sizeLine), fun p np => ?_⟩
      have sA : Same HA (upd HA p (.lst [V.str "a", V.str "b", V.str "c", V.str "abcdef"])) := same_new (Same.refl HA) np
      have hp : (upd HA p (.lst [V.str "a", V.str "b", V.str "c", V.str "abcdef"])) p = some (.lst [V.str "a", V.str "b", V.str "c", V.str "abcdef"]) := upd_same
      have kB := kA.new (o := .lst [V.str "a", V.str "b", V.str "c", V.str "abcdef"]) np
      have ps : p ≠ s := kA.2.ne_new np
      generalize (upd HA p (.lst [V.str "a", V.str "b", V.str "c", V.str "abcdef"])) = HB at sA hp kB ⊢
      refine ⟨_, rfl, s, 4, rfl, kB.2, by decide, by decide, fun x HC x0 x1 kC => ?_⟩
      obtain ⟨k, hkm, hk2⟩ := abcd_at x0 x1
      have hDC := kC.lst Ds (sA _ _ hD)
      refine ⟨p, _, x, _, rfl, rfl, SqL.of (kC.lst ps hp), hk2, _, hDC, ?_, (kB.trans kC).put (ys := []) nDH Ds, ks ++ [k], by rw [upd_same, List.map_append]; rfl, by rw [List.length_append, hkl]; rfl, fun y hy => ?_⟩
      · rw [List.length_map, hkl]
        exact Nat.lt_of_lt_of_le (show i < 100 by omega) (by decide)
      · rcases List.mem_append.mp hy with hy | hy
        · exact hk y hy
        · cases List.mem_singleton.mp hy
          exact hkm
    · rintro HA ⟨kA, ks, hD, hkl, hk⟩
      refine ⟨D, ks.map Sum.inr, rfl, SqL.of (by rw [hD, List.map_map]; rfl), ?_, fun z S m nz g => ⟨z, S, m, ks, rfl, upd_same, ?_, ?_, ?_, ?_⟩⟩
      · rw [List.length_map]
        omega
      · have := g.le
        rw [List.length_map] at this
        omega
      · intro k h
        have := (g.mem k).mp h
        rw [List.take_length] at this
        exact this
      · intro x h
        refine (g.mem _).mpr ?_
        rw [List.take_length]
        exact List.mem_map_of_mem h
      · intro ys p nd hmem hlen np
        generalize SM.SetMO _ _ z S m = o at np ⊢
        have kZ := kA.new (o := o) nz
        generalize upd HA z o = HB at kZ np ⊢
        have kY := kZ.new (o := .lst (ys.map V.str)) np
        have ps : p ≠ s := kZ.2.ne_new np
        have hp : (upd HB p (.lst (ys.map V.str))) p = some (.lst (ys.map V.str)) := upd_same
        have npH : H p = none := kZ.free hs np
        generalize (upd HB p (.lst (ys.map V.str))) = HC at kY hp ⊢
        have y4 : ys.length ≤ 4 := nodup_le (m := abcd) nd fun x h => hk x ((hmem x).mp h)
        refine ⟨_, rfl, p, rfl, ⟨_, SqL.of hp⟩, fun D2 nD2 => ?_⟩
        have D2s : D2 ≠ s := kY.2.ne_new nD2
        have D2p : D2 ≠ p := (ne_of_none hp nD2).symm
        have nD2H : H D2 = none := kY.free hs nD2
        refine lc_list (K := K) (a := p) (xs := ys.map V.str) (fun j H' => Kp s H H' ∧ H' p = some (.lst (ys.map V.str)) ∧ ∃ bs : List (V × Str × List Int), H' D2 = some (.lst (bs.map (·.1))) ∧ (∀ b ∈ bs, Dp K H' b.1 (wpD b.2) ∧ wB 0 b.2.2) ∧ bs.map (·.2.1) = ys.take j) ⟨kY.new nD2, by rw [upd_ne D2p.symm]; exact hp, [], upd_same, (fun b h => by cases h), rfl⟩ (fun j H' _ z => SqL.of z.2.1) ?_ ?_
        · rintro j v HE hj ⟨kE, hpE, bs, hD2, hb, hbs⟩
          rw [List.getElem?_map] at hj
          cases ey : ys[j]? with
          | none => rw [ey] at hj; cases hj
          | some y =>
            rw [ey] at hj
            cases hj
            have hjl := (List.getElem?_eq_some_iff.mp ey).1
            refine ⟨rfl, _, rfl, _, rfl, s, 3, rfl, kE.2, by decide, by decide, fun x HF x0 x1 kF => ⟨1, x, rfl, rfl, 1 + x, rfl, Int.le_trans (by decide) (show (0 : Int) ≤ 1 + x by omega), Int.lt_of_lt_of_le (show 1 + x < 100 by omega) (by decide), fun D3 nD3 => ?_⟩⟩
            have kEF := kE.trans kF
            have D3s : D3 ≠ s := kF.2.ne_new nD3
            have nD3E : HE D3 = none := kF.free kE.2 nD3
            refine lc_range (lo := 0) (n := (1 + x).toNat) (fun i H' => Kp s HE H' ∧ ∃ w : List Int, H' D3 = some (.lst (w.map V.int)) ∧ w.length = i ∧ ∀ x ∈ w, Ib 0 x) ⟨kF.new nD3, [], upd_same, rfl, fun x h => by cases h⟩ ?_ ?_
            · rintro i HG hi ⟨kG, wi, hD3, hwl, hw⟩
              refine ⟨rfl, _, rfl, s, 9, rfl, kG.2, by decide, by decide, fun u HI u0 u1 kI => ?_⟩
              refine ⟨_, kI.lst D3s hD3, ?_, (kG.trans kI).put (ys := []) nD3E D3s, wi ++ [u], by rw [upd_same, List.map_append]; rfl, by rw [List.length_append, hwl]; rfl, fun y hy => ?_⟩
              · rw [List.length_map, hwl]
                exact Nat.lt_of_lt_of_le (show i < 100 by omega) (by decide)
              · rcases List.mem_append.mp hy with hy | hy
                · exact hw y hy
                · cases List.mem_singleton.mp hy
                  exact ⟨by omega, by omega⟩
            · rintro HG ⟨kG, wi, hD3, hwl, hw⟩
              refine ⟨D3, _, rfl, .inl ⟨SqL.of hD3, fun q1 nq => ⟨len2, fun q2 nq2 => ?_⟩⟩⟩
              have s1 : Same HG (upd HG q1 (.tup (wi.map V.int))) := same_new (Same.refl HG) nq
              have hq1 : (upd HG q1 (.tup (wi.map V.int))) q1 = some (.tup (wi.map V.int)) := upd_same
              generalize (upd HG q1 (.tup (wi.map V.int))) = HI at s1 hq1 nq2 ⊢
              have s2 : Same HI (upd HI q2 (.tup [V.str y, V.ref q1])) := same_new (Same.refl HI) nq2
              have hq2 : (upd HI q2 (.tup [V.str y, V.ref q1])) q2 = some (.tup [V.str y, V.ref q1]) := upd_same
              generalize (upd HI q2 (.tup [V.str y, V.ref q1])) = HJ at s2 hq2 ⊢
              have kJ := kG.step (s1.trans s2)
              have hD2J := kJ.lst D2s hD2
              have kpJ := kE.trans kJ
              refine ⟨_, hD2J, ?_, kpJ.put (ys := []) nD2H D2s, ?_, bs ++ [(V.ref q2, y, wi)], by rw [upd_same, List.map_append]; rfl, fun b hb' => ?_, ?_⟩
              · have := congrArg List.length hbs
                rw [List.length_map, List.length_take] at this
                rw [List.length_map]
                exact Nat.lt_of_lt_of_le (show bs.length < 100 by omega) (by decide)
              · rw [upd_ne D2p.symm]
                exact kJ.lst ps hpE
              · rcases List.mem_append.mp hb' with hb' | hb'
                · exact ⟨wp_put hD2J (wp_kp kE.2 kJ (hb b hb').1), (hb b hb').2⟩
                · cases List.mem_singleton.mp hb'
                  refine ⟨wp_put hD2J (.tup (SqT.of hq2) (.cons (.str _) (.cons (wo_dp (SqT.of (s2 _ _ hq1))) .nil))), ⟨?_, ?_⟩, hw⟩
                  · show 1 ≤ wi.length
                    omega
                  · show wi.length ≤ 4
                    omega
              · rw [List.map_append, hbs, List.take_add_one, ey]
                rfl
        · rintro HE ⟨kE, hpE, bs, hD2, hb, hbs⟩
          rw [List.length_map, List.take_length] at hbs
          have e1 : (bs.map (·.2)).map (·.1) = ys := by
            rw [List.map_map]
            exact hbs
          refine q D2 _ (bs.map (·.2)) HE kE nD2H hD2 (unsides fun b h => (hb b h).1) (by rw [e1]; exact nd) (by rw [← e1, List.length_map] at y4; exact y4) fun r hr => ?_
          obtain ⟨b, hbm, rfl⟩ := List.mem_map.mp hr
          refine ⟨abcd_kL _ (hk _ ((hmem _).mp ?_)), (hb b hbm).2⟩
          rw [← hbs]
          exact List.mem_map_of_mem (f := fun b : V × Str × List Int => b.2.1) hbm

theorem ok_l_made {P : Program} {w : World} {K : PySem.W.Frag} {mg : Str → Option Value} {base : Heap} {a : Nat → Addr} {d : Nat → FuncData} (T : Txt K mg a d) : FnOk P w K mg base CX0 3 (a 31) (d 31) ["_law_state", "_law_size"] (spMade K) := by
  refine T.F_l_made.ok sc_l_made (fun vs H Q E h => ?_) (fun cdv A outer s0 H vs Q E hr h => ?_)
  · obtain ⟨s, n, rfl, hs, n0, n6, q⟩ := h
    rfl
  · obtain ⟨s, n, rfl, hs, n0, n6, q⟩ := h
    refine ⟨_, (pss_cons (ps_set (i := 2) sc_l_made.nd rfl (Or.inr rfl) (pe_lst pa_nil)) (pss_cons (ps_set (i := 3) sc_l_made.nd rfl (Or.inr rfl) (pe_tup (pa_cons pe_int (pa_cons pe_int (pa_cons pe_int pa_nil))))) (pss_cons (ps_set (i := 4) sc_l_made.nd rfl (Or.inl rfl) pe_int) (pss_cons (ps_for PassesOwn.never rfl (pi_range1 (by rfl) T.z_range (pa_cons (pv 1) pa_nil)) (pg_name (i := 5) sc_l_made.nd rfl (.inl rfl)) (pss_cons (ps_set (i := 6) sc_l_made.nd rfl (Or.inl rfl) (pv 4)) (pss_cons (ps_set (i := 4) sc_l_made.nd rfl (Or.inl rfl) (pe_op op_add (pv 4) (pe_call (ok_l_take T) (hr.mono (by decide)) (by rfl) T.g_l_take T.F_l_take.kp T.b_l_take .nil pass0 (pa_cons (pv 0) (pa_cons pe_int pa_nil))))) (pss_cons (ps_set (i := 3) sc_l_made.nd rfl (Or.inr rfl) (pe_tup (pa_cons (pe_op op_add (pe_ix ix_tup (pv 3) pe_int (fun _ _ => rfl)) (pe_call (ok_l_take T) (hr.mono (by decide)) (by rfl) T.g_l_take T.F_l_take.kp T.b_l_take .nil pass0 (pa_cons (pv 0) (pa_cons pe_int pa_nil)))) (pa_cons (pe_op op_add (pe_ix ix_tup (pv 3) pe_int (fun _ _ => rfl)) pe_int) (pa_cons (pe_call (ok_l_take T) (hr.mono (by decide)) (by rfl) T.g_l_take T.F_l_take.kp T.b_l_take .nil pass0 (pa_cons (pv 0) (pa_cons pe_int pa_nil))) pa_nil))))) (pss_cons (ps_setLc (i := 7) (own := [("_law_key", 9), ("_law_worth", 10)]) (g := (gTup K 2 (gCons (gName 9) (gCons (gName 10) gNil)))) (te := (tTup (tCons (tVar 9) (tCons (tCall (spWorthOf K) [] E0 (tCons (tVar 2) (tCons (tVar 9) (tCons (tVar 3) tNil)))) tNil)))) (by rfl) sc_l_made.nd rfl rfl (sw_true rfl rfl rfl (by decide +kernel)) (pi_list (pe_call (ok_l_pairs T) (hr.mono (by decide)) (by rfl) T.g_l_pairs T.F_l_pairs.kp T.b_l_pairs .nil pass0 (pa_cons (pv 0) (pa_cons pe_int pa_nil)))) (blkOk_by (own := [("_law_key", 9), ("_law_worth", 10)]) (N := ["_law_state", "_law_size", "_law_deals", "_law_last", "_law_now", "_law_number", "_law_begun_here", "_law_reads_here", "_law_name", "_law_key", "_law_worth"]) (sc := defScope s_l_made) (by decide +kernel)) (fun _ _ _ _ _ => (pg_tup (by rfl) (pgs_cons (pg_name (i := 9) sc_l_made.nd rfl (.inl rfl)) (pgs_cons (pg_name (i := 10) sc_l_made.nd rfl (.inl rfl)) pgs_nil)))) (fun _ _ _ _ _ => pts_nil) (fun _ _ _ _ _ => (pe_tup (pa_cons (pv 9) (pa_cons (pe_call (ok_l_worth_of T) (hr.mono (by decide)) (by rfl) T.g_l_worth_of T.F_l_worth_of.kp T.b_l_worth_of .nil pass0 (pa_cons (pv 2) (pa_cons (pv 9) (pa_cons (pv 3) pa_nil)))) pa_nil))))) (pss_cons (ps_set (i := 8) sc_l_made.nd rfl (Or.inl rfl) (pe_op op_add (pe_op op_mul pe_int (pv 5)) (pe_call (ok_l_take T) (hr.mono (by decide)) (by rfl) T.g_l_take T.F_l_take.kp T.b_l_take .nil pass0 (pa_cons (pv 0) (pa_cons pe_int pa_nil))))) (pss_cons (ps_expr (pe_bm PySem.F.plainAttrs_list PySem.F.slot_list_append PySem.F.type_list_append mt_append (pv 2) (pa_cons (pe_tup (pa_cons pe_str (pa_cons (pv 8) (pa_cons (pv 6) (pa_cons (pv 4) (pa_cons (pv 3) (pa_cons (pv 7) (pa_cons (pe_call (ok_l_pairs T) (hr.mono (by decide)) (by rfl) T.g_l_pairs T.F_l_pairs.kp T.b_l_pairs .nil pass0 (pa_cons (pv 0) (pa_cons pe_int pa_nil))) pa_nil)))))))) pa_nil))) (pss_one (ps_set (i := 4) sc_l_made.nd rfl (Or.inl rfl) (pe_op op_add (pv 4) (pe_callB (call_max2 rfl) (by rfl) T.z_max (by decide +kernel) (pa_cons (pe_call (ok_l_take T) (hr.mono (by decide)) (by rfl) T.g_l_take T.F_l_take.kp T.b_l_take .nil pass0 (pa_cons (pv 0) (pa_cons pe_int pa_nil))) (pa_cons (pe_callTy call_int1 (by rfl) T.z_int (by decide +kernel) (pa_cons (pe_cmpR op_eq (pv 4) (pv 6) (nomark _)) pa_nil)) pa_nil))))))))))))) (pss_one (ps_ret (pv 2))))))), ?_⟩
    refine ⟨(by decide : 0 ≤ sizeLine), fun D nD => ?_⟩
    have Ds : D ≠ s := hs.ne_new nD
    have k1 := hs.kp.new (o := .lst []) nD
    have hD : (upd H D (.lst [])) D = some (.lst []) := upd_same
    generalize (upd H D (.lst [])) = H1 at k1 hD ⊢
    refine ⟨len3, fun lp nl => ?_⟩
    have k2 := k1.new (o := .tup [.int 0, .int 0, .int 0]) nl
    have hlp : (upd H1 lp (.tup [.int 0, .int 0, .int 0])) lp = some (.tup [.int 0, .int 0, .int 0]) := upd_same
    have hD : (upd H1 lp (.tup [.int 0, .int 0, .int 0])) D = some (.lst []) := same_new (Same.refl H1) nl _ _ hD
    generalize (upd H1 lp (.tup [.int 0, .int 0, .int 0])) = H2 at k2 hlp hD ⊢
    have n62 : n < 2 ^ 62 := Int.lt_of_lt_of_le (show n < 100 by omega) (by decide)
    refine ⟨_, rfl, n, rfl, Int.le_trans (by decide) n0, n62, ?_⟩
    refine for_range (fun i σ H' => Kp s H H' ∧ ∃ (zs : List (V × Deal)) (lp : Addr) (x y z now : Int), (∃ v5 v6 v7 v8 v9 v10, σ = [some (.ref s), some (.int n), some (.ref D), some (.ref lp), some (.int now), v5, v6, v7, v8, v9, v10]) ∧
      H' D = some (.lst (zs.map (·.1))) ∧ DsR K (mk [s, D] H') zs ∧ zs.length = i ∧ (∀ z ∈ zs, DB 0 z.2) ∧ H' lp = some (.tup [.int x, .int y, .int z]) ∧ (0 ≤ x ∧ x ≤ 4 * (i : Int)) ∧ y = (i : Int) ∧ (0 ≤ z ∧ z ≤ 3) ∧ (0 ≤ now ∧ now ≤ 3 * (i : Int)) ∧ Drn (i : Int) x now (zs.map (·.2))) ⟨k2, [], lp, 0, 0, 0, 0, ⟨none, none, none, none, none, none, rfl⟩, hD, (fun z h => by cases h), rfl, (fun z h => by cases h), hlp, ⟨by decide, by decide⟩, rfl, ⟨by decide, by decide⟩, ⟨by decide, by decide⟩, Drn.nil⟩ ?_ ?_
    · rintro i σ HA hi ⟨kA, zs, lp, x, y, z, now, ⟨v5, v6, v7, v8, v9, v10, rfl⟩, hD, hz, hzl, hzb, hlp, ⟨x0, x1⟩, rfl, ⟨z0, z1⟩, ⟨w0, w1⟩, drn⟩
      have hi' : (i : Int) < 6 := by omega
      have lps : lp ≠ s := kA.2.ne_tup hlp
      refine ⟨_, rfl, _, rfl, _, rfl, s, 3, rfl, kA.2, by decide, by decide, fun t1 HB t10 t11 kB => ⟨now, t1, rfl, rfl, ?_⟩⟩
      refine ⟨_, rfl, lp, _, 0, _, rfl, rfl, SqT.of (kB.1 _ _ lps hlp), atI_nat (j := 0) rfl, _, rfl, s, 4, rfl, kB.2, by decide, by decide, fun t2 HC t20 t21 kC => ⟨x, t2, rfl, rfl, ?_⟩⟩
      have kAC := kB.trans kC
      refine ⟨_, rfl, lp, _, 1, _, rfl, rfl, SqT.of (kAC.1 _ _ lps hlp), atI_nat (j := 1) rfl, (i : Int), 1, rfl, rfl, _, rfl, s, 4, rfl, kC.2, by decide, by decide, fun t3 HE t30 t31 kE => ⟨len3, fun t nt => ?_⟩⟩
      have kAE := (kAC.trans kE).new (o := .tup [.int (x + t2), .int ((i : Int) + 1), .int t3]) nt
      have ht : (upd HE t (.tup [.int (x + t2), .int ((i : Int) + 1), .int t3])) t = some (.tup [.int (x + t2), .int ((i : Int) + 1), .int t3]) := upd_same
      have ts : t ≠ s := kE.2.ne_new nt
      generalize (upd HE t (.tup [.int (x + t2), .int ((i : Int) + 1), .int t3])) = HF at kAE ht ⊢
      refine ⟨_, rfl, s, 4, rfl, kAE.2, by decide, by decide, fun p xs ws HG kG np hp hdp hnd hwl hwb => ?_⟩
      have kAG := kAE.trans kG
      have htG := kG.1 _ _ ts ht
      have hDG := kAG.lst Ds hD
      have hzG : DsAt K (mk [s, D] HG) zs := (hz.ext (xkp kAG (.head _))).at_
      obtain ⟨us, rfl, rfl, hus⟩ := sides hdp
      rw [List.length_map] at hwl
      refine ⟨p, rfl, ⟨_, SqL.of hp⟩, fun D3 nD3 => ?_⟩
      have D3s : D3 ≠ s := kG.2.ne_new nD3
      have D3D : D3 ≠ D := (ne_of_none hDG nD3).symm
      refine lc_list (K := K) (a := p) (xs := us.map (·.1)) (fun j H' => Same HG H' ∧ ∃ bs : List (V × Str × Option (List Int)), H' D3 = some (.lst (bs.map (·.1))) ∧ (∀ b ∈ bs, Dp K H' b.1 (rpD b.2) ∧ b.2.1 ∈ kL ∧ owB 0 b.2.2 ∧ b.2.2 = wOf (zs.map (·.2)) b.2.1 [x + t2, (i : Int) + 1, t3]) ∧ bs.length = j ∧ bs.map (·.2.1) = (us.take j).map (·.2.1)) ⟨same_new (Same.refl HG) nD3, [], upd_same, (fun b h => by cases h), rfl, rfl⟩ (fun j H' _ z => z.1.seq (SqL.of hp)) ?_ ?_
      · rintro j v HI hj ⟨sI, bs, hD3, hb, hbl, hbk⟩
        rw [List.getElem?_map] at hj
        cases eu : us[j]? with
        | none => rw [eu] at hj; cases hj
        | some u =>
          rw [eu] at hj
          cases hj
          have hjl := (List.getElem?_eq_some_iff.mp eu).1
          have hum := List.mem_of_getElem? eu
          obtain ⟨q', v', e1, hq', _⟩ := wp_at (hus u hum)
          refine ⟨q', _, e1, same_sqt sI hq', rfl, _, _, rfl, _, _, rfl, rfl, rfl, _, rfl, _, rfl, _, rfl, _, rfl, D, t, u.2.1, zs, [x + t2, (i : Int) + 1, t3], rfl, SqL.of (sI _ _ hDG), (fun z h => dp_ext (LamX.ExtN.of sI) (mk_out (hzG z h))), by omega, SqT.of (sI _ _ htG), fun v w HJ sJ hw hsrc hwo => ⟨len2, fun y ny => ?_⟩⟩
          have s3 : Same HJ (upd HJ y (.tup [.str u.2.1, v])) := same_new (Same.refl HJ) ny
          have hy : (upd HJ y (.tup [.str u.2.1, v])) y = some (.tup [.str u.2.1, v]) := upd_same
          generalize (upd HJ y (.tup [.str u.2.1, v])) = HL at s3 hy ⊢
          have hD3 := s3 _ _ (sJ _ _ hD3)
          have sL := sI.trans (sJ.trans s3)
          refine ⟨_, hD3, ?_, fun b o w => ?_, bs ++ [(.ref y, u.2.1, w)], by rw [upd_same, List.map_append]; rfl, fun b hb' => ?_, by rw [List.length_append, hbl]; rfl, by rw [List.map_append, hbk, List.take_add_one, eu, List.map_append]; rfl⟩
          · rw [List.length_map, hbl]
            exact Nat.lt_of_lt_of_le (show j < 100 by omega) (by decide)
          · rw [upd_ne (ne_of_none w nD3)]
            exact sL b o w
          · rcases List.mem_append.mp hb' with hb' | hb'
            · exact ⟨rp_put hD3 (dp_ext (LamX.ExtN.of (sJ.trans s3)) (hb b hb').1), (hb b hb').2⟩
            · cases List.mem_singleton.mp hb'
              refine ⟨rp_put hD3 (.tup (SqT.of hy) (.cons (.str _) (.cons (dp_ext (LamX.ExtN.of s3) hw) .nil))), (hwb u.2 (List.mem_map_of_mem hum)).1, ?_, hwo⟩
              show owB 0 w
              cases w with
              | none => trivial
              | some w =>
                obtain ⟨z, hz', p', hp', rfl⟩ := hsrc w rfl
                exact ((hzb z hz').ws p' hp').2
      · rintro HI ⟨sI, bs, hD3, hb, hbl, hbk⟩
        rw [List.length_map, List.take_length] at hbk
        rw [List.length_map] at hbl
        refine ⟨_, rfl, 10, (0 + (i : Int)), rfl, rfl, .inl (m64 (by decide) (by decide)), _, rfl, s, 9, rfl, (kG.step sI).2, by decide, by decide, fun t4 HJ t40 t41 kJ => ⟨10 * (0 + (i : Int)), t4, rfl, rfl, ?_⟩⟩
        have kAI := kAG.step sI
        have kAJ := kAI.trans kJ
        have hDJ := kAJ.lst Ds hD
        refine ⟨_, rfl, .inl ⟨rfl, _, SqL.of hDJ⟩, _, rfl, _, rfl, _, rfl, _, rfl, _, rfl, _, rfl, s, 4, rfl, kJ.2, by decide, by decide, fun p2 xs2 ws2 HL kL' np2 hp2 hdp2 hnd2 hwl2 hwb2 => ⟨(by decide : 7 ≤ sizeLine), fun r nr => ?_⟩⟩
        have kJL := kJ.trans kL'
        have kAL := kAJ.trans kL'
        have hDL := kAL.lst Ds hD
        have hD3L := kJL.lst D3s hD3
        have htL := kJL.1 _ _ ts (sI _ _ htG)
        have p2s : p2 ≠ s := kJ.2.ne_new np2
        have p2D : p2 ≠ D := (ne_of_none hDJ np2).symm
        have tD : t ≠ D := ne_of (sI _ _ htG) (sI _ _ hDG) (by intro z; cases z)
        have rs_ : r ≠ s := kL'.2.ne_new nr
        have rD : r ≠ D := (ne_of_none hDL nr).symm
        obtain ⟨rs2, ers⟩ : ∃ rs2, rs2 = bs.map (fun b : V × Str × Option (List Int) => b.2) := ⟨_, rfl⟩
        have hrp : DpAll K HL (bs.map (·.1)) (rs2.map rpD) := by
          rw [ers]
          exact unsides fun b h => rp_kp (kG.step sI).2 kJL (hb b h).1
        have hzL : DsR K (mk [s, D] HL) zs := hz.ext (xkp kAL (.head _))
        have s4 : Same HL (upd HL r (.tup [.str "dealing", .int (10 * (0 + (i : Int)) + t4), .int now, .int (now + t1), .ref t, .ref D3, .ref p2])) := same_new (Same.refl HL) nr
        have hr' : (upd HL r (.tup [.str "dealing", .int (10 * (0 + (i : Int)) + t4), .int now, .int (now + t1), .ref t, .ref D3, .ref p2])) r = some (.tup [.str "dealing", .int (10 * (0 + (i : Int)) + t4), .int now, .int (now + t1), .ref t, .ref D3, .ref p2]) := upd_same
        generalize hHM : (upd HL r (.tup [.str "dealing", .int (10 * (0 + (i : Int)) + t4), .int now, .int (now + t1), .ref t, .ref D3, .ref p2])) = HM at s4 hr'
        have kAM := kAL.step s4
        have hDM := s4 _ _ hDL
        have two := two_lst kAM.2 hDM
        have hzM : DsR K (mk [s, D] HM) zs := hzL.ext (xsm s4)
        have hnew : RwAt K (mk [s, D] HM) (.ref r) ⟨10 * (0 + (i : Int)) + t4, now, now + t1, x + t2, (i : Int) + 1, t3, rs2, ws2⟩ :=
          deal_rw (d := ⟨10 * (0 + (i : Int)) + t4, now, now + t1, x + t2, (i : Int) + 1, t3, rs2, ws2⟩) (mk_has hr' (not_two rs_ rD)) (mk_has (s4 _ _ htL) (not_two ts tD)) (mk_has (s4 _ _ hD3L) (not_two D3s D3D)) (dpall_mk (fun v p h => rp_mk two h) (dpall_ext (LamX.ExtN.of s4) hrp)) (mk_has (s4 _ _ hp2) (not_two p2s p2D)) (dpall_mk (fun v p h => wp_mk two h) (dpall_ext (LamX.ExtN.of s4) hdp2))
        have hdb : DB 0 ⟨10 * (0 + (i : Int)) + t4, now, now + t1, x + t2, (i : Int) + 1, t3, rs2, ws2⟩ := by
          refine ⟨⟨?_, ?_⟩, ⟨?_, ?_⟩, ⟨?_, ?_⟩, ⟨?_, ?_⟩, ⟨?_, ?_⟩, ⟨?_, ?_⟩, ?_, ?_, fun p h => ?_, fun p h => hwb2 p h⟩
          iterate 12 · dsimp only; omega
          · show rs2.length ≤ 4 + 0
            rw [ers, List.length_map]
            omega
          · show ws2.length ≤ 4 + 0
            omega
          · have h : p ∈ rs2 := h
            rw [ers] at h
            obtain ⟨b, hbm, rfl⟩ := List.mem_map.mp h
            exact ⟨(hb b hbm).2.1, (hb b hbm).2.2.1⟩
        have hkn : (rs2.map (·.1)).Nodup := by
          rw [ers, List.map_map]
          show (bs.map (·.2.1)).Nodup
          rw [hbk]
          rw [List.map_map] at hnd
          exact hnd
        have hro : ∀ p ∈ rs2, p.2 = wOf (zs.map (·.2)) p.1 [x + t2, (i : Int) + 1, t3] := fun p h => by
          rw [ers] at h
          obtain ⟨b, hbm, rfl⟩ := List.mem_map.mp h
          exact (hb b hbm).2.2.2
        refine ⟨D, _, .ref r, rfl, rfl, hDM, ?_, ?_⟩
        · rw [List.length_map]
          exact Nat.lt_of_lt_of_le (show zs.length < 100 by omega) (by decide)
        have kN := (kA.trans kAM).put (ys := []) (o := .lst (zs.map (·.1) ++ [.ref r])) nD Ds
        have hzN : DsR K (mk [s, D] (upd HM D (.lst (zs.map (·.1) ++ [.ref r])))) (zs ++ [(V.ref r, ⟨10 * (0 + (i : Int)) + t4, now, now + t1, x + t2, (i : Int) + 1, t3, rs2, ws2⟩)]) := fun z h => by
          rw [mk_upd (.tail _ (.head _))]
          rcases List.mem_append.mp h with h | h
          · exact hzM z h
          · cases List.mem_singleton.mp h
            exact hnew
        have hDN : (upd HM D (.lst (zs.map (·.1) ++ [.ref r]))) D = some (.lst (zs.map (·.1) ++ [.ref r])) := upd_same
        have htN : (upd HM D (.lst (zs.map (·.1) ++ [.ref r]))) t = some (.tup [.int (x + t2), .int ((i : Int) + 1), .int t3]) := by rw [upd_ne tD]; exact s4 _ _ htL
        generalize (upd HM D (.lst (zs.map (·.1) ++ [.ref r]))) = HN at kN hzN hDN htN ⊢
        refine ⟨_, rfl, _, rfl, s, 2, rfl, kN.2, by decide, by decide, fun t5 HO' t50 t51 kO => ⟨_, rfl, _, rfl, rfl, .inr ⟨_, rfl, t5, _, rfl, _, _, rfl, rfl, ?_⟩⟩⟩
        refine ⟨kN.trans kO, _, t, x + t2, (i : Int) + 1, t3, _, ⟨_, _, _, _, _, _, rfl⟩, (by rw [List.map_append]; exact kO.lst Ds hDN), hzN.ext (xkp kO (.head _)), by rw [List.length_append, hzl]; rfl, fun z h => ?_, kO.1 _ _ ts htN, ⟨by omega, by omega⟩, by omega, ⟨by omega, by omega⟩, ⟨?_, ?_⟩, ?_⟩
        · rcases List.mem_append.mp h with h | h
          · exact hzb z h
          · cases List.mem_singleton.mp h
            exact hdb
        · (repeat' split) <;> omega
        · (repeat' split) <;> omega
        · rw [List.map_append, show (((i + 1 : Nat)) : Int) = (i : Int) + 1 from rfl]
          refine drn.add (d := ⟨10 * (0 + (i : Int)) + t4, now, now + t1, x + t2, (i : Int) + 1, t3, rs2, ws2⟩) ?_ ?_ ?_ rfl (Int.le_refl _) ?_ ?_ ⟨?_, ?_⟩ hkn hnd2 hro
          · show 10 * (i : Int) ≤ 10 * (0 + (i : Int)) + t4
            omega
          · show 10 * (0 + (i : Int)) + t4 < 10 * ((i : Int) + 1)
            omega
          · show x ≤ x + t2
            omega
          · show now ≤ now + t1
            omega
          · show now < _
            have hd : decide ((fun i j : Int => V.int (i + j)) now t1 = V.int now) = decide (t1 = 0) := decide_eq_decide.mpr ⟨fun z => by have := V.int.inj z; omega, fun z => by subst z; exact congrArg V.int (Int.add_zero now)⟩
            by_cases c : t1 = 0
            · rw [hd, decide_eq_true c, if_pos (show true = true from rfl)]
              split <;> omega
            · rw [hd, decide_eq_false c, if_neg (show ¬ false = true by decide)]
              split <;> omega
          · show 0 ≤ (i : Int) + 1
            omega
          · show 0 ≤ t3
            omega
    · rintro σ HA ⟨kA, zs, lp, x, y, z, now, ⟨v5, v6, v7, v8, v9, v10, rfl⟩, hD, hz, hzl, hzb, _, _, _, _, _, drn⟩
      exact ⟨_, rfl, q D zs HA kA nD hD hz (by omega) hzb ⟨_, _, _, drn⟩⟩

theorem ok_l_reads {P : Program} {w : World} {K : PySem.W.Frag} {mg : Str → Option Value} {base : Heap} {a : Nat → Addr} {d : Nat → FuncData} (T : Txt K mg a d) : FnOk P w K mg base CX0 3 (a 32) (d 32) ["_law_state", "_law_deals", "_law_history_here"] (spReads K) := by
  refine T.F_l_reads.ok sc_l_reads (fun vs H Q E h => ?_) (fun cdv A outer s0 H vs Q E hr h => ?_)
  · obtain ⟨s, l, m, zs, bs, rfl, hs, hl, hz, hzl, hzb, hm, hb, hbl, hbb, q⟩ := h
    rfl
  · obtain ⟨s, l, m, zs, bs, rfl, hs, hl, hz, hzl, hzb, hm, hb, hbl, hbb, q⟩ := h
    refine ⟨_, (pss_cons (ps_set (i := 3) sc_l_reads.nd rfl (Or.inl rfl) (pe_lst pa_nil)) (pss_cons (ps_for PassesOwn.never rfl (pi_range1 (by rfl) T.z_range (pa_cons (pe_call (ok_l_take T) (hr.mono (by decide)) (by rfl) T.g_l_take T.F_l_take.kp T.b_l_take .nil pass0 (pa_cons (pv 0) (pa_cons pe_int pa_nil))) pa_nil)) (pg_name (i := 4) sc_l_reads.nd rfl (.inl rfl)) (pss_cons (ps_set (i := 5) sc_l_reads.nd rfl (Or.inl rfl) (pe_ix ix_list (pe_lst (pa_cons pe_str (pa_cons pe_str (pa_cons pe_str (pa_cons pe_str pa_nil))))) (pe_call (ok_l_take T) (hr.mono (by decide)) (by rfl) T.g_l_take T.F_l_take.kp T.b_l_take .nil pass0 (pa_cons (pv 0) (pa_cons pe_int pa_nil))) (fun _ _ => rfl))) (pss_cons (ps_set (i := 6) sc_l_reads.nd rfl (Or.inr rfl) (pe_call (ok_l_take T) (hr.mono (by decide)) (by rfl) T.g_l_take T.F_l_take.kp T.b_l_take .nil pass0 (pa_cons (pv 0) (pa_cons (pe_op op_add (pe_op op_mul pe_int (pe_callB call_len_seq (by rfl) T.z_len PySem.boot_len (pa_cons (pv 1) pa_nil))) pe_int) pa_nil)))) (pss_cons (ps_set (i := 7) sc_l_reads.nd rfl (Or.inl rfl) (pe_call (ok_l_worth_of T) (hr.mono (by decide)) (by rfl) T.g_l_worth_of T.F_l_worth_of.kp T.b_l_worth_of .nil pass0 (pa_cons (pv 1) (pa_cons (pv 5) (pa_cons (pe_tup (pa_cons (pe_op op_add (pv 6) pe_int) (pa_cons (pe_un un_neg pe_int) (pa_cons (pe_un un_neg pe_int) pa_nil)))) pa_nil))))) (pss_cons (ps_set (i := 7) sc_l_reads.nd rfl (Or.inl rfl) (pe_call (ok_l_formed T) (hr.mono (by decide)) (by rfl) T.g_l_formed T.F_l_formed.kp T.b_l_formed .nil pass0 (pa_cons (pv 7) (pa_cons (pe_call (ok_l_fields T) (hr.mono (by decide)) (by rfl) T.g_l_fields T.F_l_fields.kp T.b_l_fields .nil pass0 (pa_cons (pv 2) (pa_cons (pv 6) pa_nil))) pa_nil)))) (pss_cons (ps_set (i := 8) sc_l_reads.nd rfl (Or.inl rfl) (pe_ix ix_list (pe_lst (pa_cons pe_str (pa_cons pe_str pa_nil))) (pe_call (ok_l_take T) (hr.mono (by decide)) (by rfl) T.g_l_take T.F_l_take.kp T.b_l_take .nil pass0 (pa_cons (pv 0) (pa_cons pe_int pa_nil))) (fun _ _ => rfl))) (pss_cons (ps_set (i := 9) sc_l_reads.nd rfl (Or.inr rfl) (pe_call (ok_l_take T) (hr.mono (by decide)) (by rfl) T.g_l_take T.F_l_take.kp T.b_l_take .nil pass0 (pa_cons (pv 0) (pa_cons pe_int pa_nil)))) (pss_cons (ps_setLc (i := 10) (own := [("_law_one", 11)]) (g := gName 11) (te := (tVar 11)) (tt := (tAnd (tTest (tOp (rI0 fun i j => .bl (decide (i ≤ j))) (tOp (rIxT K) (tVar 11) (tC (.int 3))) (tVar 9))) (tTest (tOp (rI0 fun i j => .bl (decide (j < i))) (tOp (rIxT K) (tOp (rIxT K) (tVar 11) (tC (.int 4))) (tC (.int 0))) (tVar 6))))) (by rfl) sc_l_reads.nd rfl rfl (sw_true rfl rfl rfl (by decide +kernel)) (pi_list (pv 1)) (blkOk_by (own := [("_law_one", 11)]) (N := ["_law_state", "_law_deals", "_law_history_here", "_law_found", "_law_turn", "_law_key", "_law_time", "_law_worth", "_law_word", "_law_asked", "_law_late", "_law_one"]) (sc := defScope s_l_reads) (by decide +kernel)) (fun _ _ _ _ _ => (pg_name (i := 11) sc_l_reads.nd rfl (.inl rfl))) (fun _ _ _ _ _ => (pts_one (PW.pt (pw_and (pt_cmpR op_le (pe_ix ix_tup (pv 11) pe_int (fun _ _ => rfl)) (pv 9) (nomark _)) (pw_and1 (pt_cmpR op_gt (pe_ix ix_tup (pe_ix ix_tup (pv 11) pe_int (fun _ _ => rfl)) pe_int (fun _ _ => rfl)) (pv 6) (nomark _))))))) (fun _ _ _ _ _ => (pv 11))) (pss_cons (ps_if (PW.pt (pw_and (pt_cmpR op_eq (pv 8) pe_str (nomark _)) (pw_and1 (pt_cmpR (op_neD hr.units) (pv 10) (pe_lst pa_nil) (nomark _))))) (pss_one (ps_set (i := 8) sc_l_reads.nd rfl (Or.inl rfl) pe_str)) pss_nil) (pss_one (ps_expr (pe_bm PySem.F.plainAttrs_list PySem.F.slot_list_append PySem.F.type_list_append mt_append (pv 3) (pa_cons (pe_tup (pa_cons (pv 8) (pa_cons (pv 9) (pa_cons (pv 6) (pa_cons (pv 5) (pa_cons (pv 7) pa_nil)))))) pa_nil))))))))))))) (pss_one (ps_ret (pv 3))))), ?_⟩
    refine ⟨(by decide : 0 ≤ sizeLine), fun D nD => ?_⟩
    have Ds : D ≠ s := hs.ne_new nD
    have k1 := hs.kp.new (o := .lst []) nD
    have hD : (upd H D (.lst [])) D = some (.lst []) := upd_same
    generalize (upd H D (.lst [])) = H1 at k1 hD ⊢
    refine ⟨_, rfl, s, 4, rfl, k1.2, by decide, by decide, fun tn H2 tn0 tn1 k2 => ⟨tn, rfl, Int.le_trans (by decide) tn0, Int.lt_of_lt_of_le (show tn < 100 by omega) (by decide), ?_⟩⟩
    refine for_range (fun i σ H' => Kp s H H' ∧ ∃ (rs : List (V × Row)), (∃ v4 v5 v6 v7 v8 v9 v10 v11, σ = [some (.ref s), some (.ref l), some (.ref m), some (.ref D), v4, v5, v6, v7, v8, v9, v10, v11]) ∧
      H' D = some (.lst (rs.map (·.1))) ∧ RsR K (mk [s, D] H') rs ∧ rs.length = i ∧ (∀ r ∈ rs, RB 0 r.2) ∧ ∀ r ∈ rs, IsRd r.2 ∧ fitsB (bs.map (·.2)) (zs.map (·.2)) r.2 = true) ⟨k1.trans k2, [], ⟨none, none, none, none, none, none, none, none, rfl⟩, k2.lst Ds hD, (fun z h => by cases h), rfl, (fun z h => by cases h), (fun z h => by cases h)⟩ ?_ ?_
    · rintro i σ HA hi ⟨kA, rs, ⟨v4, v5, v6, v7, v8, v9, v10, v11, rfl⟩, hD, hrs, hrl, hrb, hrf⟩
      refine ⟨(by decide : 4 ≤ sizeLine), fun p np => ?_⟩
      have sB : Same HA (upd HA p (.lst [V.str "a", V.str "b", V.str "c", V.str "e"])) := same_new (Same.refl HA) np
      have hp : (upd HA p (.lst [V.str "a", V.str "b", V.str "c", V.str "e"])) p = some (.lst [V.str "a", V.str "b", V.str "c", V.str "e"]) := upd_same
      have ps : p ≠ s := kA.2.ne_new np
      generalize (upd HA p (.lst [V.str "a", V.str "b", V.str "c", V.str "e"])) = HB at sB hp ⊢
      have kAB := kA.2.kp.step sB
      refine ⟨_, rfl, s, 4, rfl, kAB.2, by decide, by decide, fun x HC x0 x1 kC => ?_⟩
      obtain ⟨key, hkm, hk2⟩ := abce_at x0 x1
      have kAC := kAB.trans kC
      refine ⟨p, _, x, _, rfl, rfl, SqL.of (kC.lst ps hp), hk2, ?_⟩
      have hlC := sqL_out (mk_sqL hl (.head _) (kA.trans kAC))
      have zl : ((zs.map (·.1)).length : Int) ≤ 6 := by rw [List.length_map]; omega
      refine ⟨_, rfl, _, rfl, l, _, rfl, .inl hlC, 3, _, rfl, rfl, .inl (m64 (by decide) (by decide)), _, 4, rfl, rfl, s, _, rfl, kAC.2, by omega, by omega, fun tm HE tm0 tm1 kE => ?_⟩
      have kAE := kAC.trans kE
      refine ⟨_, rfl, _, rfl, _, rfl, tm, 1, rfl, rfl, 1, rfl, 1, rfl, len3, fun t nt => ?_⟩
      have sF : Same HE (upd HE t (.tup [.int (tm + 1), .int (-1), .int (-1)])) := same_new (Same.refl HE) nt
      have ht : (upd HE t (.tup [.int (tm + 1), .int (-1), .int (-1)])) t = some (.tup [.int (tm + 1), .int (-1), .int (-1)]) := upd_same
      generalize (upd HE t (.tup [.int (tm + 1), .int (-1), .int (-1)])) = HF at sF ht ⊢
      have kAF := kAE.step sF
      have kHF := kA.trans kAF
      refine ⟨l, t, key, zs, [tm + 1, -1, -1], rfl, sqL_out (mk_sqL hl (.head _) kHF), (fun z h => mk_out (mk_kpD (hz z h) (.head _) kHF)), by omega, SqT.of ht, fun v w HG sG hw hsrc hwo => ?_⟩
      have kAG := kAF.step sG
      have kHG := kA.trans kAG
      have owb : owB 0 w := by
        cases w with
        | none => trivial
        | some w =>
          obtain ⟨z, hz', p', hp', rfl⟩ := hsrc w rfl
          exact ((hzb z hz').ws p' hp').2
      refine ⟨_, rfl, _, rfl, _, rfl, m, bs, tm, rfl, sqL_out (mk_sqL hm (.head _) kHG), (fun z h => mk_out (mk_kpD (hb z h) (.head _) kHG)), by omega, (fun b h t f e => ?_), fun f HI sI hf hfu => ?_⟩
      · have := hbb b h
        rw [e] at this
        exact this.2
      refine ⟨v, w, f, rfl, dp_ext (LamX.ExtN.of sI) hw, owB_good owb, hf, fun v' HJ sJ hw' => ?_⟩
      have kAJ := (kAG.step sI).step sJ
      have owb' : owB 0 (shp w f) := owB_shp owb hf
      have ew' : shp w f = shp (wOf (zs.map (·.2)) key [tm + 1, -1, -1]) (lastUp (formS (bs.map (·.2))) tm) := by rw [hwo, hfu]
      generalize shp w f = w' at hw' owb' ew'
      refine ⟨len2, fun p2 np2 => ?_⟩
      have sL : Same HJ (upd HJ p2 (.lst [V.str "read", V.str "now"])) := same_new (Same.refl HJ) np2
      have hp2 : (upd HJ p2 (.lst [V.str "read", V.str "now"])) p2 = some (.lst [V.str "read", V.str "now"]) := upd_same
      have p2s : p2 ≠ s := kAJ.2.ne_new np2
      generalize (upd HJ p2 (.lst [V.str "read", V.str "now"])) = HL at sL hp2 ⊢
      have kAL := kAJ.step sL
      have hw' := dp_ext (LamX.ExtN.of sL) hw'
      refine ⟨_, rfl, s, 2, rfl, kAL.2, by decide, by decide, fun x2 HM x20 x21 kM => ?_⟩
      obtain ⟨wd, hwd⟩ := rw_at x20 x21
      have kAM := kAL.trans kM
      refine ⟨p2, _, x2, _, rfl, rfl, SqL.of (kM.lst p2s hp2), hwd, ?_⟩
      have hw' := wo_kp kAL.2 kM hw'
      refine ⟨_, rfl, s, 9, rfl, kAM.2, by decide, by decide, fun ask HN ask0 ask1 kN => ?_⟩
      have hw' := wo_kp kAM.2 kN hw'
      have kAN := kAM.trans kN
      have kHN := kA.trans kAN
      have hlN := sqL_out (mk_sqL hl (.head _) kHN)
      have hzN : DsAt K HN zs := fun z h => mk_out (mk_kpD (hz z h) (.head _) kHN)
      have hDN := kAN.lst Ds hD
      have hrN : RsR K (mk [s, D] HN) rs := hrs.ext (xkp kAN (.head _))
      refine ⟨_, rfl, l, rfl, ⟨_, hlN⟩, fun D2 nD2 => ?_⟩
      refine lc_list (K := K) (a := l) (xs := zs.map (·.1)) (fun j H' => Same HN H' ∧ ∃ es : List (V × Deal), H' D2 = some (.lst (es.map (·.1))) ∧ (∀ e ∈ es, e ∈ zs) ∧ es.length ≤ j ∧ es = (zs.take j).filter fun z => decide (z.2.told ≤ ask) && decide (tm < z.2.s1)) ⟨same_new (Same.refl HN) nD2, [], upd_same, (fun b h => by cases h), Nat.le_refl _, rfl⟩ (fun j H' _ z => z.1.seq hlN) ?_ ?_
      · rintro j v0 HO' hj ⟨sO, es, hD2, he, hel, hes⟩
        have hjl := (List.getElem?_eq_some_iff.mp hj).1
        rw [List.length_map] at hjl
        rw [List.getElem?_map] at hj
        cases ez : zs[j]? with
        | none => rw [ez] at hj; cases hj
        | some z =>
          rw [ez] at hj
          cases hj
          have hzm := List.mem_of_getElem? ez
          obtain ⟨p0, ps0, rl, wl, xs, ys, A'⟩ := deal_at (dp_ext (LamX.ExtN.of sO) (hzN z hzm))
          have etk := filter_take0 (fun z : V × Deal => decide (z.2.told ≤ ask) && decide (tm < z.2.s1)) ez
          have no : (decide (z.2.told ≤ ask) && decide (tm < z.2.s1)) = false → Same HN HO' ∧ ∃ es : List (V × Deal), HO' D2 = some (.lst (es.map (·.1))) ∧ (∀ e ∈ es, e ∈ zs) ∧ es.length ≤ j + 1 ∧ es = (zs.take (j + 1)).filter fun z => decide (z.2.told ≤ ask) && decide (tm < z.2.s1) := fun en => ⟨sO, es, hD2, he, by omega, by rw [etk, if_neg (by rw [en]; decide), List.append_nil]; exact hes⟩
          refine ⟨rfl, _, rfl, p0, _, 3, _, A'.e, rfl, A'.row, atI_nat (j := 3) rfl, _, rfl, z.2.told, ask, rfl, rfl, _, rfl, ?_⟩
          by_cases c1 : z.2.told ≤ ask
          · refine iteDT c1 ⟨_, rfl, p0, _, 4, _, A'.e, rfl, A'.row, atI_nat (j := 4) rfl, ps0, _, 0, _, rfl, rfl, A'.st, atI_nat (j := 0) rfl, _, rfl, z.2.s1, tm, rfl, rfl, _, rfl, ?_⟩
            by_cases c2 : tm < z.2.s1
            · refine iteDT c2 ⟨_, rfl, _, hD2, ?_, fun b o w => ?_, es ++ [z], by rw [upd_same, List.map_append]; rfl, fun e he' => ?_, ?_⟩
              · rw [List.length_map]
                exact Nat.lt_of_lt_of_le (show es.length < 100 by omega) (by decide)
              · rw [upd_ne (ne_of_none w nD2)]
                exact sO b o w
              · rcases List.mem_append.mp he' with he' | he'
                · exact he e he'
                · cases List.mem_singleton.mp he'
                  exact hzm
              · exact ⟨by rw [List.length_append]; simp; exact hel, by rw [etk, if_pos (by rw [decide_eq_true c1, decide_eq_true c2]; rfl), ← hes]⟩
            · exact iteDF c2 (no (by rw [decide_eq_true c1, decide_eq_false c2]; rfl))
          · exact iteDF c1 (iteF (no (by rw [decide_eq_false c1]; rfl)))
      · rintro HO' ⟨sO, es, hD2, he, hel, hesf⟩
        rw [List.length_map, List.take_length] at hesf
        rw [List.length_map] at hel
        cases wd with
        | false =>
          refine ⟨_, rfl, rfl, _, rfl, iteDF (by decide +kernel) (iteF ?_)⟩
          have sG := sO
          generalize HO' = G at sG
          have hDG := sG _ _ hDN
          have kG := kAN.step sG
          have hw' := dp_ext (LamX.ExtN.of sG) hw'
          have hrG : RsR K (mk [s, D] G) rs := hrN.ext (xsm sG)
          refine ⟨_, rfl, .inl ⟨rfl, _, SqL.of hDG⟩, _, rfl, _, rfl, _, rfl, _, rfl, _, rfl, (by decide : 5 ≤ sizeLine), fun r nr => ?_⟩
          have rs_ : r ≠ s := kG.2.ne_new nr
          have rD : r ≠ D := (ne_of_none hDG nr).symm
          have s5 : Same G (upd G r (.tup [.str (rwName false), .int ask, .int tm, .str key, v'])) := same_new (Same.refl G) nr
          have hr' : (upd G r (.tup [.str (rwName false), .int ask, .int tm, .str key, v'])) r = some (.tup [.str (rwName false), .int ask, .int tm, .str key, v']) := upd_same
          have kX := kG.step s5
          have hDX := s5 _ _ hDG
          have two := two_lst kX.2 hDX
          have hnew : Dp K (mk [s, D] (upd G r (.tup [.str (rwName false), .int ask, .int tm, .str key, v']))) (.ref r) (Row.d (.read false ask tm key w')) :=
            .tup (SqT.of (mk_has hr' (not_two rs_ rD))) (.cons (.str _) (.cons (.int _) (.cons (.int _) (.cons (.str _) (.cons (ow_mk two (dp_ext (LamX.ExtN.of s5) hw')) .nil)))))
          have hrX : RsR K (mk [s, D] (upd G r (.tup [.str (rwName false), .int ask, .int tm, .str key, v']))) rs := hrG.ext (xsm s5)
          refine ⟨D, _, .ref r, rfl, rfl, hDX, ?_, ?_⟩
          · rw [List.length_map]
            exact Nat.lt_of_lt_of_le (show rs.length < 100 by omega) (by decide)
          have kY := (kA.trans kX).put (ys := []) (o := .lst (rs.map (·.1) ++ [.ref r])) nD Ds
          refine ⟨kY, rs ++ [(.ref r, .read false ask tm key w')], ⟨_, _, _, _, _, _, _, _, rfl⟩, by rw [List.map_append]; exact upd_same, fun z h => ?_, by rw [List.length_append, hrl]; rfl, fun z h => ?_, fun z h => ?_⟩
          · rw [mk_upd (.tail _ (.head _))]
            rcases List.mem_append.mp h with h | h
            · exact hrX z h
            · cases List.mem_singleton.mp h
              exact hnew
          · rcases List.mem_append.mp h with h | h
            · exact hrb z h
            · cases List.mem_singleton.mp h
              exact ⟨⟨by omega, by omega⟩, ⟨by omega, by omega⟩, abce_kL _ hkm, owb'⟩
          · rcases List.mem_append.mp h with h | h
            · exact hrf z h
            · cases List.mem_singleton.mp h
              refine ⟨⟨rfl, rfl, _, _, _, _, _, rfl⟩, ?_⟩
              exact fits_rd ew' (Bool.true_or _)
        | true =>
          refine ⟨_, rfl, rfl, _, rfl, iteDT rfl ⟨_, rfl, (by decide : 0 ≤ sizeLine), fun e ne => ?_⟩⟩
          have sG := sO.trans (same_new (o := .lst []) (Same.refl HO') ne)
          have hD2 := same_new (o := .lst []) (Same.refl HO') ne _ _ hD2
          have hE : (upd HO' e (.lst [])) e = some (.lst []) := upd_same
          generalize (upd HO' e (.lst [])) = G at sG hD2 hE ⊢
          have hes : DpAll K G (es.map (·.1)) ((es.map (·.2)).map Deal.d) := unsides fun b h => dp_ext (LamX.ExtN.of sG) (hzN b (he b h))
          have hn : Nc ((2600 + 1) * 6) 5 (.list ((es.map (·.2)).map Deal.d)) := nc_lst (k := 4) (fun d' hd' => by
            obtain ⟨x, hx, rfl⟩ := List.mem_map.mp hd'
            obtain ⟨y, hy, rfl⟩ := List.mem_map.mp hx
            exact nc_row (r := .deal y.2) (m := 0) (hzb y (he y hy)) (by decide)) (by rw [List.length_map, List.length_map]; omega)
          refine ⟨_, .list [], .lst (SqL.of hD2) hes, .lst (SqL.of hE) .nil, hn.shaped (by decide), rfl, _, rfl, ?_⟩
          rw [deals_eq_nil]
          cases cl : es.isEmpty with
          | true =>
            refine iteF ?_
            have hDG := sG _ _ hDN
            have kG := kAN.step sG
            have hw' := dp_ext (LamX.ExtN.of sG) hw'
            have hrG : RsR K (mk [s, D] G) rs := hrN.ext (xsm sG)
            refine ⟨_, rfl, .inl ⟨rfl, _, SqL.of hDG⟩, _, rfl, _, rfl, _, rfl, _, rfl, _, rfl, (by decide : 5 ≤ sizeLine), fun r nr => ?_⟩
            have rs_ : r ≠ s := kG.2.ne_new nr
            have rD : r ≠ D := (ne_of_none hDG nr).symm
            have s5 : Same G (upd G r (.tup [.str (rwName true), .int ask, .int tm, .str key, v'])) := same_new (Same.refl G) nr
            have hr' : (upd G r (.tup [.str (rwName true), .int ask, .int tm, .str key, v'])) r = some (.tup [.str (rwName true), .int ask, .int tm, .str key, v']) := upd_same
            have kX := kG.step s5
            have hDX := s5 _ _ hDG
            have two := two_lst kX.2 hDX
            have hnew : Dp K (mk [s, D] (upd G r (.tup [.str (rwName true), .int ask, .int tm, .str key, v']))) (.ref r) (Row.d (.read true ask tm key w')) :=
              .tup (SqT.of (mk_has hr' (not_two rs_ rD))) (.cons (.str _) (.cons (.int _) (.cons (.int _) (.cons (.str _) (.cons (ow_mk two (dp_ext (LamX.ExtN.of s5) hw')) .nil)))))
            have hrX : RsR K (mk [s, D] (upd G r (.tup [.str (rwName true), .int ask, .int tm, .str key, v']))) rs := hrG.ext (xsm s5)
            refine ⟨D, _, .ref r, rfl, rfl, hDX, ?_, ?_⟩
            · rw [List.length_map]
              exact Nat.lt_of_lt_of_le (show rs.length < 100 by omega) (by decide)
            have kY := (kA.trans kX).put (ys := []) (o := .lst (rs.map (·.1) ++ [.ref r])) nD Ds
            refine ⟨kY, rs ++ [(.ref r, .read true ask tm key w')], ⟨_, _, _, _, _, _, _, _, rfl⟩, by rw [List.map_append]; exact upd_same, fun z h => ?_, by rw [List.length_append, hrl]; rfl, fun z h => ?_, fun z h => ?_⟩
            · rw [mk_upd (.tail _ (.head _))]
              rcases List.mem_append.mp h with h | h
              · exact hrX z h
              · cases List.mem_singleton.mp h
                exact hnew
            · rcases List.mem_append.mp h with h | h
              · exact hrb z h
              · cases List.mem_singleton.mp h
                exact ⟨⟨by omega, by omega⟩, ⟨by omega, by omega⟩, abce_kL _ hkm, owb'⟩
            · rcases List.mem_append.mp h with h | h
              · exact hrf z h
              · cases List.mem_singleton.mp h
                refine ⟨⟨rfl, rfl, _, _, _, _, _, rfl⟩, ?_⟩
                exact fits_rd ew' (by rw [lack_no hesf cl]; rfl)
          | false =>
            refine iteT ?_
            have hDG := sG _ _ hDN
            have kG := kAN.step sG
            have hw' := dp_ext (LamX.ExtN.of sG) hw'
            have hrG : RsR K (mk [s, D] G) rs := hrN.ext (xsm sG)
            refine ⟨_, rfl, .inl ⟨rfl, _, SqL.of hDG⟩, _, rfl, _, rfl, _, rfl, _, rfl, _, rfl, (by decide : 5 ≤ sizeLine), fun r nr => ?_⟩
            have rs_ : r ≠ s := kG.2.ne_new nr
            have rD : r ≠ D := (ne_of_none hDG nr).symm
            have s5 : Same G (upd G r (.tup [.str (rwName false), .int ask, .int tm, .str key, v'])) := same_new (Same.refl G) nr
            have hr' : (upd G r (.tup [.str (rwName false), .int ask, .int tm, .str key, v'])) r = some (.tup [.str (rwName false), .int ask, .int tm, .str key, v']) := upd_same
            have kX := kG.step s5
            have hDX := s5 _ _ hDG
            have two := two_lst kX.2 hDX
            have hnew : Dp K (mk [s, D] (upd G r (.tup [.str (rwName false), .int ask, .int tm, .str key, v']))) (.ref r) (Row.d (.read false ask tm key w')) :=
              .tup (SqT.of (mk_has hr' (not_two rs_ rD))) (.cons (.str _) (.cons (.int _) (.cons (.int _) (.cons (.str _) (.cons (ow_mk two (dp_ext (LamX.ExtN.of s5) hw')) .nil)))))
            have hrX : RsR K (mk [s, D] (upd G r (.tup [.str (rwName false), .int ask, .int tm, .str key, v']))) rs := hrG.ext (xsm s5)
            refine ⟨D, _, .ref r, rfl, rfl, hDX, ?_, ?_⟩
            · rw [List.length_map]
              exact Nat.lt_of_lt_of_le (show rs.length < 100 by omega) (by decide)
            have kY := (kA.trans kX).put (ys := []) (o := .lst (rs.map (·.1) ++ [.ref r])) nD Ds
            refine ⟨kY, rs ++ [(.ref r, .read false ask tm key w')], ⟨_, _, _, _, _, _, _, _, rfl⟩, by rw [List.map_append]; exact upd_same, fun z h => ?_, by rw [List.length_append, hrl]; rfl, fun z h => ?_, fun z h => ?_⟩
            · rw [mk_upd (.tail _ (.head _))]
              rcases List.mem_append.mp h with h | h
              · exact hrX z h
              · cases List.mem_singleton.mp h
                exact hnew
            · rcases List.mem_append.mp h with h | h
              · exact hrb z h
              · cases List.mem_singleton.mp h
                exact ⟨⟨by omega, by omega⟩, ⟨by omega, by omega⟩, abce_kL _ hkm, owb'⟩
            · rcases List.mem_append.mp h with h | h
              · exact hrf z h
              · cases List.mem_singleton.mp h
                refine ⟨⟨rfl, rfl, _, _, _, _, _, rfl⟩, ?_⟩
                exact fits_rd ew' (Bool.true_or _)
    · rintro σ HA ⟨kA, rs, ⟨v4, v5, v6, v7, v8, v9, v10, v11, rfl⟩, hD, hrs, hrl, hrb, hrf⟩
      exact ⟨_, rfl, q D rs HA kA nD hD hrs (by omega) hrb hrf⟩

theorem ok_l_history {P : Program} {w : World} {K : PySem.W.Frag} {mg : Str → Option Value} {base : Heap} {a : Nat → Addr} {d : Nat → FuncData} (T : Txt K mg a d) : FnOk P w K mg base CX0 4 (a 33) (d 33) ["_law_state"] (spHist K) := by
  refine T.F_l_history.ok sc_l_history (fun vs H Q E h => ?_) (fun cdv A outer s0 H vs Q E hr h => ?_)
  · obtain ⟨s, rfl, hs, q⟩ := h
    rfl
  · obtain ⟨s, rfl, hs, q⟩ := h
    refine ⟨_, (pss_cons (ps_set (i := 1) sc_l_history.nd rfl (Or.inl rfl) (pe_call (ok_l_made T) (hr.mono (by decide)) (by rfl) T.g_l_made T.F_l_made.kp T.b_l_made .nil pass0 (pa_cons (pv 0) (pa_cons (pe_call (ok_l_take T) (hr.mono (by decide)) (by rfl) T.g_l_take T.F_l_take.kp T.b_l_take .nil pass0 (pa_cons (pv 0) (pa_cons pe_int pa_nil))) pa_nil)))) (pss_cons (ps_set (i := 2) sc_l_history.nd rfl (Or.inl rfl) (pe_lst pa_nil)) (pss_cons (ps_for PassesOwn.never rfl (pi_range1 (by rfl) T.z_range (pa_cons (pe_call (ok_l_take T) (hr.mono (by decide)) (by rfl) T.g_l_take T.F_l_take.kp T.b_l_take .nil pass0 (pa_cons (pv 0) (pa_cons pe_int pa_nil))) pa_nil)) (pg_name (i := 3) sc_l_history.nd rfl (.inl rfl)) (pss_one (ps_expr (pe_bm PySem.F.plainAttrs_list PySem.F.slot_list_append PySem.F.type_list_append mt_append (pv 2) (pa_cons (pe_tup (pa_cons pe_str (pa_cons (pe_call (ok_l_take T) (hr.mono (by decide)) (by rfl) T.g_l_take T.F_l_take.kp T.b_l_take .nil pass0 (pa_cons (pv 0) (pa_cons pe_int pa_nil))) (pa_cons (pe_op op_add pe_int (pe_call (ok_l_take T) (hr.mono (by decide)) (by rfl) T.g_l_take T.F_l_take.kp T.b_l_take .nil pass0 (pa_cons (pv 0) (pa_cons pe_int pa_nil)))) pa_nil)))) pa_nil))))) (pss_cons (ps_set (i := 4) sc_l_history.nd rfl (Or.inl rfl) (pe_op op_cat (pv 1) (pv 2))) (pss_cons (ps_set (i := 4) sc_l_history.nd rfl (Or.inl rfl) (pe_op op_cat (pv 4) (pe_call (ok_l_reads T) (hr.mono (by decide)) (by rfl) T.g_l_reads T.F_l_reads.kp T.b_l_reads .nil pass0 (pa_cons (pv 0) (pa_cons (pv 1) (pa_cons (pv 4) pa_nil)))))) (pss_one (ps_ret (pe_ix ix_list (pe_lst (pa_cons (pv 4) (pa_cons (pe_op op_cat (pe_op op_cat (pv 2) (pv 1)) (pe_slice sl_list (pv 4) (po_some (pe_op op_add (pe_callB call_len_seq (by rfl) T.z_len PySem.boot_len (pa_cons (pv 1) pa_nil)) (pe_callB call_len_seq (by rfl) T.z_len PySem.boot_len (pa_cons (pv 2) pa_nil)))) po_none)) pa_nil))) (pe_call (ok_l_take T) (hr.mono (by decide)) (by rfl) T.g_l_take T.F_l_take.kp T.b_l_take .nil pass0 (pa_cons (pv 0) (pa_cons pe_int pa_nil))) (fun _ _ => rfl))))))))), ?_⟩
    refine ⟨_, rfl, _, rfl, s, 7, rfl, hs, by decide, by decide, fun x H1 x0 x1 k1 => ⟨s, x, rfl, k1.2, x0, by omega, fun p1 zs H2 k2 np1 hp1 hz hzl hzb hdr => ?_⟩⟩
    have k02 := k1.trans k2
    have p1s : p1 ≠ s := by
      intro e
      obtain ⟨_, _, _, z, _⟩ := k1.2
      rw [← e, np1] at z
      cases z
    have hz : DsR K (mk [s] H2) zs := hz.ext (xlt sub_two')
    refine ⟨(by decide : 0 ≤ sizeLine), fun p2 np2 => ?_⟩
    have p2s : p2 ≠ s := k2.2.ne_new np2
    have np2H : H p2 = none := k02.free hs np2
    have s3 : Same H2 (upd H2 p2 (.lst [])) := same_new (Same.refl H2) np2
    have hp2 : (upd H2 p2 (.lst [])) p2 = some (.lst []) := upd_same
    generalize (upd H2 p2 (.lst [])) = H3 at s3 hp2 ⊢
    have k03 := k02.step s3
    have p12 : p1 ≠ p2 := ne_of_none hp1 np2
    refine ⟨_, rfl, s, 3, rfl, k03.2, by decide, by decide, fun tn H4 tn0 tn1 k4 => ⟨tn, rfl, Int.le_trans (by decide) tn0, Int.lt_of_lt_of_le (show tn < 100 by omega) (by decide), ?_⟩⟩
    refine for_range (fun i σ H' => Kp s H H' ∧ H' p1 = some (.lst (zs.map (·.1))) ∧ DsR K (mk [p2, s] H') zs ∧ ∃ (fs : List (V × Row)), (∃ v3 v4, σ = [some (.ref s), some (.ref p1), some (.ref p2), v3, v4]) ∧
      H' p2 = some (.lst (fs.map (·.1))) ∧ RsR K (mk [p2, s] H') fs ∧ fs.length = i ∧ (∀ r ∈ fs, RB 0 r.2) ∧ ∀ r ∈ fs, IsFm r.2) ⟨k03.trans k4, k4.lst p1s (s3 _ _ hp1), ((hz.ext (xmo np2)).ext (xsm s3)).ext (xkp k4 in_two), [], ⟨none, none, rfl⟩, k4.lst p2s hp2, (fun z h => by cases h), rfl, (fun z h => by cases h), (fun z h => by cases h)⟩ ?_ ?_
    · rintro i σ HA hi ⟨kA, h1, hzA, fs, ⟨v3, v4, rfl⟩, h2, hfs, hfl, hfb, hff⟩
      refine ⟨_, rfl, .inl ⟨rfl, _, SqL.of h2⟩, _, rfl, s, 14, rfl, kA.2, by decide, by decide, fun t1 HB t10 t11 kB => ⟨_, rfl, s, 4, rfl, kB.2, by decide, by decide, fun t2 HC t20 t21 kC => ⟨1, t2, rfl, rfl, len3, fun r nr => ?_⟩⟩⟩
      have kAC := kB.trans kC
      have h1 := kAC.lst p1s h1
      have h2 := kAC.lst p2s h2
      have hzA := hzA.ext (xkp kAC in_two)
      have hfs := hfs.ext (xkp kAC in_two)
      have rs_ : r ≠ s := kC.2.ne_new nr
      have rD : r ≠ p2 := (ne_of_none h2 nr).symm
      have s5 : Same HC (upd HC r (.tup [.str "form", .int t1, .int (1 + t2)])) := same_new (Same.refl HC) nr
      have hr' : (upd HC r (.tup [.str "form", .int t1, .int (1 + t2)])) r = some (.tup [.str "form", .int t1, .int (1 + t2)]) := upd_same
      generalize (upd HC r (.tup [.str "form", .int t1, .int (1 + t2)])) = HD at s5 hr' ⊢
      have h1 := s5 _ _ h1
      have h2 := s5 _ _ h2
      have hzA := hzA.ext (xsm s5)
      have hfs := hfs.ext (xsm s5)
      have kX := (kA.trans kAC).step s5
      refine ⟨p2, _, .ref r, rfl, rfl, h2, ?_, ?_⟩
      · rw [List.length_map]
        exact Nat.lt_of_lt_of_le (show fs.length < 100 by omega) (by decide)
      have kY := kX.put (ys := []) (o := .lst (fs.map (·.1) ++ [.ref r])) np2H p2s
      refine ⟨kY, by rw [upd_ne p12]; exact h1, hzA.ext (xpu (.head _)), fs ++ [(.ref r, .form t1 (1 + t2))], ⟨_, _, rfl⟩, by rw [List.map_append]; exact upd_same, fun z h => ?_, by rw [List.length_append, hfl]; rfl, fun z h => ?_, fun z h => ?_⟩
      · rw [mk_upd (.head _)]
        rcases List.mem_append.mp h with h | h
        · exact hfs z h
        · cases List.mem_singleton.mp h
          exact .tup (SqT.of (mk_has hr' (not_two rD rs_))) (.cons (.str _) (.cons (.int _) (.cons (.int _) .nil)))
      · rcases List.mem_append.mp h with h | h
        · exact hfb z h
        · cases List.mem_singleton.mp h
          exact ⟨⟨by omega, by omega⟩, by omega, by omega⟩
      · rcases List.mem_append.mp h with h | h
        · exact hff z h
        · cases List.mem_singleton.mp h
          exact ⟨_, _, rfl⟩
    · rintro σ HA ⟨kA, h1, hzA, fs, ⟨v3, v4, rfl⟩, h2, hfs, hfl, hfb, hff⟩
      have hfl : fs.length ≤ 2 := by omega
      refine ⟨_, rfl, _, rfl, p1, p2, _, _, rfl, rfl, h1, h2, ?_, fun r1 nr1 => ?_⟩
      · rw [List.length_map, List.length_map]
        exact Nat.le_trans (show zs.length + fs.length ≤ 8 by omega) (by decide)
      have r1s : r1 ≠ s := kA.2.ne_new nr1
      have nr1H : H r1 = none := kA.free hs nr1
      have s5 : Same HA (upd HA r1 (.lst (zs.map (·.1) ++ fs.map (·.1)))) := same_new (Same.refl HA) nr1
      have hr1 : (upd HA r1 (.lst (zs.map (·.1) ++ fs.map (·.1)))) r1 = some (.lst (zs.map (·.1) ++ fs.map (·.1))) := upd_same
      generalize (upd HA r1 (.lst (zs.map (·.1) ++ fs.map (·.1)))) = HB at s5 hr1 ⊢
      obtain ⟨bs, ebs⟩ : ∃ bs, bs = zs.map zrow ++ fs := ⟨_, rfl⟩
      have e1 : zs.map (·.1) ++ fs.map (·.1) = bs.map (·.1) := by rw [ebs, List.map_append, zrow_fst]
      rw [e1] at hr1
      have kB := kA.step s5
      have h1 := s5 _ _ h1
      have h2 := s5 _ _ h2
      have hzB : DsR K (mk [s] HB) zs := (hzA.ext (xlt sub_two)).ext (xsm s5)
      have hfB : RsR K (mk [s] HB) fs := (hfs.ext (xlt sub_two)).ext (xsm s5)
      have hbB : RsR K (mk [s] HB) bs := by rw [ebs]; exact rs_app (rs_zrow hzB) hfB
      have hbb : ∀ b ∈ bs, RB 0 b.2 := by rw [ebs]; exact rb_app (rb_zrow hzb) hfb
      have hbl : bs.length ≤ 8 := by
        rw [ebs, List.length_append, List.length_map]
        omega
      refine ⟨_, rfl, _, rfl, _, rfl, _, rfl, s, p1, r1, zs, bs, rfl, kB.2, SqL.of (mk_has h1 (not_one p1s)), hzB.at_, hzl, hzb, SqL.of (mk_has hr1 (not_one r1s)), hbB.at_, hbl, hbb, fun p3 rs HC kC np3 hp3 hrs hrl hrb hrf => ⟨r1, p3, _, _, rfl, rfl, kC.lst r1s hr1, hp3, ?_, fun r2 nr2 => ?_⟩⟩
      · rw [List.length_map, List.length_map]
        exact Nat.le_trans (show bs.length + rs.length ≤ 11 by omega) (by decide)
      have hrs : RsR K (mk [s] HC) rs := hrs.ext (xlt sub_two')
      have h1 := kC.lst p1s h1
      have h2 := kC.lst p2s h2
      have hzC := hzB.ext (xkp kC (.head _))
      have hfC := hfB.ext (xkp kC (.head _))
      have hbC := hbB.ext (xkp kC (.head _))
      have kAC := kB.trans kC
      have r2s : r2 ≠ s := kC.2.ne_new nr2
      have nr2H : H r2 = none := kAC.free hs nr2
      have s6 : Same HC (upd HC r2 (.lst (bs.map (·.1) ++ rs.map (·.1)))) := same_new (Same.refl HC) nr2
      have hr2 : (upd HC r2 (.lst (bs.map (·.1) ++ rs.map (·.1)))) r2 = some (.lst (bs.map (·.1) ++ rs.map (·.1))) := upd_same
      generalize (upd HC r2 (.lst (bs.map (·.1) ++ rs.map (·.1)))) = HD at s6 hr2 ⊢
      rw [← List.map_append] at hr2
      have kD := kAC.step s6
      have h1 := s6 _ _ h1
      have h2 := s6 _ _ h2
      have hzD := hzC.ext (xsm s6)
      have hfD := hfC.ext (xsm s6)
      have hcD : RsR K (mk [s] HD) (bs ++ rs) := rs_app (hbC.ext (xsm s6)) (hrs.ext (xsm s6))
      have hcb : ∀ b ∈ bs ++ rs, RB 0 b.2 := rb_app hbb hrb
      have hcl : (bs ++ rs).length ≤ 11 := by
        rw [List.length_append]
        omega
      have hcm : (bs ++ rs).length ≤ zs.length + fs.length + 3 := by
        rw [List.length_append, ebs, List.length_append, List.length_map]
        omega
      obtain ⟨dn, dx, dw, drn⟩ := hdr
      have hok1 : HistOk ((bs ++ rs).map (·.2)) := hist_of (fs := fs) (rs := rs) drn hff (by rw [← ebs]; exact hrf) (.inl (by rw [ebs]))
      have hok2 : HistOk ((fs ++ zs.map zrow ++ (bs ++ rs).drop (zs.length + fs.length)).map (·.2)) := hist_of (fs := fs) (rs := rs) drn hff (by rw [← ebs]; exact hrf) (.inr (by
        have e3 : zs.length + fs.length = bs.length := by rw [ebs, List.length_append, List.length_map]
        rw [e3, List.drop_left]))
      generalize bs ++ rs = cs at hr2 hcD hcb hcl hcm hok1 hok2
      refine ⟨_, rfl, _, rfl, _, rfl, p2, p1, _, _, rfl, rfl, h2, h1, ?_, fun r3 nr3 => ?_⟩
      · rw [List.length_map, List.length_map]
        exact Nat.le_trans (show fs.length + zs.length ≤ 8 by omega) (by decide)
      have s7 : Same HD (upd HD r3 (.lst (fs.map (·.1) ++ zs.map (·.1)))) := same_new (Same.refl HD) nr3
      have hr3 : (upd HD r3 (.lst (fs.map (·.1) ++ zs.map (·.1)))) r3 = some (.lst (fs.map (·.1) ++ zs.map (·.1))) := upd_same
      generalize (upd HD r3 (.lst (fs.map (·.1) ++ zs.map (·.1)))) = HE at s7 hr3 ⊢
      have h1 := s7 _ _ h1
      have h2 := s7 _ _ h2
      have hr2 := s7 _ _ hr2
      refine ⟨_, rfl, _, rfl, p1, _, rfl, .inl (SqL.of h1), _, rfl, p2, _, rfl, .inl (SqL.of h2), _, _, rfl, rfl, _, rfl, r2, _, rfl, SqL.of hr2, fun p4 np4 => ?_⟩
      have el : ((zs.map (·.1)).length : Int) + ((fs.map (·.1)).length : Int) = ((zs.length + fs.length : Nat) : Int) := by
        rw [List.length_map, List.length_map]
        omega
      rw [el, cut_from, ← List.map_drop]
      have hsub : ∀ b ∈ cs.drop (zs.length + fs.length), b ∈ cs := fun b hb => List.mem_of_mem_drop hb
      have hlen : (cs.drop (zs.length + fs.length)).length = cs.length - (zs.length + fs.length) := List.length_drop
      generalize cs.drop (zs.length + fs.length) = ds at hsub hlen hok2 ⊢
      have s8 : Same HE (upd HE p4 (.lst (ds.map (·.1)))) := same_new (Same.refl HE) np4
      have hp4 : (upd HE p4 (.lst (ds.map (·.1)))) p4 = some (.lst (ds.map (·.1))) := upd_same
      generalize (upd HE p4 (.lst (ds.map (·.1)))) = HF at s8 hp4 ⊢
      have hr3 := s8 _ _ hr3
      have hr2 := s8 _ _ hr2
      have e2 : fs.map (·.1) ++ zs.map (·.1) ++ ds.map (·.1) = (fs ++ zs.map zrow ++ ds).map (·.1) := by rw [List.map_append, List.map_append, zrow_fst]
      refine ⟨r3, p4, _, _, rfl, rfl, hr3, hp4, ?_, fun r5 nr5 => ⟨len2, fun q0 nq0 => ⟨_, rfl, s, 2, rfl, ?_, by decide, by decide, fun x2 HZ x20 x21 kZ => ?_⟩⟩⟩
      · rw [List.length_append, List.length_map, List.length_map, List.length_map]
        exact Nat.le_trans (show fs.length + zs.length + ds.length ≤ 19 by omega) (by decide)
      · exact ((kD.step (s7.trans s8)).step (same_new (same_new (Same.refl HF) nr5) nq0)).2
      have s9 := same_new (o := .lst [.ref r2, .ref r5]) (same_new (o := .lst (fs.map (·.1) ++ zs.map (·.1) ++ ds.map (·.1))) (Same.refl HF) nr5) nq0
      have hr5 : (upd (upd HF r5 (.lst (fs.map (·.1) ++ zs.map (·.1) ++ ds.map (·.1)))) q0 (.lst [.ref r2, .ref r5])) r5 = some (.lst (fs.map (·.1) ++ zs.map (·.1) ++ ds.map (·.1))) := same_new (Same.refl _) nq0 _ _ upd_same
      have hq0 : (upd (upd HF r5 (.lst (fs.map (·.1) ++ zs.map (·.1) ++ ds.map (·.1)))) q0 (.lst [.ref r2, .ref r5])) q0 = some (.lst [.ref r2, .ref r5]) := upd_same
      have nr5H : H r5 = none := (kD.step (s7.trans s8)).free hs nr5
      have r5s : r5 ≠ s := (kD.step (s7.trans s8)).2.ne_new nr5
      have q0s : q0 ≠ s := (kD.step (s7.trans (s8.trans (same_new (o := .lst (fs.map (·.1) ++ zs.map (·.1) ++ ds.map (·.1))) (Same.refl HF) nr5)))).2.ne_new nq0
      generalize (upd (upd HF r5 (.lst (fs.map (·.1) ++ zs.map (·.1) ++ ds.map (·.1)))) q0 (.lst [.ref r2, .ref r5])) = HG at s9 hr5 hq0 kZ
      have sDG := s7.trans (s8.trans s9)
      have kHZ := (kD.step sDG).trans kZ
      have xDZ : LamX.ExtN (mk [s] HD) (mk [s] HZ) := LamX.ExtN.of ((mk_same sDG).trans (mk_kp kZ (.head _)))
      rcases (show x2 = 0 ∨ x2 = 1 by omega) with rfl | rfl
      · exact ⟨q0, _, 0, _, rfl, rfl, SqL.of (kZ.lst q0s hq0), atI_nat (j := 0) rfl, q r2 cs HZ kHZ nr2H (kZ.lst r2s (s9 _ _ hr2)) (hcD.ext xDZ) hcl hcb hok1⟩
      · refine ⟨q0, _, 1, _, rfl, rfl, SqL.of (kZ.lst q0s hq0), atI_nat (j := 1) rfl, q r5 _ HZ kHZ nr5H ((kZ.lst r5s hr5).trans (by rw [e2])) (rs_app (rs_app (hfD.ext xDZ) (rs_zrow (hzD.ext xDZ))) fun b hb => (hcD.ext xDZ) b (hsub b hb)) ?_ (rb_app (rb_app hfb (rb_zrow hzb)) fun b hb => hcb b (hsub b hb)) hok2⟩
        rw [List.length_append, List.length_append, List.length_map]
        omega

section
open PySem PySem.Spec PyProof.Rows L2
/-- nothing is let out -/
theorem passF {X : Cx} {P : Program} {w : World} : Passes (L2.CX P w) X E0 := fun _ _ _ _ _ _ _ h => by
  obtain ⟨_, _, _, _, _, _, _, _, _, _, _, _, z⟩ := h
  exact z.elim
end
/-! ### things that a law of histories hands in -/
mutual
def smallD : PyData → Bool
  | .str x => decide (x.length ≤ 1000)
  | .list ds => decide (ds.length ≤ 1000) && smallAll ds
  | .tuple ds => smallAll ds
  | _ => true
def smallAll : List PyData → Bool
  | [] => true
  | d :: r => smallD d && smallAll r
end
mutual
theorem dp_gd {K : PySem.W.Frag} {H : Hp} : ∀ {v : V} {d : PyData}, Dp K H v d → smallD d = true → Gd K H v d
  | _, _, .non, _ => .non
  | _, _, .bl b, _ => .bl b
  | _, _, .int i, _ => .int i
  | _, _, .str x, h => .str x (by simpa [smallD] using h)
  | _, _, .lst h hs, e => by
    simp only [smallD, Bool.and_eq_true, decide_eq_true_eq] at e
    exact .lst h (by rw [dpall_len hs]; exact e.1) (dpall_gd hs e.2)
  | _, _, .tup h hs, e => by
    simp only [smallD] at e
    exact .tup h (dpall_gd hs e)
theorem dpall_gd {K : PySem.W.Frag} {H : Hp} : ∀ {vs : List V} {ds : List PyData}, DpAll K H vs ds → smallAll ds = true → GdAll K H vs ds
  | _, _, .nil, _ => .nil
  | _, _, .cons h hs, e => by
    simp only [smallAll, Bool.and_eq_true] at e
    exact .cons (dp_gd h e.1) (dpall_gd hs e.2)
end
theorem small_map {α : Type} (f : α → PyData) : ∀ {l : List α}, (∀ x ∈ l, smallD (f x) = true) → smallAll (l.map f) = true
  | [], _ => rfl
  | x :: r, h => by
    rw [List.map_cons]
    simp only [smallAll, h x (.head _), small_map f (fun y hy => h y (.tail _ hy)), Bool.and_self]
theorem small_wo (w : List Int) : smallD (woD w) = true := by
  unfold woD
  simp only [smallD]
  exact small_map _ fun _ _ => rfl
theorem small_ow (w : Option (List Int)) : smallD (owD w) = true := by
  cases w with
  | none => rfl
  | some w => exact small_wo w
theorem small_key {k : Str} (h : k ∈ kL) : smallD (.str k) = true := by
  have := (kL_facts k h).2.1
  simp only [smallD, decide_eq_true_eq]
  omega
theorem small_cons {d : PyData} {r : List PyData} (h : smallD d = true) (g : smallAll r = true) : smallAll (d :: r) = true := by
  rw [smallAll, h, g]
  rfl
theorem small_tup {ds : List PyData} (h : smallAll ds = true) : smallD (.tuple ds) = true := by
  rw [smallD]
  exact h
theorem small_nil : smallAll [] = true := by rw [smallAll]
theorem small_int (i : Int) : smallD (.int i) = true := by simp [smallD]
theorem small_row {m : Nat} {r : Row} (h : RB m r) (hm : m ≤ 3) : smallD r.d = true := by
  cases r with
  | deal d =>
    have h : DB m d := h
    have h1 : smallD (.list (d.rs.map rpD)) = true := by
      simp only [smallD, Bool.and_eq_true, decide_eq_true_eq]
      refine ⟨by rw [List.length_map]; have := h.rl; omega, small_map _ fun p hp => ?_⟩
      unfold rpD
      simp only [smallD, smallAll, small_ow, Bool.and_true]
      exact small_key (h.rs p hp).1
    have h2 : smallD (.list (d.ws.map wpD)) = true := by
      simp only [smallD, Bool.and_eq_true, decide_eq_true_eq]
      refine ⟨by rw [List.length_map]; have := h.wl; omega, small_map _ fun p hp => ?_⟩
      unfold wpD
      simp only [smallD, smallAll, small_wo, Bool.and_true]
      exact small_key (h.ws p hp).1
    have h3 : smallD (.tuple (d.st.map .int)) = true := small_wo d.st
    have h0 : smallD (.str "dealing") = true := by decide +kernel
    exact small_tup (small_cons h0 (small_cons (small_int _) (small_cons (small_int _) (small_cons (small_int _) (small_cons h3 (small_cons h1 (small_cons h2 small_nil)))))))
  | form t f =>
    have h0 : smallD (.str "form") = true := by decide +kernel
    exact small_tup (small_cons h0 (small_cons (small_int _) (small_cons (small_int _) small_nil)))
  | read n a t k w =>
    have h0 : smallD (.str (rwName n)) = true := by cases n <;> decide +kernel
    exact small_tup (small_cons h0 (small_cons (small_int _) (small_cons (small_int _) (small_cons (small_key h.2.2.1) (small_cons (small_ow w) small_nil)))))
/-- what a law hands in -/
def GA (K : PySem.W.Frag) (H : Hp) (v : V) : Prop := ∃ d, Gd K H v d ∧ An K H v d ∧ Few d ∧ Shw d ∧ Shw (.list ((numsOf d).map .int))
theorem GA.ext {K : PySem.W.Frag} {H H' : Hp} {v : V} (h : GA K H v) (k : LamX.ExtN H H') : GA K H' v := by
  obtain ⟨d, a, b, r⟩ := h
  exact ⟨d, a.up k, an_ext k b, r⟩
theorem shw_nil : Shw (.list []) := ⟨rfl, by decide, by decide +kernel⟩
theorem ga_rows {K : PySem.W.Frag} {H : Hp} {l : Addr} {m : Nat} {bs : List (V × Row)} (hl : SqL K H l (bs.map (·.1))) (hb : RsAt K H bs) (hn : bs.length ≤ 16) (hm : m ≤ 3) (hr : ∀ b ∈ bs, RB m b.2) : GA K H (.ref l) := by
  have dp : Dp K H (.ref l) (.list ((bs.map (·.2)).map Row.d)) := .lst hl (unsides hb)
  have hr2 : ∀ r ∈ bs.map (·.2), RB m r := fun r h => by
    obtain ⟨b, hb', rfl⟩ := List.mem_map.mp h
    exact hr b hb'
  have hl2 : (bs.map (·.2)).length ≤ 16 := by rw [List.length_map]; exact hn
  generalize bs.map (·.2) = rs at dp hr2 hl2
  have hs : smallD (.list (rs.map Row.d)) = true := by
    simp only [smallD, Bool.and_eq_true, decide_eq_true_eq]
    exact ⟨by rw [List.length_map]; omega, small_map _ fun r h => small_row (hr2 r h) hm⟩
  refine ⟨_, dp_gd dp hs, .dp dp, ?_, (nc_rows hr2 hm hl2).shw (by decide) (by decide), ?_⟩
  · show (rs.map Row.d).length < 64
    rw [List.length_map]
    omega
  · have e : numsOf (.list (rs.map Row.d)) = (srt (dealsOf rs)).map (·.num) := by
      show (srt (dealsOf ((rs.map Row.d).map rowOf))).map (·.num) = _
      rw [rowOf_all]
    rw [e]
    refine (nc_lst (n := 20) (k := 0) (l := 16) (fun d hd => ?_) ?_).shw (by decide) (by decide)
    · obtain ⟨i, hi, rfl⟩ := List.mem_map.mp hd
      obtain ⟨dd, hdd, rfl⟩ := List.mem_map.mp hi
      obtain ⟨r, hr', e'⟩ := List.mem_filterMap.mp (List.mem_mergeSort.mp hdd)
      have hb' := hr2 r hr'
      cases r with
      | deal x =>
        cases e'
        exact nc_int (show DB m dd from hb').num hm
      | form t f => cases e'
      | read n a t k w => cases e'
    · rw [List.length_map, List.length_map]
      unfold srt dealsOf
      rw [List.length_mergeSort]
      exact Nat.le_trans (List.length_filterMap_le _ _) hl2
/-- the law's world -/
structure LW (a : Nat → Addr) (s : Addr) (H H' : Hp) : Prop where
  of ::
  ext : LamX.ExtN H H'
  fr : Fr H s
  st : StAt H' s
  tb : LamX.Tabs (TT a) H'
theorem LW.kp {a : Nat → Addr} {s : Addr} {H H1 H2 : Hp} (w : LW a s H H1) (k : Kp s H1 H2) : LW a s H H2 :=
  ⟨fun b o h nt => k.1 b o (fun z => by subst z; obtain ⟨ps, e⟩ := w.fr o h; exact nt ps e) (w.ext b o h nt), w.fr, k.2, tabs_kp w.tb w.st k⟩
theorem LW.sm {a : Nat → Addr} {s : Addr} {H H1 H2 : Hp} (w : LW a s H H1) (k : Same H1 H2) : LW a s H H2 := w.kp (w.st.kp.step k)
theorem LW.ex {a : Nat → Addr} {s : Addr} {H H1 H2 : Hp} (w : LW a s H H1) (x : LM.Ex (TT a) H1 H2) : LW a s H H2 := ⟨w.ext.trans x.ext, w.fr, by
  obtain ⟨b, c, e, h, r⟩ := w.st
  exact ⟨b, c, e, x.ext _ _ h (fun _ z => by cases z), r⟩, x.tab w.tb⟩
theorem xex {S : List Addr} {H H' : Hp} (x : LamX.ExtN H H') : LamX.ExtN (mk S H) (mk S H') := fun b o h nt => by
  obtain ⟨h1, h2⟩ := mk_some h
  rw [mk_at h1]
  exact x b o h2 nt
def isDl (b : V × Row) : Bool := decide (b.2.word = ("dealing" : Str))
theorem two_filters {α : Type} (p : α → Bool) : ∀ l : List α, (l.filter p).length + (l.filter fun x => !p x).length = l.length
  | [] => rfl
  | x :: r => by
    have := two_filters p r
    rw [List.filter_cons, List.filter_cons]
    cases p x <;> simp <;> omega
theorem filter_take {α : Type} (p : α → Bool) {l : List α} {j : Nat} {b : α} (h : l[j]? = some b) : (l.take (j + 1)).filter p = (l.take j).filter p ++ (if p b = true then [b] else []) := by
  rw [List.take_add_one, h, List.filter_append]
  congr 1
  show List.filter p [b] = _
  rw [List.filter_cons]
  rfl
def spLaw (K : PySem.W.Frag) (a : Nat → Addr) : Sp := fun vs H Q _ => ∃ (l : Addr) (ns : List Int), vs = [.ref l] ∧ SqL K H l (ns.map V.int) ∧ ns.length ≤ 63 ∧ LamX.Tabs (TT a) H ∧ ∀ H', Q (.bl true) H'
theorem erase_map {α β : Type} (f : α → β) : ∀ (l : List α) (k : Nat), (l.map f).eraseIdx k = (l.eraseIdx k).map f
  | [], _ => by simp
  | x :: r, 0 => by simp
  | x :: r, k + 1 => by
    rw [List.map_cons, List.eraseIdx_cons_succ, List.eraseIdx_cons_succ, List.map_cons, erase_map f r k]
theorem ga_leaf {K : PySem.W.Frag} {H : Hp} {v : V} {d : PyData} (g : Gd K H v d) (a : An K H v d) (f : Few d) (s : Shw d) (n : numsOf d = []) : GA K H v := ⟨d, g, a, f, s, by rw [n]; exact shw_nil⟩
theorem ga_tup {K : PySem.W.Frag} {H : Hp} {u : Addr} {m : Nat} {bs : List (V × Row)} (hl : SqT K H u (bs.map (·.1))) (hb : RsAt K H bs) (hn : bs.length ≤ 16) (hm : m ≤ 3) (hr : ∀ b ∈ bs, RB m b.2) : GA K H (.ref u) := by
  have hr2 : ∀ r ∈ bs.map (·.2), RB m r := fun r h => by
    obtain ⟨b, hb', rfl⟩ := List.mem_map.mp h
    exact hr b hb'
  have hs : smallAll ((bs.map (·.2)).map Row.d) = true := small_map _ fun r h => small_row (hr2 r h) hm
  have dp := unsides (f := Row.d) hb
  refine ga_leaf (d := .tuple ((bs.map (·.2)).map Row.d)) (.tup hl (dpall_gd dp hs)) (.dp (.tup hl dp)) trivial ((nc_tup (n := 2600) (k := 4) (l := 16) (fun d hd => ?_) (by rw [List.length_map, List.length_map]; exact hn)).shw (by decide) (by decide)) rfl
  obtain ⟨r, hr', rfl⟩ := List.mem_map.mp hd
  exact nc_row (hr2 r hr') hm
theorem ga_non {K : PySem.W.Frag} {H : Hp} : GA K H .non := ga_leaf .non (.dp .non) trivial ⟨rfl, by decide, by decide +kernel⟩ rfl
theorem ga_five {K : PySem.W.Frag} {H : Hp} : GA K H (.int 5) := ga_leaf (.int 5) (.dp (.int 5)) trivial ⟨by decide +kernel, by decide, by decide +kernel⟩ rfl
theorem ga_word {K : PySem.W.Frag} {H : Hp} : GA K H (.str "history") := ga_leaf (.str _ (by decide +kernel)) (.dp (.str _)) trivial ⟨rfl, by decide, by decide +kernel⟩ rfl
theorem ga_tup0 {K : PySem.W.Frag} {H : Hp} {u : Addr} (h : SqT K H u []) : GA K H (.ref u) := ga_leaf (.tup h .nil) (.dp (.tup h .nil)) trivial ⟨rfl, by decide, by decide +kernel⟩ rfl
theorem ga_dict {K : PySem.W.Frag} {H : Hp} {u : Addr} (h : H u = some (.dK [])) : GA K H (.ref u) := ga_leaf (.dict h) (.dict h) trivial ⟨rfl, by decide, by decide +kernel⟩ rfl
theorem ga_none1 {K : PySem.W.Frag} {H : Hp} {u : Addr} (h : SqL K H u [.non]) : GA K H (.ref u) := ga_leaf (d := .list [.none]) (.lst h (by decide) (.cons .non .nil)) (.dp (.lst h (.cons .non .nil))) (show 1 < 64 by decide) ⟨rfl, by decide, by decide +kernel⟩ (by show (List.mergeSort ([] : List Deal) _).map (fun d : Deal => d.num) = []; rw [List.mergeSort_nil]; rfl)

/-! xs == [], xs != [], t == (): whatever the items are -/
namespace EN
section
open PySem PySem.Spec PyProof.Rows L2
variable {X : Cx}
def Nil2 (K : PySem.W.Frag) (H : Hp) (x y : V) (xs : List V) : Prop := ∃ p q, x = .ref p ∧ y = .ref q ∧ ((SqL K H p xs ∧ SqL K H q []) ∨ (SqT K H p xs ∧ SqT K H q []))
def rEqE (K : PySem.W.Frag) : R2 := fun x y H Q => ∃ xs, Nil2 K H x y xs ∧ Q (.bl xs.isEmpty) H
def rNeE (K : PySem.W.Frag) : R2 := fun x y H Q => ∃ xs, Nil2 K H x y xs ∧ Q (.bl (!xs.isEmpty)) H
theorem op_eqE (hu : X.A.units + 64 < cLine) : OpR X (compareOp .Eq) (rEqE X.K) := by
  intro pins s σ H x y v u Q I rx ry h
  obtain ⟨xs, ⟨p, q, rfl, rfl, h⟩, q1⟩ := h
  cases rx
  cases ry
  rcases h with ⟨h1, h2⟩ | ⟨h1, h2⟩
  · obtain ⟨its, r1, pl, _⟩ := I.list h1
    obtain ⟨its2, r2, pl2, _⟩ := I.list h2
    cases r2
    cases xs with
    | nil =>
      cases r1
      exact SeqAt.eq_listAt (e := fun _ => true) pl.isList pl2.isList rfl (by omega) (fun j h1 _ => absurd h1 (by simp)) ⟨.bl true, H, I, rfl, q1⟩
    | cons x r =>
      cases r1
      exact SeqAt.eq_list_lengthsAt pl.isList pl2.isList (by simp) (by omega) ⟨.bl false, H, I, rfl, q1⟩
  · obtain ⟨its, r1, pl, _⟩ := I.tuple h1
    obtain ⟨its2, r2, pl2, _⟩ := I.tuple h2
    cases r2
    refine SeqAt.eq_tupleAt (e := fun _ => true) pl pl2 (by omega) (fun j _ h2 => absurd h2 (by simp)) ?_
    cases xs with
    | nil =>
      cases r1
      exact ⟨.bl true, H, I, rfl, q1⟩
    | cons x r =>
      cases r1
      exact ⟨.bl false, H, I, by simp; exact rfl, q1⟩
theorem op_neE (hu : X.A.units + 64 < cLine) : OpR X (compareOp .NotEq) (rNeE X.K) := by
  intro pins s σ H x y v u Q I rx ry h
  obtain ⟨xs, ⟨p, q, rfl, rfl, h⟩, q1⟩ := h
  cases rx
  cases ry
  rcases h with ⟨h1, h2⟩ | ⟨h1, h2⟩
  · obtain ⟨its, r1, pl, _⟩ := I.list h1
    obtain ⟨its2, r2, pl2, _⟩ := I.list h2
    cases r2
    cases xs with
    | nil =>
      cases r1
      exact SeqAt.RcNeAt.lists (e := fun _ => true) pl.isList pl2.isList rfl (by omega) (fun j h1 _ => absurd h1 (by simp)) _ _ _ _ ⟨.bl false, H, I, rfl, q1⟩
    | cons x r =>
      cases r1
      exact SeqAt.RcNeAt.lists_lengths pl.isList pl2.isList (by simp) (by omega) _ _ _ _ ⟨.bl true, H, I, rfl, q1⟩
  · obtain ⟨its, r1, pl, _⟩ := I.tuple h1
    obtain ⟨its2, r2, pl2, _⟩ := I.tuple h2
    cases r2
    refine SeqAt.RcNeAt.tuples (e := fun _ => true) pl pl2 (by omega) (fun j _ h2 => absurd h2 (by simp)) _ _ _ _ ?_
    cases xs with
    | nil =>
      cases r1
      exact ⟨.bl false, H, I, rfl, q1⟩
    | cons x r =>
      cases r1
      exact ⟨.bl true, H, I, by simp; exact rfl, q1⟩
end
end EN
/-! ### the law's own looks -/
def tTru (K : PySem.W.Frag) (te : L2.TE) : L2.TT := fun σ H Q => te σ H fun x H' => ∃ k, TruV K x H' k ∧ Q k H'
theorem gdall_nil {K : PySem.W.Frag} {H : Hp} {vs : List V} (h : GdAll K H vs []) : vs = [] := by
  cases h
  rfl
theorem gdall_one {K : PySem.W.Frag} {H : Hp} {vs : List V} {d : PyData} (h : GdAll K H vs [d]) : ∃ v, vs = [v] ∧ Gd K H v d := by
  obtain ⟨v, r, rfl, h1, h2⟩ := gd_consI h
  cases gdall_nil h2
  exact ⟨v, rfl, h1⟩
/-- in a comprehension that keeps those that a look doesn't let by: the state of its list -/
structure Kept {α : Type} (f : α → Bool) (ds : List α) (j : Nat) (zs : List V) : Prop where
  em : zs.isEmpty = (ds.take j).all f
  len : zs.length ≤ j
theorem Kept.nil {α : Type} {f : α → Bool} {ds : List α} : Kept f ds 0 [] := ⟨by simp, Nat.le_refl _⟩
theorem Kept.left {α : Type} {f : α → Bool} {ds : List α} {j : Nat} {zs : List V} {d : α} (h : Kept f ds j zs) (e : ds[j]? = some d) (hf : f d = true) : Kept f ds (j + 1) zs := ⟨by
  rw [List.take_add_one, e, List.all_append, ← h.em]
  simp [hf], by have := h.len; omega⟩
theorem Kept.put {α : Type} {f : α → Bool} {ds : List α} {j : Nat} {zs : List V} {d : α} {v : V} (h : Kept f ds j zs) (e : ds[j]? = some d) (hf : f d = false) : Kept f ds (j + 1) (zs ++ [v]) := ⟨by
  rw [List.take_add_one, e, List.all_append]
  simp [hf], by
  have := h.len
  rw [List.length_append]
  simp
  exact this⟩
theorem Kept.all {α : Type} {f : α → Bool} {ds : List α} {j : Nat} {zs : List V} (h : Kept f ds j zs) (hj : ds.length ≤ j) : zs.isEmpty = ds.all f := by
  rw [h.em, List.take_of_length_le hj]
def kOf : PyData → Str
  | .tuple (k :: _) => strOf k
  | _ => ""
def pairsU (o : Bool) (d : PyData) : Bool := pairsD o d && decide ((lstOf d).map kOf).Nodup
def dealX : List PyData → Bool
  | [_, a, b, c, s, rs, ws] => wholeD a && wholeD b && wholeD c && stampD s && (decide (intOf b ≤ intOf c) && (pairsU true rs && pairsU false ws))
  | _ => false
def toldX : PyData → Bool
  | .tuple (.str z :: r) => if z = "dealing" then dealX (.str z :: r) else if z = "form" then formD (.str z :: r) else if z = "read" ∨ z = "now" then readD (.str z :: r) else false
  | _ => false
theorem bool_bl {Q : VK} {H : Hp} {a b : Bool} (e : a = b) (q : Q (.bl b) H) : Q (.bl a) H := by rw [e]; exact q
theorem key_no' {d : PyData} (h : isStr d = false) : keyD d = false := key_no h
theorem gdall_ints {K : PySem.W.Frag} {H : Hp} : ∀ {ns : List Int} {vs : List V}, GdAll K H vs (ns.map .int) → vs = ns.map V.int
  | [], _, h => gdall_nil h
  | n :: r, _, h => by
    obtain ⟨v, s, rfl, h1, h2⟩ := gd_consI (d := .int n) (ds := r.map .int) h
    rw [h1.intI, gdall_ints h2]
    rfl
def spPairsU (K : PySem.W.Frag) : Sp := fun vs H Q _ => ∃ (v : V) (d : PyData) (o : Bool), vs = [v, .bl o] ∧ Gd K H v d ∧ ∀ H', Same H H' → Q (.bl (pairsU o d)) H'
theorem in_deal : inV (V.str "dealing") [V.str "read", V.str "now"] = false := by decide +kernel
theorem in_form : inV (V.str "form") [V.str "read", V.str "now"] = false := by decide +kernel
theorem in_rw (n : Bool) : inV (V.str (rwName n)) [V.str "read", V.str "now"] = true := by cases n <;> decide +kernel
theorem told_short {r : List PyData} (h : ¬ (PyData.str "dealing" :: r).length = 7) : toldX (.tuple (.str "dealing" :: r)) = false := by
  show dealX (.str "dealing" :: r) = false
  match r, h with
  | [], _ => rfl
  | [_], _ => rfl
  | [_, _], _ => rfl
  | [_, _, _], _ => rfl
  | [_, _, _, _], _ => rfl
  | [_, _, _, _, _], _ => rfl
  | [_, _, _, _, _, _], h => exact absurd rfl h
  | _ :: _ :: _ :: _ :: _ :: _ :: _ :: _, _ => rfl
theorem eqV_no {x z : Str} (h : z ≠ x) : eqV (V.str x) (V.str z) = false := by
  show decide (x = z) = false
  exact decide_eq_false fun e => h e.symm
theorem in_no {z : Str} (h1 : z ≠ "read") (h2 : z ≠ "now") : inV (V.str z) [V.str "read", V.str "now"] = false := by
  have e1 : eqV (V.str "read") (V.str z) = false := eqV_no h1
  have e2 : eqV (V.str "now") (V.str z) = false := eqV_no h2
  unfold inV
  rw [List.any_cons, List.any_cons, e1, e2]
  rfl
theorem cut_mid (a b c d e f g : V) : cutV [a, b, c, d, e, f, g] (some 1) (some 4) = [b, c, d] := rfl
theorem told_shortF {r : List PyData} (h : ¬ (PyData.str "form" :: r).length = 3) : toldX (.tuple (.str "form" :: r)) = false := by
  show formD (.str "form" :: r) = false
  match r, h with
  | [], _ => rfl
  | [_], _ => rfl
  | [_, _], h => exact absurd rfl h
  | _ :: _ :: _ :: _, _ => rfl
theorem told_rw (n : Bool) (r : List PyData) : toldX (.tuple (.str (rwName n) :: r)) = readD (.str (rwName n) :: r) := by
  show (if rwName n = "dealing" then _ else if rwName n = "form" then _ else if rwName n = "read" ∨ rwName n = "now" then readD (.str (rwName n) :: r) else false) = _
  rw [if_neg fun z => w_deal_rw n z.symm, if_neg fun z => w_form_rw n z.symm, if_pos (by cases n <;> simp [rwName])]
theorem told_shortR {n : Bool} {r : List PyData} (h : ¬ (PyData.str (rwName n) :: r).length = 5) : toldX (.tuple (.str (rwName n) :: r)) = false := by
  rw [told_rw]
  match r, h with
  | [], _ => rfl
  | [_], _ => rfl
  | [_, _], _ => rfl
  | [_, _, _], _ => rfl
  | [_, _, _, _], h => exact absurd rfl h
  | _ :: _ :: _ :: _ :: _ :: _, _ => rfl
theorem told_other {z : Str} {r : List PyData} (h1 : z ≠ "dealing") (h2 : z ≠ "form") (h3 : z ≠ "read") (h4 : z ≠ "now") : toldX (.tuple (.str z :: r)) = false := by
  show (if z = "dealing" then _ else if z = "form" then _ else if z = "read" ∨ z = "now" then _ else false) = false
  rw [if_neg h1, if_neg h2, if_neg fun h => h.elim h3 h4]

theorem ok_l_whole {P : Program} {w : World} {K : PySem.W.Frag} {mg : Str → Option Value} {base : Heap} {a : Nat → Addr} {d : Nat → FuncData} (T : Txt K mg a d) : FnOk P w K mg base CX0 1 (a 34) (d 34) ["_law_thing"] (spWholeG K) := by
  refine T.F_l_whole.ok sc_l_whole (fun vs H Q E h => ?_) (fun cdv A outer s0 H vs Q E hr h => ?_)
  · obtain ⟨v, d', rfl, hg, q⟩ := h
    rfl
  · obtain ⟨v, d', rfl, hg, q⟩ := h
    refine ⟨_, (pss_one (ps_ret (pe_and (pe_callB call_isi (by rfl) T.z_isinstance (by decide +kernel) (pa_cons (pv 0) (pa_cons (pe_bltn (v := .ty "int") (by rfl) T.z_int (by decide +kernel) rfl) pa_nil))) (pe_one (pe_not (pe_callB call_isi (by rfl) T.z_isinstance (by decide +kernel) (pa_cons (pv 0) (pa_cons (pe_bltn (v := .ty "bool") (by rfl) T.z_bool (by decide +kernel) rfl) pa_nil)))))))), ?_⟩
    obtain ⟨t, ty, k⟩ := hg.ty
    refine ⟨_, rfl, v, .ty "int", t, .type "int", isI d', rfl, .ty "int", ty, k.i, _, rfl, ?_⟩
    have e : wholeD d' = (isI d' && !isB d') := by cases d' <;> rfl
    rw [e] at q
    cases c : isI d' with
    | false =>
      rw [c] at q
      exact iteF q
    | true =>
      rw [c] at q
      exact iteT ⟨_, rfl, v, .ty "bool", t, .type "bool", isB d', rfl, .ty "bool", ty, k.b, _, rfl, q⟩

theorem ok_l_is_worth {P : Program} {w : World} {K : PySem.W.Frag} {mg : Str → Option Value} {base : Heap} {a : Nat → Addr} {d : Nat → FuncData} (T : Txt K mg a d) : FnOk P w K mg base CX0 2 (a 35) (d 35) ["_law_thing"] (spLookN K wthD) := by
  refine T.F_l_is_worth.ok sc_l_is_worth (fun vs H Q E h => ?_) (fun cdv A outer s0 H vs Q E hr h => ?_)
  · obtain ⟨v, d', rfl, hg, q⟩ := h
    rfl
  · obtain ⟨v, d', rfl, hg, q⟩ := h
    refine ⟨_, (pss_one (ps_ret (pe_and (pe_callB call_isi (by rfl) T.z_isinstance (by decide +kernel) (pa_cons (pv 0) (pa_cons (pe_bltn (v := .ty "tuple") (by rfl) T.z_tuple (by decide +kernel) rfl) pa_nil))) (pe_and (pe_chain op_le op_le pe_int (pe_callB call_len_seq (by rfl) T.z_len PySem.boot_len (pa_cons (pv 0) pa_nil)) pe_int) (pe_one (pe_cmpR (EN.op_eqE hr.units) (pe_lc (own := [("_law_one", 1)]) (g := gName 1) (te := (tVar 1)) (tt := (tNot (tTru K (tCall (spWholeG K) [] E0 (tCons (tVar 1) tNil))))) (by rfl) sc_l_is_worth.nd (pi_tup (pv 0)) (blkOk_by (own := [("_law_one", 1)]) (N := ["_law_thing", "_law_one"]) (sc := defScope s_l_is_worth) (by decide +kernel)) (fun _ _ _ _ _ => (pg_name (i := 1) sc_l_is_worth.nd rfl (.inl rfl))) (fun _ _ _ _ _ => (pts_one (pt_not (pt_truth (pe_call (ok_l_whole T) (hr.mono (by decide)) (by rfl) T.g_l_whole T.F_l_whole.kp T.b_l_whole .nil pass0 (pa_cons (pv 1) pa_nil)) (by intro _; rfl))))) (fun _ _ _ _ _ => (pv 1))) (pe_lst pa_nil) (nomark _))))))), ?_⟩
    obtain ⟨t, ty, k⟩ := hg.ty
    refine ⟨_, rfl, v, .ty "tuple", t, .type "tuple", isTup d', rfl, .ty "tuple", ty, k.t, _, rfl, ?_⟩
    cases c : isTup d' with
    | false => exact iteF (bq (Q := Q) (rowD_no c) (q H (Same.refl H)))
    | true =>
      refine iteT ?_
      obtain ⟨ds, rfl⟩ := istup c
      obtain ⟨p, xs, rfl, hp, hall⟩ := hg.tupI
      have hlen := hall.len
      refine ⟨_, rfl, p, _, rfl, .inr hp, 1, _, rfl, rfl, _, rfl, ?_⟩
      by_cases h1 : (1 : Int) ≤ (xs.length : Int)
      · refine iteDT h1 ⟨_, 4, rfl, rfl, _, rfl, ?_⟩
        by_cases h2 : (xs.length : Int) ≤ (4 : Int)
        · refine iteDT h2 ⟨_, rfl, p, rfl, ⟨_, hp⟩, fun D nD => ?_⟩
          refine lc_tup (K := K) (a := p) (xs := xs) (fun j H' => Same H H' ∧ ∃ zs, H' D = some (.lst zs) ∧ Kept wholeD ds j zs) ⟨same_new (Same.refl H) nD, [], upd_same, Kept.nil⟩ (fun j H' _ z => same_sqt z.1 hp) ?_ ?_
          · rintro j x H' hx ⟨sA, zs, hD, hk⟩
            obtain ⟨e, he, hd⟩ := GdAll.get hall hx
            have hjl := (List.getElem?_eq_some_iff.mp hx).1
            have hkl := hk.len
            refine ⟨rfl, _, rfl, x, e, rfl, hd.same sA, _, rfl, ?_⟩
            cases c2 : wholeD e with
            | true => exact iteF ⟨sA, zs, hD, hk.left he c2⟩
            | false =>
              refine iteT ⟨_, rfl, _, hD, ?_, fun b o w => ?_, _, upd_same, hk.put he c2⟩
              · exact Nat.lt_of_lt_of_le (show zs.length < 1001 by omega) (by decide)
              · rw [upd_ne (ne_of_none w nD)]
                exact (sA) b o w
          · rintro H' ⟨sA, zs, hD, hk⟩
            refine ⟨(by decide : 0 ≤ sizeLine), fun e ne => ?_⟩
            have sN : Same H' (upd H' e (.lst [])) := same_new (Same.refl H') ne
            have hD2 := sN _ _ hD
            have em := hk.all (Nat.le_of_eq hlen.symm)
            have sE := sA.trans sN
            refine ⟨zs, ⟨D, e, rfl, rfl, .inl ⟨SqL.of hD2, SqL.of upd_same⟩⟩, ?_⟩
            refine bq (Q := Q) ?_ (q _ sE)
            rw [em]
            have g1 : (1 : Int) ≤ (ds.length : Int) := by omega
            have g2 : (ds.length : Int) ≤ 4 := by omega
            simp only [wthD, rowD, g1, g2, decide_true, Bool.true_and]
        · refine iteDF h2 (bq (Q := Q) ?_ (q H (Same.refl H)))
          have g2 : ¬ (ds.length : Int) ≤ 4 := by omega
          simp only [wthD, rowD, g2, decide_false, Bool.false_and, Bool.and_false]
      · refine iteDF h1 ⟨false, rfl, iteF (bq (Q := Q) ?_ (q H (Same.refl H)))⟩
        have g2 : ¬ (1 : Int) ≤ (ds.length : Int) := by omega
        simp only [wthD, rowD, g2, decide_false, Bool.false_and]

theorem ok_l_is_key {P : Program} {w : World} {K : PySem.W.Frag} {mg : Str → Option Value} {base : Heap} {a : Nat → Addr} {d : Nat → FuncData} (T : Txt K mg a d) : FnOk P w K mg base CX0 1 (a 36) (d 36) ["_law_thing"] (spLookN K keyD) := by
  refine T.F_l_is_key.ok sc_l_is_key (fun vs H Q E h => ?_) (fun cdv A outer s0 H vs Q E hr h => ?_)
  · obtain ⟨v, d', rfl, hg, q⟩ := h
    rfl
  · obtain ⟨v, d', rfl, hg, q⟩ := h
    refine ⟨_, (pss_cons (ps_if (PW.pt (pw_or (pt_not (pt_truth (pe_callB call_isi (by rfl) T.z_isinstance (by decide +kernel) (pa_cons (pv 0) (pa_cons (pe_bltn (v := .ty "str") (by rfl) T.z_str (by decide +kernel) rfl) pa_nil))) (by intro _; rfl))) (pw_or1 (pt_not (pt_chain op_le op_le pe_int (pe_callB call_len_str (by rfl) T.z_len PySem.boot_len (pa_cons (pv 0) pa_nil)) pe_int))))) (pss_one (ps_ret pe_bl)) pss_nil) (pss_one (ps_ret (pe_cmpR (EN.op_eqE hr.units) (pe_lc (own := [("_law_sign", 1)]) (g := gName 1) (te := (tVar 1)) (by rfl) sc_l_is_key.nd (pi_str (pv 0)) (blkOk_by (own := [("_law_sign", 1)]) (N := ["_law_thing", "_law_sign"]) (sc := defScope s_l_is_key) (by decide +kernel)) (fun _ _ _ _ _ => (pg_name (i := 1) sc_l_is_key.nd rfl (.inl rfl))) (fun _ _ _ _ _ => (pts_one (pt_not (pt_chain op_le_str op_le_str pe_str (pv 1) pe_str)))) (fun _ _ _ _ _ => (pv 1))) (pe_lst pa_nil) (nomark _))))), ?_⟩
    obtain ⟨t, ty, k⟩ := hg.ty
    refine ⟨_, rfl, v, .ty "str", t, .type "str", isStr d', rfl, .ty "str", ty, k.s, _, rfl, ?_⟩
    cases c : isStr d' with
    | false => exact iteT (bq (Q := Q) (key_no c) (q H (Same.refl H)))
    | true =>
      refine iteF ?_
      obtain ⟨z, rfl⟩ := isstr c
      obtain ⟨rfl, hz⟩ := hg.strI
      have lz : z.length = z.cps.toList.length := (Array.length_toList (xs := z.cps)).symm
      refine ⟨_, rfl, z, rfl, Nat.le_trans hz (by decide), 1, _, rfl, rfl, _, rfl, ?_⟩
      by_cases h1 : (1 : Int) ≤ (z.length : Int)
      · refine iteDT h1 ⟨_, 6, rfl, rfl, _, rfl, ?_⟩
        by_cases h2 : (z.length : Int) ≤ (6 : Int)
        · refine iteNS h2 ?_
          have g1 : 1 ≤ z.cps.toList.length := by omega
          have g2 : z.cps.toList.length ≤ 6 := by omega
          refine ⟨_, rfl, z, rfl, fun D nD => ?_⟩
          refine lc_it walk_str (fun i H' => Same H H' ∧ H' D = some (.lst (((z.cps.toList.take i).filter fun c => !ltr c).map fun c => V.str ⟨#[c]⟩))) ⟨same_new (Same.refl H) nD, upd_same⟩ (fun _ _ _ _ => trivial) ?_ ?_
          · rintro i x H1 H' hi ⟨s1, hD⟩ ⟨rfl, c, hc, rfl⟩
            have hc2 : z.cps.toList[i]? = some c := by rw [Array.getElem?_toList]; exact hc
            have kept : ltr c = false → ∃ acc, H' D = some (.lst acc) ∧ acc.length < sizeLine ∧ Same H (upd H' D (.lst (acc ++ [V.str ⟨#[c]⟩]))) ∧ (upd H' D (.lst (acc ++ [V.str ⟨#[c]⟩]))) D = some (.lst (((z.cps.toList.take (i + 1)).filter fun c => !ltr c).map fun c => V.str ⟨#[c]⟩)) := by
              intro hl
              refine ⟨_, hD, ?_, fun u o z => ?_, ?_⟩
              · rw [List.length_map]
                have l2 := List.length_filter_le (fun c => !ltr c) (z.cps.toList.take i)
                rw [List.length_take] at l2
                exact Nat.lt_of_lt_of_le (show _ < 200 by omega) (by decide)
              · rw [upd_ne (ne_of_none z nD)]
                exact s1 u o z
              · rw [upd_same, List.take_add_one, hc2]
                simp [hl]
            have left : ltr c = true → H' D = some (.lst (((z.cps.toList.take (i + 1)).filter fun c => !ltr c).map fun c => V.str ⟨#[c]⟩)) := by
              intro hl
              rw [List.take_add_one, hc2, hD]
              simp [hl]
            refine ⟨rfl, _, rfl, _, _, rfl, rfl, _, rfl, ?_⟩
            by_cases c1 : 97 ≤ c
            · refine iteBT (by rw [a_le]; exact decide_eq_true c1) ⟨_, _, rfl, rfl, _, rfl, ?_⟩
              by_cases c2 : c ≤ 122
              · refine iteBF (by rw [le_z, decide_eq_true c2]; rfl) ⟨s1, left ?_⟩
                simp [ltr, c1, c2]
              · refine iteBT (by rw [le_z, decide_eq_false c2]; rfl) ⟨_, rfl, ?_⟩
                obtain ⟨acc, k1, k2, k3, k4⟩ := kept (by simp [ltr, c2])
                exact ⟨acc, k1, k2, k3, k4⟩
            · refine iteBF (by rw [a_le]; exact decide_eq_false c1) ⟨false, rfl, iteT ⟨_, rfl, ?_⟩⟩
              obtain ⟨acc, k1, k2, k3, k4⟩ := kept (by simp only [ltr, decide_eq_false c1, Bool.false_and])
              exact ⟨acc, k1, k2, k3, k4⟩
          · rintro H' ⟨s1, hD⟩
            rw [List.take_of_length_le (by rw [Array.length_toList]; exact Nat.le_refl _)] at hD
            refine ⟨Nat.zero_le _, fun pe npe => ?_⟩
            have sn : Same H' (upd H' pe (.lst [])) := same_new (Same.refl H') npe
            refine ⟨_, ⟨D, pe, rfl, rfl, .inl ⟨SqL.of (sn _ _ hD), SqL.of upd_same⟩⟩, ?_⟩
            refine bq (Q := Q) ?_ (q _ (s1.trans sn))
            rw [List.isEmpty_map, all_filter]
            simp only [keyD, g1, g2, decide_true, Bool.true_and]
        · refine iteND h2 ?_
          refine bq (Q := Q) ?_ (q H (Same.refl H))
          have g2 : ¬ z.cps.toList.length ≤ 6 := by omega
          simp only [keyD, g2, decide_false, Bool.false_and, Bool.and_false]
      · refine iteDF h1 ⟨false, rfl, iteT ?_⟩
        refine bq (Q := Q) ?_ (q H (Same.refl H))
        have g2 : ¬ 1 ≤ z.cps.toList.length := by omega
        simp only [keyD, g2, decide_false, Bool.false_and]

theorem ok_l_is_stamp {P : Program} {w : World} {K : PySem.W.Frag} {mg : Str → Option Value} {base : Heap} {a : Nat → Addr} {d : Nat → FuncData} (T : Txt K mg a d) : FnOk P w K mg base CX0 2 (a 38) (d 38) ["_law_thing"] (spLookN K stampD) := by
  refine T.F_l_is_stamp.ok sc_l_is_stamp (fun vs H Q E h => ?_) (fun cdv A outer s0 H vs Q E hr h => ?_)
  · obtain ⟨v, d', rfl, hg, q⟩ := h
    rfl
  · obtain ⟨v, d', rfl, hg, q⟩ := h
    refine ⟨_, (pss_cons (ps_if (PW.pt (pw_or (pt_not (pt_truth (pe_callB call_isi (by rfl) T.z_isinstance (by decide +kernel) (pa_cons (pv 0) (pa_cons (pe_bltn (v := .ty "tuple") (by rfl) T.z_tuple (by decide +kernel) rfl) pa_nil))) (by intro _; rfl))) (pw_or (pt_cmpR op_ne (pe_callB call_len_seq (by rfl) T.z_len PySem.boot_len (pa_cons (pv 0) pa_nil)) pe_int (nomark _)) (pw_or1 (pt_cmpR (EN.op_neE hr.units) (pe_lc (own := [("_law_one", 1)]) (g := gName 1) (te := (tVar 1)) (tt := (tNot (tTru K (tCall (spWholeG K) [] E0 (tCons (tVar 1) tNil))))) (by rfl) sc_l_is_stamp.nd (pi_tup (pv 0)) (blkOk_by (own := [("_law_one", 1)]) (N := ["_law_thing", "_law_one"]) (sc := defScope s_l_is_stamp) (by decide +kernel)) (fun _ _ _ _ _ => (pg_name (i := 1) sc_l_is_stamp.nd rfl (.inl rfl))) (fun _ _ _ _ _ => (pts_one (pt_not (pt_truth (pe_call (ok_l_whole T) (hr.mono (by decide)) (by rfl) T.g_l_whole T.F_l_whole.kp T.b_l_whole .nil pass0 (pa_cons (pv 1) pa_nil)) (by intro _; rfl))))) (fun _ _ _ _ _ => (pv 1))) (pe_lst pa_nil) (nomark _)))))) (pss_one (ps_ret pe_bl)) pss_nil) (pss_one (ps_ret (pe_cmpR op_ge (pe_callB (cr_minT rfl) (by rfl) T.z_min (by decide +kernel) (pa_cons (pe_slice sl_tupA (pv 0) (po_some pe_int) po_none) pa_nil)) pe_int (nomark _))))), ?_⟩
    obtain ⟨t, ty, k⟩ := hg.ty
    refine ⟨_, rfl, v, .ty "tuple", t, .type "tuple", isTup d', rfl, .ty "tuple", ty, k.t, _, rfl, ?_⟩
    cases c : isTup d' with
    | false =>
      refine iteT (bq (Q := Q) ?_ (q H (Same.refl H)))
      unfold stampD
      rw [rowD_no c]
      rfl
    | true =>
      refine iteF ?_
      obtain ⟨ds, rfl⟩ := istup c
      obtain ⟨p, xs, rfl, hp, hall⟩ := hg.tupI
      have hlen := hall.len
      refine ⟨_, rfl, p, _, rfl, .inr hp, rfl, _, rfl, ?_⟩
      by_cases h1 : xs.length = 3
      · refine iteNSD (by rw [h1]; rfl) ⟨_, rfl, p, rfl, ⟨_, hp⟩, fun D nD => ?_⟩
        refine lc_tup (K := K) (a := p) (xs := xs) (fun j H' => Same H H' ∧ ∃ zs, H' D = some (.lst zs) ∧ Kept wholeD ds j zs) ⟨same_new (Same.refl H) nD, [], upd_same, Kept.nil⟩ (fun j H' _ z => same_sqt z.1 hp) ?_ ?_
        · rintro j x H' hx ⟨sA, zs, hD, hk⟩
          obtain ⟨e, he, hd⟩ := GdAll.get hall hx
          have hjl := (List.getElem?_eq_some_iff.mp hx).1
          have hkl := hk.len
          refine ⟨rfl, _, rfl, x, e, rfl, hd.same sA, _, rfl, ?_⟩
          cases c2 : wholeD e with
          | true => exact iteF ⟨sA, zs, hD, hk.left he c2⟩
          | false =>
            refine iteT ⟨_, rfl, _, hD, ?_, fun b o w => ?_, _, upd_same, hk.put he c2⟩
            · exact Nat.lt_of_lt_of_le (show zs.length < 1001 by omega) (by decide)
            · rw [upd_ne (ne_of_none w nD)]
              exact (sA) b o w
        · rintro H' ⟨sA, zs, hD, hk⟩
          refine ⟨(by decide : 0 ≤ sizeLine), fun e ne => ?_⟩
          have sN : Same H' (upd H' e (.lst [])) := same_new (Same.refl H') ne
          have hD2 := sN _ _ hD
          have em := hk.all (Nat.le_of_eq hlen.symm)
          have sE := sA.trans sN
          refine ⟨zs, ⟨D, e, rfl, rfl, .inl ⟨SqL.of hD2, SqL.of upd_same⟩⟩, _, rfl, ?_⟩
          have g3 : (decide ((3 : Int) ≤ (ds.length : Int)) && decide ((ds.length : Int) ≤ 3)) = true := by
            rw [Bool.and_eq_true, decide_eq_true_eq, decide_eq_true_eq]
            omega
          cases c3 : ds.all wholeD with
          | false =>
            refine iteNB (em.trans c3) (bq (Q := Q) ?_ (q _ sE))
            unfold stampD
            simp only [rowD, g3, c3, Bool.true_and, Bool.false_and]
          | true =>
            refine iteNSB (em.trans c3) ?_
            obtain ⟨ns, rfl⟩ := wholes c3
            rw [List.length_map] at hlen
            obtain ⟨n1, n2, n3, rfl⟩ : ∃ a b c, ns = [a, b, c] := len3' (by omega)
            cases gdall_ints hall
            have hp2 := same_sqt sE hp
            refine ⟨_, rfl, _, rfl, p, _, rfl, hp2, fun e => absurd e.1 (by show ¬ HT.sIx 3 0 (some 1) = 0; decide), fun ne2 u nu => ?_⟩
            have ec : cutV [V.int n1, V.int n2, V.int n3] (some 1) none = [n2, n3].map V.int := cut_from [V.int n1, V.int n2, V.int n3] 1
            refine ⟨u, [n2, n3], rfl, SqT.of (by rw [upd_same]; exact congrArg (fun z => some (HO.tup z)) ec), (show 0 < 2 by decide), fun m hm hmin => ⟨m, 0, rfl, rfl, ?_⟩⟩
            refine bq (Q := Q) ?_ (q _ (sE.trans (same_new (Same.refl _) nu)))
            have e2 := hmin n2 (.head _)
            have e3 := hmin n3 (.tail _ (.head _))
            show (rowD 3 3 (.tuple [.int n1, .int n2, .int n3]) && (decide (0 ≤ n2) && decide (0 ≤ n3))) = decide ((0 : Int) ≤ m)
            have er : rowD 3 3 (.tuple [.int n1, .int n2, .int n3]) = true := rfl
            rw [er, Bool.true_and]
            rcases List.mem_cons.mp hm with rfl | hm
            · by_cases g : 0 ≤ m
              · have g2 : 0 ≤ n3 := by omega
                simp [g, g2]
              · simp [g]
            · cases List.mem_singleton.mp hm
              by_cases g : 0 ≤ n3
              · have g2 : 0 ≤ n2 := by omega
                simp [g, g2]
              · simp [g]
      · refine iteND (fun z => h1 (by have := V.int.inj z; omega)) (bq (Q := Q) ?_ (q H (Same.refl H)))
        have g3 : (decide ((3 : Int) ≤ (ds.length : Int)) && decide ((ds.length : Int) ≤ 3)) = false := by
          rw [Bool.and_eq_false_iff, decide_eq_false_iff_not, decide_eq_false_iff_not]
          omega
        unfold stampD
        simp only [rowD, g3, Bool.false_and]

theorem ok_l_are_pairs {P : Program} {w : World} {K : PySem.W.Frag} {mg : Str → Option Value} {base : Heap} {a : Nat → Addr} {d : Nat → FuncData} (T : Txt K mg a d) : FnOk P w K mg base CX0 3 (a 37) (d 37) ["_law_thing", "_law_or_none"] (spPairsU K) := by
  refine T.F_l_are_pairs.ok sc_l_are_pairs (fun vs H Q E h => ?_) (fun cdv A outer s0 H vs Q E hr h => ?_)
  · obtain ⟨v, d', o, rfl, hg, q⟩ := h
    rfl
  · obtain ⟨v, d', o, rfl, hg, q⟩ := h
    refine ⟨_, (pss_cons (ps_if (pt_not (pt_truth (pe_callB call_isi (by rfl) T.z_isinstance (by decide +kernel) (pa_cons (pv 0) (pa_cons (pe_bltn (v := .ty "list") (by rfl) T.z_list (by decide +kernel) rfl) pa_nil))) (by intro _; rfl))) (pss_one (ps_ret pe_bl)) pss_nil) (pss_cons (ps_for PassesOwn.never rfl (pi_list (pv 0)) (pg_name (i := 2) sc_l_are_pairs.nd rfl (.inl rfl)) (pss_cons (ps_if (PW.pt (pw_or (pt_not (pt_truth (pe_callB call_isi (by rfl) T.z_isinstance (by decide +kernel) (pa_cons (pv 2) (pa_cons (pe_bltn (v := .ty "tuple") (by rfl) T.z_tuple (by decide +kernel) rfl) pa_nil))) (by intro _; rfl))) (pw_or (pt_cmpR op_ne (pe_callB call_len_seq (by rfl) T.z_len PySem.boot_len (pa_cons (pv 2) pa_nil)) pe_int (nomark _)) (pw_or1 (pt_not (pt_truth (pe_call (ok_l_is_key T) (hr.mono (by decide)) (by rfl) T.g_l_is_key T.F_l_is_key.kp T.b_l_is_key .nil pass0 (pa_cons (pe_ix ix_tup (pv 2) pe_int (fun _ _ => rfl)) pa_nil)) (by intro _; rfl))))))) (pss_one (ps_ret pe_bl)) pss_nil) (pss_one (ps_if (PW.pt (pw_and (pt_not (pt_truth (pe_call (ok_l_is_worth T) (hr.mono (by decide)) (by rfl) T.g_l_is_worth T.F_l_is_worth.kp T.b_l_is_worth .nil pass0 (pa_cons (pe_ix ix_tup (pv 2) pe_int (fun _ _ => rfl)) pa_nil)) (by intro _; rfl))) (pw_and1 (pt_not (PW.pt (pw_and (pt_truth (pv 1) (by intro _; rfl)) (pw_and1 (pt_cmpR op_isN (pe_ix ix_tup (pv 2) pe_int (fun _ _ => rfl)) pe_non (nomark _))))))))) (pss_one (ps_ret pe_bl)) pss_nil)))) (pss_one (ps_ret (pe_cmpR op_eq (pe_callB SM.cr_lenM (by rfl) T.z_len PySem.boot_len (pa_cons (pe_callTy (SM.cr_setM rfl) (by rfl) T.z_set (by decide +kernel) (pa_cons (pe_lc (own := [("_law_one", 2)]) (g := gName 2) (te := (tOp (rIxT K) (tVar 2) (tC (.int 0)))) (by rfl) sc_l_are_pairs.nd (pi_list (pv 0)) (blkOk_by (own := [("_law_one", 2)]) (N := ["_law_thing", "_law_or_none", "_law_one"]) (sc := defScope s_l_are_pairs) (by decide +kernel)) (fun _ _ _ _ _ => (pg_name (i := 2) sc_l_are_pairs.nd rfl (.inl rfl))) (fun _ _ _ _ _ => pts_nil) (fun _ _ _ _ _ => (pe_ix ix_tup (pv 2) pe_int (fun _ _ => rfl)))) pa_nil)) pa_nil)) (pe_callB call_len_seq (by rfl) T.z_len PySem.boot_len (pa_cons (pv 0) pa_nil)) (nomark _)))))), ?_⟩
    obtain ⟨t, ty, k⟩ := hg.ty
    refine ⟨_, rfl, v, .ty "list", t, .type "list", isL d', rfl, .ty "list", ty, k.l, _, rfl, ?_⟩
    cases c : isL d' with
    | false => exact iteT (bq (Q := Q) (by cases d' <;> first | rfl | cases c) (q H (Same.refl H)))
    | true =>
      refine iteF ?_
      obtain ⟨ds, rfl⟩ := islst c
      obtain ⟨p, xs, rfl, hp, hlm, hall⟩ := hg.lstI
      have hlen := hall.len
      refine ⟨_, rfl, p, rfl, ⟨_, hp⟩, ?_⟩
      refine for_list (K := K) (a := p) (xs := xs) (fun j σ H' => Same H H' ∧ (∃ v2, σ = [some (.ref p), some (.bl o), v2]) ∧ (ds.take j).all (pairD o) = true) ⟨Same.refl H, ⟨_, rfl⟩, by simp⟩ (fun j σ H' _ z => z.1.seq hp) ?_ ?_
      · rintro j x σ H1 hx ⟨s1, ⟨v2, rfl⟩, ha⟩
        obtain ⟨e, he, hd⟩ := hall.get hx
        have out : pairD o e = false → ∀ G, Same H G → Q (.bl false) G := fun hf G sG => by
          refine bq (Q := Q) ?_ (q G sG)
          have : ds.all (pairD o) = false := by
            rw [List.all_eq_false]
            exact ⟨e, List.mem_of_getElem? he, by rw [hf]; decide⟩
          show (ds.all (pairD o) && decide ((ds.map kOf)).Nodup) = false
          rw [this, Bool.false_and]
        have hd1 := hd.same s1
        obtain ⟨t1, ty1, k1⟩ := hd1.ty
        refine ⟨_, rfl, x, .ty "tuple", t1, .type "tuple", isTup e, rfl, .ty "tuple", ty1, k1.t, _, rfl, ?_⟩
        cases c1 : isTup e with
        | false => exact iteT (out (by cases e <;> first | rfl | cases c1) H1 s1)
        | true =>
          obtain ⟨es, rfl⟩ := istup c1
          obtain ⟨pe, ys, rfl, hpe, hale⟩ := hd1.tupI
          have hle := hale.len
          refine iteF ⟨_, rfl, pe, _, rfl, .inr hpe, rfl, _, rfl, ?_⟩
          by_cases h2 : ys.length = 2
          · refine iteNSD (by rw [h2]; rfl) ?_
            obtain ⟨e1, e2, rfl⟩ : ∃ a b, es = [a, b] := by
              match es, (show es.length = 2 by omega) with
              | [a, b], _ => exact ⟨a, b, rfl⟩
            obtain ⟨y1, r1, rfl, g1, hr1⟩ := gd_consI hale
            obtain ⟨y2, rfl, g2⟩ := gdall_one hr1
            refine ⟨_, rfl, pe, _, 0, _, rfl, rfl, hpe, atI_nat (j := 0) rfl, y1, e1, rfl, g1, fun H2 s2 => ⟨_, rfl, ?_⟩⟩
            have s12 := s1.trans s2
            cases ck : keyD e1 with
            | false => exact iteT (out (by show (keyD e1 && toldD o e2) = false; rw [ck]; rfl) H2 s12)
            | true =>
              refine iteF ?_
              refine ⟨_, rfl, pe, _, 1, _, rfl, rfl, same_sqt s2 hpe, atI_nat (j := 1) rfl, y2, e2, rfl, g2.same s2, fun H3 s3 => ⟨_, rfl, ?_⟩⟩
              have s13 := s12.trans s3
              have next : pairD o (.tuple [e1, e2]) = true → (ds.take (j + 1)).all (pairD o) = true := fun ht => by
                rw [List.take_add_one, he, List.all_append, ha]
                simp [ht]
              cases cw : wthD e2 with
              | true =>
                exact iteF (iteF ⟨s13, ⟨_, rfl⟩, next (by show (keyD e1 && (wthD e2 || (o && noneD e2))) = true; rw [ck, cw]; rfl)⟩)
              | false =>
                refine iteT ⟨_, rfl, _, rfl, ?_⟩
                cases o with
                | false => exact iteF (iteT (out (by show (keyD e1 && (wthD e2 || (false && noneD e2))) = false; rw [ck, cw]; rfl) H3 s13))
                | true =>
                  refine iteT ⟨_, rfl, pe, _, 1, _, rfl, rfl, same_sqt (s2.trans s3) hpe, atI_nat (j := 1) rfl, rfl, _, rfl, ?_⟩
                  rw [noneD_dec (g2.same (s2.trans s3))]
                  cases cn : noneD e2 with
                  | true => exact iteF ⟨s13, ⟨_, rfl⟩, next (by show (keyD e1 && (wthD e2 || (true && noneD e2))) = true; rw [ck, cw, cn]; rfl)⟩
                  | false => exact iteT (out (by show (keyD e1 && (wthD e2 || (true && noneD e2))) = false; rw [ck, cw, cn]; rfl) H3 s13)
          · exact iteND (fun z => h2 (by have := V.int.inj z; omega)) (out (by
              match es, hle with
              | [], _ => rfl
              | [_], _ => rfl
              | [_, _], hle => exact absurd (show ys.length = 2 from hle) h2
              | _ :: _ :: _ :: _, _ => rfl) H1 s1)
      · rintro σ H1 ⟨s1, ⟨v2, rfl⟩, ha⟩
        rw [hlen, List.take_length] at ha
        have hp1 := s1.seq hp
        refine ⟨_, rfl, p, rfl, ⟨_, hp1⟩, fun D nD => ?_⟩
        refine lc_list (K := K) (a := p) (xs := xs) (fun j H' => Same H1 H' ∧ H' D = some (.lst (((ds.take j).map kOf).map V.str))) ⟨same_new (Same.refl H1) nD, upd_same⟩ (fun j H' _ z => z.1.seq hp1) ?_ ?_
        · rintro j x H2 hx ⟨s2, hD⟩
          obtain ⟨e, he, hd⟩ := hall.get hx
          obtain ⟨k', w', rfl, hk', _⟩ := pair_inv (List.all_eq_true.mp ha e (List.mem_of_getElem? he))
          obtain ⟨z, rfl, _⟩ := key_str hk'
          obtain ⟨pe, ys, rfl, hpe, hale⟩ := (hd.same (s1.trans s2)).tupI
          obtain ⟨y1, r1, rfl, g1, hr1⟩ := gd_consI hale
          obtain ⟨rfl, _⟩ := g1.strI
          have hjl := (List.getElem?_eq_some_iff.mp hx).1
          refine ⟨rfl, _, rfl, pe, _, 0, _, rfl, rfl, hpe, atI_nat (j := 0) rfl, _, hD, ?_, fun b o' w => ?_, ?_⟩
          · rw [List.length_map, List.length_map, List.length_take]
            exact Nat.lt_of_lt_of_le (show _ < 1001 by omega) (by decide)
          · rw [upd_ne (ne_of_none w nD)]
            exact s2 b o' w
          · rw [upd_same, List.take_add_one, he, List.map_append, List.map_append]
            rfl
        · rintro H2 ⟨s2, hD⟩
          rw [hlen, List.take_length] at hD
          refine ⟨D, (ds.map kOf).map Sum.inr, rfl, SqL.of (by rw [hD, List.map_map, List.map_map, List.map_map]; rfl), by rw [List.length_map, List.length_map]; omega, fun z S m nz g => ⟨z, S, m, rfl, upd_same, ?_⟩⟩
          have s3 : Same H2 (upd H2 z (SM.SetMO P w z S m)) := same_new (Same.refl H2) nz
          refine ⟨_, rfl, p, _, rfl, .inl ((s2.trans s3).seq hp1), rfl, ?_⟩
          refine bq (Q := Q) ?_ (q _ (s1.trans (s2.trans s3)))
          show (ds.all (pairD o) && decide (ds.map kOf).Nodup) = _
          rw [ha, Bool.true_and, hlen]
          refine (dec_int ?_).symm
          have := g.nd
          rw [List.take_length, List.length_map, List.length_map] at this
          exact this.trans nodup_inr

theorem ok_l_is_told {P : Program} {w : World} {K : PySem.W.Frag} {mg : Str → Option Value} {base : Heap} {a : Nat → Addr} {d : Nat → FuncData} (T : Txt K mg a d) : FnOk P w K mg base CX0 4 (a 39) (d 39) ["_law_thing"] (spLookN K toldX) := by
  refine T.F_l_is_told.ok sc_l_is_told (fun vs H Q E h => ?_) (fun cdv A outer s0 H vs Q E hr h => ?_)
  · obtain ⟨v, d', rfl, hg, q⟩ := h
    rfl
  · obtain ⟨v, d', rfl, hg, q⟩ := h
    refine ⟨_, (pss_cons (ps_if (PW.pt (pw_or (pt_not (pt_truth (pe_callB call_isi (by rfl) T.z_isinstance (by decide +kernel) (pa_cons (pv 0) (pa_cons (pe_bltn (v := .ty "tuple") (by rfl) T.z_tuple (by decide +kernel) rfl) pa_nil))) (by intro _; rfl))) (pw_or (pt_cmpR (EN.op_eqE hr.units) (pv 0) (pe_tup pa_nil) (nomark _)) (pw_or1 (pt_not (pt_truth (pe_callB call_isi (by rfl) T.z_isinstance (by decide +kernel) (pa_cons (pe_ix ix_tup (pv 0) pe_int (fun _ _ => rfl)) (pa_cons (pe_bltn (v := .ty "str") (by rfl) T.z_str (by decide +kernel) rfl) pa_nil))) (by intro _; rfl))))))) (pss_one (ps_ret pe_bl)) pss_nil) (pss_cons (ps_if (PW.pt (pw_and (pt_cmpR op_eq (pe_ix ix_tup (pv 0) pe_int (fun _ _ => rfl)) pe_str (nomark _)) (pw_and1 (pt_cmpR op_eq (pe_callB call_len_seq (by rfl) T.z_len PySem.boot_len (pa_cons (pv 0) pa_nil)) pe_int (nomark _))))) (pss_cons (ps_if (PW.pt (pw_or (pt_cmpR (EN.op_neE hr.units) (pe_lc (own := [("_law_one", 1)]) (g := gName 1) (te := (tVar 1)) (tt := (tNot (tTru K (tCall (spWholeG K) [] E0 (tCons (tVar 1) tNil))))) (by rfl) sc_l_is_told.nd (pi_tup (pe_slice sl_tupA (pv 0) (po_some pe_int) (po_some pe_int))) (blkOk_by (own := [("_law_one", 1)]) (N := ["_law_thing", "_law_one"]) (sc := defScope s_l_is_told) (by decide +kernel)) (fun _ _ _ _ _ => (pg_name (i := 1) sc_l_is_told.nd rfl (.inl rfl))) (fun _ _ _ _ _ => (pts_one (pt_not (pt_truth (pe_call (ok_l_whole T) (hr.mono (by decide)) (by rfl) T.g_l_whole T.F_l_whole.kp T.b_l_whole .nil pass0 (pa_cons (pv 1) pa_nil)) (by intro _; rfl))))) (fun _ _ _ _ _ => (pv 1))) (pe_lst pa_nil) (nomark _)) (pw_or1 (pt_not (pt_truth (pe_call (ok_l_is_stamp T) (hr.mono (by decide)) (by rfl) T.g_l_is_stamp T.F_l_is_stamp.kp T.b_l_is_stamp .nil pass0 (pa_cons (pe_ix ix_tup (pv 0) pe_int (fun _ _ => rfl)) pa_nil)) (by intro _; rfl)))))) (pss_one (ps_ret pe_bl)) pss_nil) (pss_one (ps_ret (pe_and (pe_cmpR op_le (pe_ix ix_tup (pv 0) pe_int (fun _ _ => rfl)) (pe_ix ix_tup (pv 0) pe_int (fun _ _ => rfl)) (nomark _)) (pe_and (pe_call (ok_l_are_pairs T) (hr.mono (by decide)) (by rfl) T.g_l_are_pairs T.F_l_are_pairs.kp T.b_l_are_pairs .nil pass0 (pa_cons (pe_ix ix_tup (pv 0) pe_int (fun _ _ => rfl)) (pa_cons pe_bl pa_nil))) (pe_one (pe_call (ok_l_are_pairs T) (hr.mono (by decide)) (by rfl) T.g_l_are_pairs T.F_l_are_pairs.kp T.b_l_are_pairs .nil pass0 (pa_cons (pe_ix ix_tup (pv 0) pe_int (fun _ _ => rfl)) (pa_cons pe_bl pa_nil))))))))) pss_nil) (pss_cons (ps_if (PW.pt (pw_and (pt_cmpR op_eq (pe_ix ix_tup (pv 0) pe_int (fun _ _ => rfl)) pe_str (nomark _)) (pw_and1 (pt_cmpR op_eq (pe_callB call_len_seq (by rfl) T.z_len PySem.boot_len (pa_cons (pv 0) pa_nil)) pe_int (nomark _))))) (pss_one (ps_ret (pe_and (pe_call (ok_l_whole T) (hr.mono (by decide)) (by rfl) T.g_l_whole T.F_l_whole.kp T.b_l_whole .nil pass0 (pa_cons (pe_ix ix_tup (pv 0) pe_int (fun _ _ => rfl)) pa_nil)) (pe_and (pe_call (ok_l_whole T) (hr.mono (by decide)) (by rfl) T.g_l_whole T.F_l_whole.kp T.b_l_whole .nil pass0 (pa_cons (pe_ix ix_tup (pv 0) pe_int (fun _ _ => rfl)) pa_nil)) (pe_one (pe_chain op_le op_le pe_int (pe_ix ix_tup (pv 0) pe_int (fun _ _ => rfl)) pe_int)))))) pss_nil) (pss_cons (ps_if (PW.pt (pw_and (pt_cmpR op_in_seq (pe_ix ix_tup (pv 0) pe_int (fun _ _ => rfl)) (pe_tup (pa_cons pe_str (pa_cons pe_str pa_nil))) (by rfl)) (pw_and1 (pt_cmpR op_eq (pe_callB call_len_seq (by rfl) T.z_len PySem.boot_len (pa_cons (pv 0) pa_nil)) pe_int (nomark _))))) (pss_cons (ps_if (PW.pt (pw_or (pt_not (pt_truth (pe_call (ok_l_whole T) (hr.mono (by decide)) (by rfl) T.g_l_whole T.F_l_whole.kp T.b_l_whole .nil pass0 (pa_cons (pe_ix ix_tup (pv 0) pe_int (fun _ _ => rfl)) pa_nil)) (by intro _; rfl))) (pw_or (pt_not (pt_truth (pe_call (ok_l_whole T) (hr.mono (by decide)) (by rfl) T.g_l_whole T.F_l_whole.kp T.b_l_whole .nil pass0 (pa_cons (pe_ix ix_tup (pv 0) pe_int (fun _ _ => rfl)) pa_nil)) (by intro _; rfl))) (pw_or1 (pt_not (pt_truth (pe_call (ok_l_is_key T) (hr.mono (by decide)) (by rfl) T.g_l_is_key T.F_l_is_key.kp T.b_l_is_key .nil pass0 (pa_cons (pe_ix ix_tup (pv 0) pe_int (fun _ _ => rfl)) pa_nil)) (by intro _; rfl))))))) (pss_one (ps_ret pe_bl)) pss_nil) (pss_one (ps_ret (pe_or (pe_cmpR op_isN (pe_ix ix_tup (pv 0) pe_int (fun _ _ => rfl)) pe_non (nomark _)) (pe_one (pe_call (ok_l_is_worth T) (hr.mono (by decide)) (by rfl) T.g_l_is_worth T.F_l_is_worth.kp T.b_l_is_worth .nil pass0 (pa_cons (pe_ix ix_tup (pv 0) pe_int (fun _ _ => rfl)) pa_nil))))))) pss_nil) (pss_one (ps_ret pe_bl)))))), ?_⟩
    obtain ⟨t, ty, k⟩ := hg.ty
    refine ⟨_, rfl, v, .ty "tuple", t, .type "tuple", isTup d', rfl, .ty "tuple", ty, k.t, _, rfl, ?_⟩
    cases c : isTup d' with
    | false =>
      refine iteT (bq (Q := Q) ?_ (q H (Same.refl H)))
      cases d' <;> first | rfl | cases c
    | true =>
      obtain ⟨ds, rfl⟩ := istup c
      obtain ⟨p, xs, rfl, hp, hall⟩ := hg.tupI
      refine iteF ⟨_, rfl, (by decide : 0 ≤ sizeLine), fun e ne => ?_⟩
      have s1 : Same H (upd H e (.tup [])) := same_new (Same.refl H) ne
      have he : (upd H e (.tup [])) e = some (.tup []) := upd_same
      generalize (upd H e (.tup [])) = H1 at s1 he ⊢
      have hp1 := same_sqt s1 hp
      refine ⟨xs, ⟨p, e, rfl, rfl, .inr ⟨hp1, SqT.of he⟩⟩, _, rfl, ?_⟩
      cases ds with
      | nil =>
        cases gdall_nil hall
        exact iteT (q _ s1)
      | cons d0 r =>
        have hallF := hall
        obtain ⟨x0, xr0, rfl, hd0, hr0⟩ := gd_consI hall
        have hlen := hallF.len
        obtain ⟨t0, ty0, k0⟩ := (hd0.same s1).ty
        refine iteF ⟨_, rfl, p, _, 0, _, rfl, rfl, hp1, atI_nat (j := 0) rfl, x0, .ty "str", t0, .type "str", isStr d0, rfl, .ty "str", ty0, k0.s, _, rfl, ?_⟩
        cases c0 : isStr d0 with
        | false =>
          refine iteT (bq (Q := Q) ?_ (q _ s1))
          cases d0 <;> first | rfl | cases c0
        | true =>
          refine iteF ?_
          obtain ⟨z, rfl⟩ := isstr c0
          obtain ⟨rfl, hz⟩ := hd0.strI
          by_cases z1 : z = ("dealing" : Str)
          · subst z1
            refine ⟨_, rfl, p, _, 0, _, rfl, rfl, hp1, atI_nat (j := 0) rfl, rfl, _, rfl, iteDT (congrArg V.str rfl) ⟨_, rfl, p, _, rfl, .inr hp1, rfl, _, rfl, ?_⟩⟩
            by_cases h7 : (PyData.str "dealing" :: r).length = 7
            · obtain ⟨e0, ea, eb, ec, es, er, ew, e7⟩ := len7 h7
              obtain ⟨x0', r1, ex0, _, g1⟩ := gd_consI (e7 ▸ hallF)
              obtain ⟨xa, r2, rfl, ga, g2⟩ := gd_consI g1
              obtain ⟨xb, r3, rfl, gb, g3⟩ := gd_consI g2
              obtain ⟨xc, r4, rfl, gc, g4⟩ := gd_consI g3
              obtain ⟨xs', r5, rfl, gs, g5⟩ := gd_consI g4
              obtain ⟨xr, r6, rfl, gr, g6⟩ := gd_consI g5
              obtain ⟨xw, rfl, gw⟩ := gdall_one g6
              cases ex0
              have er' : r = [ea, eb, ec, es, er, ew] := (List.cons.inj e7).2
              subst er'
              have lk : toldX (.tuple [.str "dealing", ea, eb, ec, es, er, ew]) = (wholeD ea && wholeD eb && wholeD ec && stampD es && (decide (intOf eb ≤ intOf ec) && (pairsU true er && pairsU false ew))) := rfl
              rw [lk] at q
              refine iteDT (by rfl) ⟨_, rfl, _, rfl, _, rfl, p, _, rfl, hp1, fun e => absurd e.1 (by show ¬ HT.sIx 7 0 (some 1) = 0; decide), fun ne2 u nu => ?_⟩
              rw [cut_mid] at *
              have s2 : Same H1 (upd H1 u (.tup [xa, xb, xc])) := same_new (Same.refl H1) nu
              have hu : (upd H1 u (.tup [xa, xb, xc])) u = some (.tup [xa, xb, xc]) := upd_same
              generalize (upd H1 u (.tup [xa, xb, xc])) = H2 at s2 hu ⊢
              have s12 := s1.trans s2
              have hp2 := same_sqt s2 hp1
              have g123 : GdAll K H [xa, xb, xc] [ea, eb, ec] := .cons ga (.cons gb (.cons gc .nil))
              have hlen : [xa, xb, xc].length = [ea, eb, ec].length := rfl
              have h33 : [ea, eb, ec].length = 3 := rfl
              have h34 : [xa, xb, xc].length = 3 := rfl
              refine ⟨u, rfl, ⟨_, SqT.of hu⟩, fun D nD => ?_⟩
              refine lc_tup (K := K) (a := u) (xs := [xa, xb, xc]) (fun j H' => Same H2 H' ∧ ∃ zs, H' D = some (.lst zs) ∧ Kept wholeD [ea, eb, ec] j zs) ⟨same_new (Same.refl H2) nD, [], upd_same, Kept.nil⟩ (fun j H' _ z => SqT.of (z.1 _ _ hu)) ?_ ?_
              · rintro j x H' hx ⟨sA, zs, hD, hk⟩
                obtain ⟨e, he, hd⟩ := GdAll.get g123 hx
                have hjl := (List.getElem?_eq_some_iff.mp hx).1
                have hkl := hk.len
                refine ⟨rfl, _, rfl, x, e, rfl, hd.same (s12.trans sA), _, rfl, ?_⟩
                cases c2 : wholeD e with
                | true => exact iteF ⟨sA, zs, hD, hk.left he c2⟩
                | false =>
                  refine iteT ⟨_, rfl, _, hD, ?_, fun b o w => ?_, _, upd_same, hk.put he c2⟩
                  · exact Nat.lt_of_lt_of_le (show zs.length < 1001 by omega) (by decide)
                  · rw [upd_ne (ne_of_none w nD)]
                    exact (sA) b o w
              · rintro H' ⟨sA, zs, hD, hk⟩
                refine ⟨(by decide : 0 ≤ sizeLine), fun e ne => ?_⟩
                have sN : Same H' (upd H' e (.lst [])) := same_new (Same.refl H') ne
                have hD2 := sN _ _ hD
                have em := hk.all (Nat.le_of_eq hlen.symm)
                have sE := sA.trans sN
                refine ⟨zs, ⟨D, e, rfl, rfl, .inl ⟨SqL.of hD2, SqL.of upd_same⟩⟩, _, rfl, ?_⟩
                cases c3 : [ea, eb, ec].all wholeD with
                | false =>
                  refine iteNB (em.trans c3) (bq (Q := Q) ?_ (q _ (s12.trans sE)))
                  simp only [List.all_cons, List.all_nil, Bool.and_true] at c3
                  rw [← Bool.and_assoc] at c3
                  rw [c3, Bool.false_and, Bool.false_and]
                | true =>
                  refine iteNSB (em.trans c3) ?_
                  have hp3 := same_sqt sE hp2
                  have s13 := s12.trans sE
                  simp only [List.all_cons, List.all_nil, Bool.and_true, Bool.and_eq_true] at c3
                  obtain ⟨w1, w2, w3⟩ := c3
                  refine ⟨_, rfl, p, _, 4, _, rfl, rfl, hp3, atI_nat (j := 4) rfl, xs', es, rfl, gs.same s13, fun H3 s3 => ⟨_, rfl, ?_⟩⟩
                  have s14 := s13.trans s3
                  have hp4 := same_sqt s3 hp3
                  cases c4 : stampD es with
                  | false =>
                    refine iteT (bq (Q := Q) ?_ (q _ s14))
                    rw [c4, Bool.and_false, Bool.false_and]
                  | true =>
                    refine iteF ?_
                    obtain ⟨ib, rfl⟩ := whole_int w2
                    obtain ⟨ic, rfl⟩ := whole_int w3
                    cases gb.intI
                    cases gc.intI
                    rw [w1, w2, w3, c4] at q
                    refine ⟨_, rfl, p, _, 2, _, rfl, rfl, hp4, atI_nat (j := 2) rfl, _, rfl, p, _, 3, _, rfl, rfl, hp4, atI_nat (j := 3) rfl, ib, ic, rfl, rfl, _, rfl, ?_⟩
                    have q : ∀ H', Same H H' → Q (.bl (decide (ib ≤ ic) && (pairsU true er && pairsU false ew))) H' := q
                    cases c5 : decide (ib ≤ ic) with
                    | false =>
                      rw [c5] at q
                      exact iteF (q _ s14)
                    | true =>
                      rw [c5, Bool.true_and] at q
                      refine iteT ⟨_, rfl, p, _, 5, _, rfl, rfl, hp4, atI_nat (j := 5) rfl, xr, er, true, rfl, gr.same s14, fun H4 s4 => ⟨_, rfl, ?_⟩⟩
                      have s15 := s14.trans s4
                      cases c6 : pairsU true er with
                      | false =>
                        rw [c6] at q
                        exact iteF (q _ s15)
                      | true =>
                        rw [c6, Bool.true_and] at q
                        exact iteT ⟨_, rfl, p, _, 6, _, rfl, rfl, same_sqt s4 hp4, atI_nat (j := 6) rfl, xw, ew, false, rfl, gw.same s15, fun H5 s5 => q _ (s15.trans s5)⟩
            · refine iteDF (fun z => h7 (by have := V.int.inj z; omega)) ?_
              refine iteF (A := True) ?_
              refine ⟨_, rfl, p, _, 0, _, rfl, rfl, hp1, atI_nat (j := 0) rfl, rfl, _, rfl, iteDF (fun z => w_deal_form (V.str.inj z)) ?_⟩
              refine iteF (A := True) ?_
              refine ⟨_, rfl, p, _, 0, _, rfl, rfl, hp1, atI_nat (j := 0) rfl, len2, fun u nu => ⟨u, _, rfl, .inr (SqT.of upd_same), rfl, rfl, _, rfl, iteBF in_deal ?_⟩⟩
              refine iteF (A := True) ?_
              exact bq (Q := Q) (told_short h7) (q _ (s1.trans (same_new (Same.refl H1) nu)))
          · refine ⟨_, rfl, p, _, 0, _, rfl, rfl, hp1, atI_nat (j := 0) rfl, rfl, _, rfl, iteDF (fun z => z1 (V.str.inj z)) ?_⟩
            refine iteF (A := True) ?_
            by_cases z2 : z = ("form" : Str)
            · subst z2
              refine ⟨_, rfl, p, _, 0, _, rfl, rfl, hp1, atI_nat (j := 0) rfl, rfl, _, rfl, iteDT (congrArg V.str rfl) ⟨_, rfl, p, _, rfl, .inr hp1, rfl, _, rfl, ?_⟩⟩
              by_cases h3 : (PyData.str "form" :: r).length = 3
              · obtain ⟨e0, e1, e2, e7⟩ := len3' h3
                obtain ⟨x0', r1, ex0, _, g1⟩ := gd_consI (e7 ▸ hallF)
                obtain ⟨x1, r2, rfl, ga, g2⟩ := gd_consI g1
                obtain ⟨x2, rfl, gb⟩ := gdall_one g2
                cases ex0
                have er' : r = [e1, e2] := (List.cons.inj e7).2
                subst er'
                have lk : toldX (.tuple [.str "form", e1, e2]) = (wholeD e1 && fromToD 1 4 e2) := rfl
                rw [lk] at q
                refine iteDT (by rfl) ?_
                refine ⟨_, rfl, p, _, 1, _, rfl, rfl, hp1, atI_nat (j := 1) rfl, x1, e1, rfl, ga.same s1, _, rfl, ?_⟩
                cases c1 : wholeD e1 with
                | false =>
                  rw [c1] at q
                  exact iteF (q _ s1)
                | true =>
                  rw [c1, Bool.true_and] at q
                  refine iteT ⟨_, rfl, p, _, 2, _, rfl, rfl, hp1, atI_nat (j := 2) rfl, x2, e2, rfl, gb.same s1, _, rfl, ?_⟩
                  cases c2 : wholeD e2 with
                  | false => exact iteF (bq (Q := Q) (by cases e2 <;> first | rfl | cases c2) (q _ s1))
                  | true =>
                    obtain ⟨i2, rfl⟩ := whole_int c2
                    cases gb.intI
                    refine iteT ⟨_, rfl, p, _, 2, _, rfl, rfl, hp1, atI_nat (j := 2) rfl, 1, i2, rfl, rfl, _, rfl, ?_⟩
                    have q : ∀ H', Same H H' → Q (.bl (decide (1 ≤ i2) && decide (i2 ≤ 4))) H' := q
                    by_cases g : 1 ≤ i2
                    · rw [decide_eq_true g, Bool.true_and] at q
                      exact iteDT g ⟨i2, 4, rfl, rfl, q _ s1⟩
                    · rw [decide_eq_false g] at q
                      exact iteDF g (q _ s1)
              · refine iteDF (fun z => h3 (by have := V.int.inj z; omega)) ?_
                refine iteF (A := True) ?_
                refine ⟨_, rfl, p, _, 0, _, rfl, rfl, hp1, atI_nat (j := 0) rfl, len2, fun u nu => ⟨u, _, rfl, .inr (SqT.of upd_same), rfl, rfl, _, rfl, iteBF in_form ?_⟩⟩
                refine iteF (A := True) ?_
                exact bq (Q := Q) (told_shortF h3) (q _ (s1.trans (same_new (Same.refl H1) nu)))
            · refine ⟨_, rfl, p, _, 0, _, rfl, rfl, hp1, atI_nat (j := 0) rfl, rfl, _, rfl, iteDF (fun z => z2 (V.str.inj z)) ?_⟩
              refine iteF (A := True) ?_
              by_cases z3 : z = ("read" : Str) ∨ z = ("now" : Str)
              · obtain ⟨n, rfl⟩ : ∃ n, z = rwName n := by
                  rcases z3 with rfl | rfl
                  · exact ⟨false, rfl⟩
                  · exact ⟨true, rfl⟩
                refine ⟨_, rfl, p, _, 0, _, rfl, rfl, hp1, atI_nat (j := 0) rfl, len2, fun u nu => ⟨u, _, rfl, .inr (SqT.of upd_same), rfl, rfl, _, rfl, iteBT (in_rw n) ?_⟩⟩
                have s2 : Same H1 (upd H1 u (.tup [.str "read", .str "now"])) := same_new (Same.refl H1) nu
                generalize (upd H1 u (.tup [.str "read", .str "now"])) = H2 at s2 ⊢
                have s12 := s1.trans s2
                have hp2 := same_sqt s2 hp1
                refine ⟨_, rfl, p, _, rfl, .inr hp2, rfl, _, rfl, ?_⟩
                by_cases h5 : (PyData.str (rwName n) :: r).length = 5
                · obtain ⟨e0, e1, e2, e3, e4, e7⟩ := len5 h5
                  obtain ⟨x0', r1, ex0, _, g1⟩ := gd_consI (e7 ▸ hallF)
                  obtain ⟨x1, r2, rfl, ga, g2⟩ := gd_consI g1
                  obtain ⟨x2, r3, rfl, gb, g3⟩ := gd_consI g2
                  obtain ⟨x3, r4, rfl, gc, g4⟩ := gd_consI g3
                  obtain ⟨x4, rfl, gw⟩ := gdall_one g4
                  cases ex0
                  have er' : r = [e1, e2, e3, e4] := (List.cons.inj e7).2
                  subst er'
                  rw [told_rw] at q
                  have q : ∀ H', Same H H' → Q (.bl (wholeD e1 && wholeD e2 && keyD e3 && toldD true e4)) H' := q
                  refine iteDT (by rfl) ?_
                  refine ⟨_, rfl, p, _, 1, _, rfl, rfl, hp2, atI_nat (j := 1) rfl, x1, e1, rfl, ga.same s12, _, rfl, ?_⟩
                  cases c1 : wholeD e1 with
                  | false =>
                    rw [c1] at q
                    exact iteT (q _ s12)
                  | true =>
                    rw [c1, Bool.true_and] at q
                    refine iteF ⟨_, rfl, p, _, 2, _, rfl, rfl, hp2, atI_nat (j := 2) rfl, x2, e2, rfl, gb.same s12, _, rfl, ?_⟩
                    cases c2 : wholeD e2 with
                    | false =>
                      rw [c2] at q
                      exact iteT (q _ s12)
                    | true =>
                      rw [c2, Bool.true_and] at q
                      refine iteF ⟨_, rfl, p, _, 3, _, rfl, rfl, hp2, atI_nat (j := 3) rfl, x3, e3, rfl, gc.same s12, fun H3 s3 => ⟨_, rfl, ?_⟩⟩
                      have s13 := s12.trans s3
                      cases c3 : keyD e3 with
                      | false =>
                        rw [c3] at q
                        exact iteT (q _ s13)
                      | true =>
                        rw [c3, Bool.true_and] at q
                        have hp3 := same_sqt s3 hp2
                        refine iteF ⟨_, rfl, p, _, 4, _, rfl, rfl, hp3, atI_nat (j := 4) rfl, rfl, _, rfl, ?_⟩
                        rw [noneD_dec (gw.same s13)]
                        cases c4 : noneD e4 with
                        | true =>
                          have e : toldD true e4 = true := by
                            unfold toldD
                            rw [c4]
                            simp
                          rw [e] at q
                          exact iteT (q _ s13)
                        | false =>
                          have e : toldD true e4 = wthD e4 := by
                            unfold toldD
                            rw [c4]
                            simp
                          rw [e] at q
                          exact iteF ⟨_, rfl, p, _, 4, _, rfl, rfl, hp3, atI_nat (j := 4) rfl, x4, e4, rfl, gw.same s13, fun H4 s4 => q _ (s13.trans s4)⟩
                · refine iteDF (fun z => h5 (by have := V.int.inj z; omega)) ?_
                  refine iteF (A := True) ?_
                  exact bq (Q := Q) (told_shortR h5) (q _ s12)
              · refine ⟨_, rfl, p, _, 0, _, rfl, rfl, hp1, atI_nat (j := 0) rfl, len2, fun u nu => ⟨u, _, rfl, .inr (SqT.of upd_same), rfl, rfl, _, rfl, iteBF (in_no (fun h => z3 (.inl h)) fun h => z3 (.inr h)) ?_⟩⟩
                refine iteF (A := True) ?_
                exact bq (Q := Q) (told_other z1 z2 (fun h => z3 (.inl h)) fun h => z3 (.inr h)) (q _ (s1.trans (same_new (Same.refl H1) nu)))

section
open PySem PySem.Spec PyProof.Rows L2
/-- t > u, t >= u of tuples of ints -/
def rCmpT (K : PySem.W.Frag) (r : Int → Int → Bool) (z : Nat → Nat → Bool) : R2 := fun x y H Q => ∃ (a b : Addr) (ns ms : List Int), x = .ref a ∧ y = .ref b ∧ SqT K H a (ns.map V.int) ∧ SqT K H b (ms.map V.int) ∧
  Q (.bl (Ob.lexAt (fun j => decide (ns.getD j 0 = ms.getD j 0)) (fun j => r (ns.getD j 0) (ms.getD j 0)) (z ns.length ms.length) 0 (min ns.length ms.length))) H
theorem vals_at : ∀ {ns : List Int} {us : List Value}, Vals (ns.map V.int) us → ns.length = us.length ∧ ∀ j (h : j < us.length), ∃ t, us[j] = .int (ns.getD j 0) t
  | [], _, .nil => ⟨rfl, fun j h => absurd h (Nat.not_lt_zero j)⟩
  | n :: r, _, .cons ⟨t, e⟩ q => by
    obtain ⟨l, f⟩ := vals_at (ns := r) q
    refine ⟨congrArg Nat.succ l, fun j h => ?_⟩
    cases j with
    | zero => exact ⟨t, e⟩
    | succ j => exact f j (Nat.lt_of_succ_lt_succ h)
/-- an order of tuples of ints out of the order of their items: tup lifts it, one is that of two ints -/
theorem op_cmpT {X : Cx} {op : CmpOp} {rr : Int → Int → Bool} {zz : Nat → Nat → Bool} (rich : ∀ v u, compareOp op v u = richCompare op v u)
    (tup : ∀ {s : Shared} {l b : Addr} {is js : Array Value} {e r : Nat → Bool}, s.heap.IsTuple l is → s.heap.IsTuple b js → (∀ j (h1 : j < is.size) (h2 : j < js.size), SeqAt.EqAt X.A.in1 s is[j] js[j] (e j)) →
      (∀ j (h1 : j < is.size) (h2 : j < js.size), e j = false → Ob.RcOp op X.A.in1 s is[j] js[j] (r j)) → Ob.RcOp op X.A s (.ref l) (.ref b) (Ob.lexAt e r (zz is.size js.size) 0 (min is.size js.size)))
    (one : ∀ {s : Shared} (a b : Int) (t u : Tok), Ob.RcOp op X.A.in1 s (.int a t) (.int b u) (rr a b)) : OpR X (compareOp op) (rCmpT X.K rr zz) := by
  rintro pins s σ H x y v u Q I rx ry ⟨a, b, ns, ms, rfl, rfl, ha, hb, q⟩
  cases rx
  cases ry
  obtain ⟨us, ru, tu, _⟩ := I.tuple ha
  obtain ⟨ws, rw', tw, _⟩ := I.tuple hb
  obtain ⟨lu, fu⟩ := vals_at ru
  obtain ⟨lw, fw⟩ := vals_at rw'
  have go := tup (e := fun j => decide (ns.getD j 0 = ms.getD j 0)) (r := fun j => rr (ns.getD j 0) (ms.getD j 0)) tu tw
    (fun j h1 h2 => by
      obtain ⟨t, et⟩ := fu j (by simpa using h1)
      obtain ⟨t', et'⟩ := fw j (by simpa using h2)
      have key : SeqAt.EqAt X.A.in1 s (.int (ns.getD j 0) t) (.int (ms.getD j 0) t') (ns.getD j 0 == ms.getD j 0) := SeqAt.EqAt.int_int _ _ _ _
      have same : (ns.getD j 0 == ms.getD j 0) = decide (ns.getD j 0 = ms.getD j 0) := rfl
      rw [same, ← et, ← et'] at key
      exact key)
    (fun j h1 h2 _ => by
      obtain ⟨t, et⟩ := fu j (by simpa using h1)
      obtain ⟨t', et'⟩ := fw j (by simpa using h2)
      have key := one (s := s) (ns.getD j 0) (ms.getD j 0) t t'
      rw [← et, ← et'] at key
      exact key)
  rw [List.size_toArray, List.size_toArray, ← lu, ← lw] at go
  rw [rich]
  exact go X.prog X.w X.xe _ ⟨.bl _, H, I, rfl, q⟩
theorem op_gtT {X : Cx} (hu : X.A.units < cLine) : OpR X (compareOp .Gt) (rCmpT X.K (fun a b => decide (b < a)) (fun n m => decide (n > m))) :=
  op_cmpT (fun _ _ => rfl) (fun h1 h2 he hr => Ob.RcOp.tuples_gt h1 h2 hu he hr) (fun a b t u => Ob.RcOp.gt_int a b t u)
theorem op_geT {X : Cx} (hu : X.A.units < cLine) : OpR X (compareOp .GtE) (rCmpT X.K (fun a b => decide (b ≤ a)) (fun n m => decide (n ≥ m))) :=
  op_cmpT (fun _ _ => rfl) (fun h1 h2 he hr => Ob.RcOp.tuples_ge h1 h2 hu he hr) (fun a b t u => Ob.RcOp.ge_int a b t u)
end
/-! ### the law's look at an order is the program's -/
theorem go_of : ∀ {ds : List Deal} {o : Option Int}, (∀ l, o = some l → ∀ d ∈ ds, l < d.told) → ds.Pairwise (fun a b => a.beg < b.told) → goB o ds = true
  | [], o, _, _ => by cases o <;> rfl
  | d :: r, o, h, hp => by
    obtain ⟨h1, h2⟩ := List.pairwise_cons.mp hp
    cases o with
    | none =>
      show goB (some d.beg) r = true
      exact go_of (o := some d.beg) (fun l e x hx => by cases e; exact h1 x hx) h2
    | some l =>
      show (!decide (d.told ≤ l) && goB (some (max l d.beg)) r) = true
      have e1 : ¬ d.told ≤ l := by have := h l rfl d (.head _); omega
      rw [decide_eq_false e1, go_of (fun l' e x hx => by
        cases e
        have a := h l rfl x (.tail _ hx)
        have b := h1 x hx
        omega) h2]
      rfl
theorem rd_of : ∀ {ds : List Deal} {m : Str → Option (List Int)}, (∀ (i : Nat) (d : Deal), ds[i]? = some d → ∀ p ∈ d.rs, ((ds.take i).foldl putD m) p.1 = p.2) → rdB m ds = true
  | [], _, _ => rfl
  | d :: r, m, h => by
    show ((d.rs.all fun p => decide (m p.1 = p.2)) && rdB (d.ws.foldl putW m) r) = true
    rw [Bool.and_eq_true]
    refine ⟨List.all_eq_true.mpr fun p hp => decide_eq_true (h 0 d rfl p hp), rd_of fun i x hx p hp => ?_⟩
    have := h (i + 1) x (by simpa using hx) p hp
    rw [List.take_succ_cons, List.foldl_cons] at this
    exact this
theorem srt_mem {ds : List Deal} {d : Deal} : d ∈ srt ds ↔ d ∈ ds := List.mem_mergeSort
theorem lack_srt (ds : List Deal) (a t : Int) : lackB (srt ds) a t = lackB ds a t := by
  unfold lackB
  rw [Bool.eq_iff_iff, List.any_eq_true, List.any_eq_true]
  exact ⟨fun ⟨d, h, e⟩ => ⟨d, List.mem_mergeSort.mp h, e⟩, fun ⟨d, h, e⟩ => ⟨d, List.mem_mergeSort.mpr h, e⟩⟩
theorem deals_mem {rs : List Row} {d : Deal} (h : d ∈ dealsOf rs) : Row.deal d ∈ rs := by
  obtain ⟨r, hr, e⟩ := List.mem_filterMap.mp h
  cases r with
  | deal x => cases e; exact hr
  | form t f => cases e
  | read n a t k w => cases e
theorem mem_deals {rs : List Row} {d : Deal} (h : Row.deal d ∈ rs) : d ∈ dealsOf rs := List.mem_filterMap.mpr ⟨_, h, rfl⟩
theorem fits_read {rs : List Row} (hg : ∀ r ∈ rs, r.good) (hs : ((dealsOf rs).map (·.st)).Nodup) (r : Row) : fitsB rs (dealsOf rs) r = readB rs (srt (dealsOf rs)) r := by
  cases r with
  | deal d => rfl
  | form t f => rfl
  | read n a t k w =>
    have h0 : ∀ d ∈ dealsOf rs, 0 ≤ d.s2 := fun d hd => (hg _ (deals_mem hd)).1
    show (decide (w = shp (wOf (dealsOf rs) k [t + 1, -1, -1]) (lastUp (formS rs) t)) && (!n || !lackB (dealsOf rs) a t)) = (decide (shp (lastUp (verS (srt (dealsOf rs)) k) t) (lastUp (formS rs) t) = w) && !(n && lackB (srt (dealsOf rs)) a t))
    rw [wOf_up hs h0, lack_srt, Bool.not_and]
    congr 1
    exact decide_eq_decide.mpr ⟨fun e => e.symm, fun e => e.symm⟩
theorem all_reads {rs : List Row} {ds : List Deal} : rs.all (readB rs ds) = readsB rs ds := by
  rw [Bool.eq_iff_iff]
  constructor
  · intro h
    unfold readsB
    refine List.all_eq_true.mpr fun r hr => List.all_eq_true.mp h r ?_
    rcases List.mem_append.mp hr with hr | hr
    · exact (List.mem_filter.mp hr).1
    · exact (List.mem_filter.mp hr).1
  · exact fun h => List.all_eq_true.mpr fun r hr => reads_at h hr
theorem fit_parts {rs : List Row} (h : fitB (srt (dealsOf rs)) = true) : ((dealsOf rs).map (·.num)).Nodup ∧ ((dealsOf rs).map (·.st)).Nodup ∧ ∀ r ∈ rs, xB r = true := by
  unfold fitB at h
  simp only [Bool.and_eq_true, decide_eq_true_eq] at h
  have pm := List.mergeSort_perm (dealsOf rs) fun a b : Deal => stLe a.st b.st
  refine ⟨(pm.map (·.num)).nodup_iff.mp h.1.1, (pm.map (·.st)).nodup_iff.mp h.1.2, fun r hr => ?_⟩
  cases r with
  | form t f => rfl
  | read n a t k w => rfl
  | deal d =>
    have := List.all_eq_true.mp h.2 d (List.mem_mergeSort.mpr (mem_deals hr))
    simp only [Bool.and_eq_true, Bool.not_eq_true', decide_eq_false_iff_not, decide_eq_true_eq] at this
    unfold xB
    simp only [Bool.and_eq_true, decide_eq_true_eq]
    exact ⟨by omega, this.2⟩
theorem fit_of {rs : List Row} (h1 : ((dealsOf rs).map (·.num)).Nodup) (h2 : ((dealsOf rs).map (·.st)).Nodup) (hx : ∀ r ∈ rs, xB r = true) : fitB (srt (dealsOf rs)) = true := by
  have pm := List.mergeSort_perm (dealsOf rs) fun a b : Deal => stLe a.st b.st
  unfold fitB
  simp only [Bool.and_eq_true, decide_eq_true_eq]
  refine ⟨⟨(pm.map (·.num)).nodup_iff.mpr h1, (pm.map (·.st)).nodup_iff.mpr h2⟩, List.all_eq_true.mpr fun d hd => ?_⟩
  have := hx _ (deals_mem (List.mem_mergeSort.mp hd))
  unfold xB at this
  simp only [Bool.and_eq_true, decide_eq_true_eq] at this
  simp only [Bool.and_eq_true, Bool.not_eq_true', decide_eq_false_iff_not, decide_eq_true_eq]
  exact ⟨by omega, this.2⟩
theorem lawR_eq {rs : List Row} (hx : ∀ r ∈ rs, xB r = true) (hg : ∀ r ∈ rs, r.good) : lawR rs = ordR rs := by
  rw [Bool.eq_iff_iff]
  constructor
  · intro h
    unfold lawR at h
    simp only [Bool.and_eq_true, decide_eq_true_eq] at h
    obtain ⟨⟨h1, h2⟩, h3, h4⟩ := h
    have hone : ∀ d ∈ dealsOf rs, pairOk (dealsOf rs) d = true ∧ readsOk (dealsOf rs) d = true := fun d hd => by
      have := List.all_eq_true.mp h3 d hd
      rw [Bool.and_eq_true] at this
      exact this
    have g1 := fit_of h1 h2 hx
    have g2 : goB none (srt (dealsOf rs)) = true := by
      refine go_of (fun l e => by cases e) ?_
      have pn : (srt (dealsOf rs)).Pairwise fun a b => a.num ≠ b.num := by
        have := ((List.mergeSort_perm (dealsOf rs) fun a b : Deal => stLe a.st b.st).map (·.num)).nodup_iff.mpr h1
        exact List.pairwise_map.mp this
      refine List.Pairwise.imp_of_mem (fun {a b} ha hb hab => ?_) ((srt_lt h2).and pn)
      have hp := (hone b (List.mem_mergeSort.mp hb)).1
      have := List.all_eq_true.mp hp a (List.mem_mergeSort.mp ha)
      rw [decide_eq_false hab.2, decide_eq_true (List.le_of_lt hab.1)] at this
      by_cases c : b.told ≤ a.beg
      · rw [decide_eq_true c] at this
        cases this
      · omega
    have g3 : rdB (fun _ => none) (srt (dealsOf rs)) = true := by
      refine rd_of fun i d hd p hp => ?_
      have hr := (hone d (List.mem_mergeSort.mp (List.mem_of_getElem? hd))).2
      have := of_decide_eq_true (List.all_eq_true.mp hr p hp)
      rw [this, wOf_own h2 p.1 hd]
      rfl
    have g4 : readsB rs (srt (dealsOf rs)) = true := by
      rw [← all_reads]
      refine List.all_eq_true.mpr fun r hr => ?_
      rw [← fits_read hg h2]
      exact List.all_eq_true.mp h4 r hr
    unfold ordR
    rw [g1, g2, g3, g4]
    simp
  · intro h
    obtain ⟨g1, g2, g3, g4⟩ := ord_parts h
    obtain ⟨h1, h2, _⟩ := fit_parts g1
    unfold lawR
    simp only [Bool.and_eq_true, decide_eq_true_eq]
    refine ⟨⟨h1, h2⟩, List.all_eq_true.mpr fun d hd => ?_, List.all_eq_true.mpr fun r hr => ?_⟩
    · obtain ⟨j, hj, ej⟩ := List.getElem_of_mem (srt_mem.mpr hd)
      have ej' : (srt (dealsOf rs))[j]? = some d := by rw [List.getElem?_eq_getElem hj, ej]
      rw [Bool.and_eq_true]
      refine ⟨List.all_eq_true.mpr fun o ho => ?_, List.all_eq_true.mpr fun p hp => decide_eq_true ?_⟩
      · by_cases c1 : o.num = d.num
        · rw [decide_eq_true c1]
          rfl
        by_cases c2 : o.st ≤ d.st
        · have ht : o.beg < d.told := by
            obtain ⟨i, hi, ei⟩ := List.getElem_of_mem (srt_mem.mpr ho)
            have hij : i < j := by
              rcases Nat.lt_trichotomy i j with h | h | h
              · exact h
              · subst h
                exact absurd (by rw [← ei, ← ej]) c1
              · have := List.pairwise_iff_getElem.mp (srt_lt h2) j i hj hi h
                rw [ei, ej] at this
                exact absurd this (List.not_lt.mpr c2)
            refine (go_at g2 j d ej').2 o ?_
            rw [← ei]
            exact List.mem_take_iff_getElem.mpr ⟨i, by omega, rfl⟩
          rw [decide_eq_false (show ¬ d.told ≤ o.beg by omega)]
          simp
        · rw [decide_eq_false c2]
          simp
      · rw [wOf_own h2 p.1 ej']
        exact (rd_at g3 j d ej' p hp).symm
    · rw [fits_read hg h2]
      exact reads_at g4 hr
/-! ### looks, in data -/
theorem rp_keys (rs : List (Str × Option (List Int))) : (rs.map rpD).map kOf = rs.map (·.1) := by
  rw [List.map_map]
  exact List.map_congr_left fun p _ => rfl
theorem wp_keys (ws : List (Str × List Int)) : (ws.map wpD).map kOf = ws.map (·.1) := by
  rw [List.map_map]
  exact List.map_congr_left fun p _ => rfl
theorem told_row (r : Row) : toldX r.d = (rowLook r.d && xB r) := by
  cases r with
  | deal d =>
    show (wholeD (.int d.num) && wholeD (.int d.beg) && wholeD (.int d.told) && stampD (.tuple (d.st.map .int)) && (decide (intOf (.int d.beg) ≤ intOf (.int d.told)) && (pairsU true (.list (d.rs.map rpD)) && pairsU false (.list (d.ws.map wpD))))) =
      ((wholeD (.int d.num) && wholeD (.int d.beg) && wholeD (.int d.told) && stampD (.tuple (d.st.map .int)) && pairsD true (.list (d.rs.map rpD)) && pairsD false (.list (d.ws.map wpD))) && (decide (d.beg ≤ d.told) && (decide (d.rs.map (·.1)).Nodup && decide (d.ws.map (·.1)).Nodup)))
    have e1 : pairsU true (.list (d.rs.map rpD)) = (pairsD true (.list (d.rs.map rpD)) && decide (d.rs.map (·.1)).Nodup) := by
      show (pairsD true (.list (d.rs.map rpD)) && decide ((d.rs.map rpD).map kOf).Nodup) = _
      rw [rp_keys]
    have e2 : pairsU false (.list (d.ws.map wpD)) = (pairsD false (.list (d.ws.map wpD)) && decide (d.ws.map (·.1)).Nodup) := by
      show (pairsD false (.list (d.ws.map wpD)) && decide ((d.ws.map wpD).map kOf).Nodup) = _
      rw [wp_keys]
    rw [e1, e2]
    show (true && true && true && stampD (.tuple (d.st.map .int)) && (decide (d.beg ≤ d.told) && _)) = _
    generalize stampD (.tuple (d.st.map .int)) = b1
    generalize pairsD true (.list (d.rs.map rpD)) = b2
    generalize pairsD false (.list (d.ws.map wpD)) = b3
    generalize decide (d.beg ≤ d.told) = b4
    generalize decide (d.rs.map (·.1)).Nodup = b5
    generalize decide (d.ws.map (·.1)).Nodup = b6
    cases b1 <;> cases b2 <;> cases b3 <;> cases b4 <;> cases b5 <;> cases b6 <;> rfl
  | form t f =>
    show formD [.str "form", .int t, .int f] = (formD [.str "form", .int t, .int f] && true)
    rw [Bool.and_true]
  | read n a t k w =>
    have e1 : toldX (Row.read n a t k w).d = readD [.str (rwName n), .int a, .int t, .str k, owD w] := told_rw n _
    have e2 : rowLook (Row.read n a t k w).d = readD [.str (rwName n), .int a, .int t, .str k, owD w] := by
      show (if rwName n = "dealing" then _ else if rwName n = "form" then _ else if rwName n = "read" ∨ rwName n = "now" then readD [.str (rwName n), .int a, .int t, .str k, owD w] else false) = _
      rw [if_neg fun z => w_deal_rw n z.symm, if_neg fun z => w_form_rw n z.symm, if_pos (by cases n <;> simp [rwName])]
    rw [e1, e2]
    show _ = (_ && true)
    rw [Bool.and_true]
theorem pairsU_D {o : Bool} {d : PyData} (h : pairsU o d = true) : pairsD o d = true := by
  unfold pairsU at h
  rw [Bool.and_eq_true] at h
  exact h.1
theorem told_look {d : PyData} (h : toldX d = true) : rowLook d = true := by
  unfold toldX at h
  split at h
  · rename_i z r
    show (if z = "dealing" then dealD (.str z :: r) else if z = "form" then formD (.str z :: r) else if z = "read" ∨ z = "now" then readD (.str z :: r) else false) = true
    by_cases c1 : z = ("dealing" : Str)
    · rw [if_pos c1] at h ⊢
      unfold dealX at h
      split at h
      · rename_i w a b c s rs ws e
        cases e
        simp only [Bool.and_eq_true] at h
        show (wholeD a && wholeD b && wholeD c && stampD s && pairsD true rs && pairsD false ws) = true
        simp only [Bool.and_eq_true]
        exact ⟨⟨h.1, pairsU_D h.2.2.1⟩, pairsU_D h.2.2.2⟩
      · cases h
    · rw [if_neg c1] at h ⊢
      exact h
  · cases h
/-- the law's word of anything -/
def lawD : PyData → Bool
  | .list ds => ds.all toldX && lawR (ds.map rowOf)
  | _ => false
theorem law_ord (d : PyData) : lawD d = ordD d := by
  cases d with
  | list ds =>
    show (ds.all toldX && lawR (ds.map rowOf)) = (ds.all rowLook && ordR (ds.map rowOf))
    cases c : ds.all rowLook with
    | false =>
      have : ds.all toldX = false := by
        rw [List.all_eq_false] at c ⊢
        obtain ⟨d, hd, h⟩ := c
        exact ⟨d, hd, fun z => h (told_look z)⟩
      rw [this]
      rfl
    | true =>
      obtain ⟨rs, rfl, hg⟩ := rows_of c
      rw [rowOf_all, Bool.true_and]
      have e : (rs.map Row.d).all toldX = rs.all xB := by
        rw [Bool.eq_iff_iff]
        constructor
        · intro h
          refine List.all_eq_true.mpr fun r hr => ?_
          have := List.all_eq_true.mp h r.d (List.mem_map_of_mem hr)
          rw [told_row, Bool.and_eq_true] at this
          exact this.2
        · intro h
          refine List.all_eq_true.mpr fun d hd => ?_
          obtain ⟨r, hr, rfl⟩ := List.mem_map.mp hd
          rw [told_row, List.all_eq_true.mp h r hr, List.all_eq_true.mp c r.d hd]
          rfl
      rw [e]
      cases cx : rs.all xB with
      | true => rw [Bool.true_and, lawR_eq (fun r hr => List.all_eq_true.mp cx r hr) hg]
      | false =>
        rw [Bool.false_and]
        cases co : ordR rs with
        | false => rfl
        | true =>
          have := (fit_parts (ord_parts co).1).2.2
          rw [List.all_eq_false] at cx
          obtain ⟨r, hr, h⟩ := cx
          exact absurd (this r hr) h
  | _ => rfl
def spFits (K : PySem.W.Frag) : Sp := fun vs H Q _ => ∃ (l m : Addr) (v : V) (bs : List (V × Row)) (zs : List (V × Deal)) (n : Bool) (a' t : Int) (k : Str) (w : Option (List Int)), vs = [.ref l, .ref m, v] ∧ SqL K H l (bs.map (·.1)) ∧ RsAt K H bs ∧ bs.length < 64 ∧ (∀ b ∈ bs, b.2.good) ∧ SqL K H m (zs.map (·.1)) ∧ DsAt K H zs ∧ zs.length < 64 ∧ zs.map (·.2) = dealsOf (bs.map (·.2)) ∧ Dp K H v (Row.read n a' t k w).d ∧ owgood w ∧
  ∀ H', Same H H' → Q (.bl (fitsB (bs.map (·.2)) (zs.map (·.2)) (.read n a' t k w))) H'
theorem lack_empty (zs : List (V × Deal)) (a t : Int) : (!lackB (zs.map (·.2)) a t) = (zs.filter fun z => decide (z.2.told ≤ a) && decide (t < z.2.s1)).isEmpty := by
  unfold lackB
  rw [List.any_map]
  induction zs with
  | nil => rfl
  | cons z r ih =>
    rw [List.any_cons, List.filter_cons]
    by_cases c : (decide (z.2.told ≤ a) && decide (t < z.2.s1)) = true
    · rw [if_pos c]
      show (!((decide (z.2.told ≤ a) && decide (t < z.2.s1)) || _)) = _
      rw [c]
      rfl
    · rw [if_neg c]
      show (!((decide (z.2.told ≤ a) && decide (t < z.2.s1)) || _)) = _
      rw [Bool.eq_false_iff.mpr c, Bool.false_or]
      exact ih
theorem dealsV_take {bs : List (V × Row)} {j : Nat} {b : V × Row} (h : bs[j]? = some b) : dealsV (bs.take (j + 1)) = dealsV (bs.take j) ++ (dealV b).toList := by
  rw [List.take_add_one, h]
  unfold dealsV
  rw [List.filterMap_append]
  have e : List.filterMap dealV (some b).toList = (dealV b).toList := by
    show List.filterMap dealV [b] = _
    rw [List.filterMap_cons]
    cases dealV b <;> rfl
  rw [e]
theorem le3 {a b c x y z : Int} : ([x, y, z] : List Int) ≤ [a, b, c] ↔ (x < a ∨ (x = a ∧ (y < b ∨ (y = b ∧ z ≤ c)))) := by
  have h : ([a, b, c] : List Int) < [x, y, z] ↔ (a < x ∨ (a = x ∧ (b < y ∨ (b = y ∧ c < z)))) := by
    rw [List.cons_lt_cons_iff, List.cons_lt_cons_iff, List.cons_lt_cons_iff]
    have : ¬ ([] : List Int) < [] := List.lt_irrefl _
    constructor
    · rintro (h | ⟨h1, h | ⟨h2, h | ⟨_, h3⟩⟩⟩)
      · exact .inl h
      · exact .inr ⟨h1, .inl h⟩
      · exact .inr ⟨h1, .inr ⟨h2, h⟩⟩
      · exact absurd h3 this
    · rintro (h | ⟨h1, h | ⟨h2, h⟩⟩)
      · exact .inl h
      · exact .inr ⟨h1, .inl h⟩
      · exact .inr ⟨h1, .inr ⟨h2, .inl h⟩⟩
  rw [← List.not_lt, h]
  omega
theorem ge3 (a b c x y z : Int) : Ob.lexAt (fun j => decide (([a, b, c] : List Int).getD j 0 = ([x, y, z] : List Int).getD j 0)) (fun j => decide (([x, y, z] : List Int).getD j 0 ≤ ([a, b, c] : List Int).getD j 0)) (decide (([a, b, c] : List Int).length ≥ ([x, y, z] : List Int).length)) 0 (min ([a, b, c] : List Int).length ([x, y, z] : List Int).length) = decide (([x, y, z] : List Int) ≤ [a, b, c]) := by
  show (if decide (a = x) = true then (if decide (b = y) = true then (if decide (c = z) = true then true else decide (z ≤ c)) else decide (y ≤ b)) else decide (x ≤ a)) = _
  have hr := le3 (a := a) (b := b) (c := c) (x := x) (y := y) (z := z)
  by_cases h1 : a = x
  · rw [if_pos (decide_eq_true h1)]
    by_cases h2 : b = y
    · rw [if_pos (decide_eq_true h2)]
      by_cases h3 : c = z
      · rw [if_pos (decide_eq_true h3)]
        exact (decide_eq_true (hr.mpr (by omega))).symm
      · rw [if_neg (by rw [decide_eq_false h3]; decide)]
        exact decide_eq_decide.mpr ⟨fun h => hr.mpr (by omega), fun h => by have := hr.mp h; omega⟩
    · rw [if_neg (by rw [decide_eq_false h2]; decide)]
      exact decide_eq_decide.mpr ⟨fun h => hr.mpr (by omega), fun h => by have := hr.mp h; omega⟩
  · rw [if_neg (by rw [decide_eq_false h1]; decide)]
    exact decide_eq_decide.mpr ⟨fun h => hr.mpr (by omega), fun h => by have := hr.mp h; omega⟩
theorem all_lay {α : Type} (f : α → PyData) : ∀ {l : List α}, (∀ x ∈ l, (f x).canLay0 = true) → PyData.canLayAll0 (l.map f) = true
  | [], _ => rfl
  | x :: r, h => by
    rw [List.map_cons]
    simp only [PyData.canLayAll0, h x (.head _), all_lay f fun y hy => h y (.tail _ hy), Bool.and_self]
theorem lay_wo (w : List Int) : (woD w).canLay0 = true := by
  unfold woD
  simp only [PyData.canLay0]
  exact all_lay _ fun _ _ => rfl
theorem lay_ow (w : Option (List Int)) : (owD w).canLay0 = true := by
  cases w with
  | none => rfl
  | some w => exact lay_wo w
theorem lay_key {k : Str} (h : kgood k) : (PyData.str k).canLay0 = true := by
  have h : (decide (1 ≤ k.cps.toList.length) && decide (k.cps.toList.length ≤ 6) && k.cps.toList.all ltr) = true := h
  simp only [Bool.and_eq_true] at h
  show k.cps.all (· < 0x110000) = true
  rw [← Array.all_toList]
  refine List.all_eq_true.mpr fun c hc => decide_eq_true ?_
  have := List.all_eq_true.mp h.2 c hc
  unfold ltr at this
  simp only [Bool.and_eq_true, decide_eq_true_eq] at this
  omega
theorem lay_deal {d : Deal} (h : Row.good (.deal d)) : d.d.canLay0 = true := by
  obtain ⟨_, _, h1, h2⟩ := h
  have e1 : PyData.canLayAll0 (d.rs.map rpD) = true := all_lay _ fun p hp => by
    unfold rpD
    simp only [PyData.canLay0, PyData.canLayAll0, lay_ow, Bool.and_true]
    exact lay_key (h1 p hp).1
  have e2 : PyData.canLayAll0 (d.ws.map wpD) = true := all_lay _ fun p hp => by
    unfold wpD
    simp only [PyData.canLay0, PyData.canLayAll0, lay_wo, Bool.and_true]
    exact lay_key (h2 p hp).1
  have e3 : PyData.canLayAll0 (d.st.map .int) = true := all_lay _ fun _ _ => rfl
  have e0 : (PyData.str "dealing").canLay0 = true := by decide +kernel
  have f0 : ∀ i : Int, (PyData.int i).canLay0 = true := fun _ => rfl
  have g : ∀ ds : List PyData, PyData.canLayAll0 ds = true → (PyData.tuple ds).canLay0 = true := fun ds h => by simpa only [PyData.canLay0] using h
  refine g _ ?_
  have gl : ∀ ds : List PyData, PyData.canLayAll0 ds = true → (PyData.list ds).canLay0 = true := fun ds h => by simpa only [PyData.canLay0] using h
  rw [PyData.canLayAll0, e0, PyData.canLayAll0, f0, PyData.canLayAll0, f0, PyData.canLayAll0, f0, PyData.canLayAll0, g _ e3, PyData.canLayAll0, gl _ e1, PyData.canLayAll0, gl _ e2]
  rfl
theorem depth_all {α : Type} (f : α → PyData) (n : Nat) : ∀ {l : List α}, (∀ x ∈ l, (f x).depth ≤ n) → PyData.depthAll (l.map f) ≤ n
  | [], _ => Nat.zero_le _
  | x :: r, h => by
    rw [List.map_cons]
    simp only [PyData.depthAll]
    have := h x (.head _)
    have := depth_all f n fun y hy => h y (.tail _ hy)
    omega
theorem shaped_deal {d : Deal} (h : Row.good (.deal d)) : SeqAt.shaped d.d = true := by
  have hw : ∀ w : Option (List Int), (owD w).depth ≤ 1 := fun w => by
    cases w with
    | none => exact Nat.zero_le _
    | some w => exact Nat.le_of_eq (wo_depth w)
  have e1 : PyData.depthAll (d.rs.map rpD) ≤ 2 := depth_all _ 2 fun p _ => by
    unfold rpD
    simp only [PyData.depth, PyData.depthAll]
    have := hw p.2
    omega
  have e2 : PyData.depthAll (d.ws.map wpD) ≤ 2 := depth_all _ 2 fun p _ => by
    unfold wpD
    simp only [PyData.depth, PyData.depthAll, wo_depth]
    omega
  have e3 : PyData.depthAll (d.st.map PyData.int) ≤ 0 := depth_all _ 0 fun _ _ => Nat.le_refl _
  have e4 : d.d.depth ≤ 64 := by
    unfold Deal.d
    simp only [PyData.depth, PyData.depthAll]
    omega
  unfold SeqAt.shaped
  rw [lay_deal h, decide_eq_true e4]
  rfl
theorem eqv_deal {a b : Deal} (ha : Row.good (.deal a)) (h : a.num = b.num → a = b) : PyData.eqv a.d b.d = decide (a.num = b.num) := by
  by_cases c : a.num = b.num
  · cases h c
    rw [decide_eq_true rfl]
    exact SeqAt.eqv_refl _ (lay_deal ha)
  · rw [decide_eq_false c]
    unfold Deal.d
    have e : ((a.num : Int) == b.num) = false := by
      rw [beq_eq_false_iff_ne]
      exact c
    simp only [PyData.eqv, PyData.eqvAll, e, Bool.false_and, Bool.and_false]
/-- rows that are readings -/
def isRd (b : V × Row) : Bool := match b.2 with
  | .read _ _ _ _ _ => true
  | _ => false
theorem fits_all (bs : List (V × Row)) (rs : List Row) (ds : List Deal) : (bs.map (·.2)).all (fitsB rs ds) = (bs.filter isRd).all fun b => fitsB rs ds b.2 := by
  rw [List.all_map, List.all_filter]
  refine congrArg (fun f => bs.all f) (funext fun b => ?_)
  obtain ⟨v, r⟩ := b
  cases r <;> first | rfl | simp [isRd]
def spOwn (K : PySem.W.Frag) : Sp := fun vs H Q _ => ∃ (v : V) (d : PyData), vs = [v] ∧ Gd K H v d ∧ Few d ∧ ∀ H', Same H H' → Q (.bl (ordD d)) H'
theorem nodup_inj {α β : Type} {f : α → β} : ∀ {l : List α}, (l.map f).Nodup → ∀ {a b : α}, a ∈ l → b ∈ l → f a = f b → a = b
  | [], _, _, _, h, _, _ => by cases h
  | x :: r, hn, a, b, ha, hb, e => by
    rw [List.map_cons, List.nodup_cons] at hn
    rcases List.mem_cons.mp ha with ea | ha'
    · rcases List.mem_cons.mp hb with eb | hb'
      · rw [ea, eb]
      · exact absurd (by rw [← ea, e]; exact List.mem_map_of_mem hb') hn.1
    · rcases List.mem_cons.mp hb with eb | hb'
      · exact absurd (by rw [← eb, ← e]; exact List.mem_map_of_mem ha') hn.1
      · exact nodup_inj hn.2 ha' hb' e
def pairB (one other : Deal) : Bool := !(!decide (other.num = one.num) && (decide (one.told ≤ other.beg) && decide (other.st ≤ one.st)))
theorem pairOk_eq (zs : List (V × Deal)) (one : Deal) : (zs.all fun y => pairB one y.2) = pairOk (zs.map (·.2)) one := by
  unfold pairOk
  rw [List.all_map]
  rfl
theorem readsOk_eq (ps : List (V × Str × Option (List Int))) (ds : List Deal) (one : Deal) (h : one.rs = ps.map (·.2)) : (ps.all fun p => decide (p.2.2 = wOf ds p.2.1 one.st)) = readsOk ds one := by
  unfold readsOk
  rw [h, List.all_map]
  rfl
theorem kept_len {α : Type} {f : α → Bool} {ds : List α} {j : Nat} {zs : List V} (h : Kept f ds j zs) : zs.length ≤ j := h.len

theorem ok_l_reading_fits {P : Program} {w : World} {K : PySem.W.Frag} {mg : Str → Option Value} {base : Heap} {a : Nat → Addr} {d : Nat → FuncData} (T : Txt K mg a d) : FnOk P w K mg base CX0 3 (a 40) (d 40) ["_law_history_here", "_law_deals", "_law_one"] (spFits K) := by
  refine T.F_l_reading_fits.ok sc_l_reading_fits (fun vs H Q E h => ?_) (fun cdv A outer s0 H vs Q E hr h => ?_)
  · obtain ⟨l, m, v, bs, zs, n, a', t, k, w, rfl, hl, hb, hbl, hg, hm, hz, hzl, hezs, hv, hw4, q⟩ := h
    rfl
  · obtain ⟨l, m, v, bs, zs, n, a', t, k, w, rfl, hl, hb, hbl, hg, hm, hz, hzl, hezs, hv, hw4, q⟩ := h
    refine ⟨_, (pss_cons (ps_asg (pv 2) (pg_tup (by rfl) (pgs_cons (pg_name (i := 3) sc_l_reading_fits.nd rfl (.inl rfl)) (pgs_cons (pg_name (i := 4) sc_l_reading_fits.nd rfl (.inr rfl)) (pgs_cons (pg_name (i := 5) sc_l_reading_fits.nd rfl (.inr rfl)) (pgs_cons (pg_name (i := 6) sc_l_reading_fits.nd rfl (.inl rfl)) (pgs_cons (pg_name (i := 7) sc_l_reading_fits.nd rfl (.inl rfl)) pgs_nil))))))) (pss_cons (ps_set (i := 8) sc_l_reading_fits.nd rfl (Or.inl rfl) (pe_call (ok_l_worth_of T) (hr.mono (by decide)) (by rfl) T.g_l_worth_of T.F_l_worth_of.kp T.b_l_worth_of .nil pass0 (pa_cons (pv 1) (pa_cons (pv 6) (pa_cons (pe_tup (pa_cons (pe_op op_add (pv 5) pe_int) (pa_cons (pe_un un_neg pe_int) (pa_cons (pe_un un_neg pe_int) pa_nil)))) pa_nil))))) (pss_cons (ps_if (pt_cmpR (op_neD hr.units) (pv 7) (pe_call (ok_l_formed T) (hr.mono (by decide)) (by rfl) T.g_l_formed T.F_l_formed.kp T.b_l_formed .nil pass0 (pa_cons (pv 8) (pa_cons (pe_call (ok_l_fields T) (hr.mono (by decide)) (by rfl) T.g_l_fields T.F_l_fields.kp T.b_l_fields .nil pass0 (pa_cons (pv 0) (pa_cons (pv 5) pa_nil))) pa_nil))) (nomark _)) (pss_one (ps_ret pe_bl)) pss_nil) (pss_cons (ps_setLc (i := 9) (own := [("_law_deal", 10)]) (g := gName 10) (te := (tVar 10)) (tt := (tAnd (tTest (tOp (rI0 fun i j => .bl (decide (i ≤ j))) (tOp (rIxT K) (tVar 10) (tC (.int 3))) (tVar 4))) (tTest (tOp (rI0 fun i j => .bl (decide (j < i))) (tOp (rIxT K) (tOp (rIxT K) (tVar 10) (tC (.int 4))) (tC (.int 0))) (tVar 5))))) (by rfl) sc_l_reading_fits.nd rfl rfl (sw_true rfl rfl rfl (by decide +kernel)) (pi_list (pv 1)) (blkOk_by (own := [("_law_deal", 10)]) (N := ["_law_history_here", "_law_deals", "_law_one", "_law_word", "_law_asked", "_law_time", "_law_key", "_law_worth", "_law_newest", "_law_late", "_law_deal"]) (sc := defScope s_l_reading_fits) (by decide +kernel)) (fun _ _ _ _ _ => (pg_name (i := 10) sc_l_reading_fits.nd rfl (.inl rfl))) (fun _ _ _ _ _ => (pts_one (PW.pt (pw_and (pt_cmpR op_le (pe_ix ix_tup (pv 10) pe_int (fun _ _ => rfl)) (pv 4) (nomark _)) (pw_and1 (pt_cmpR op_gt (pe_ix ix_tup (pe_ix ix_tup (pv 10) pe_int (fun _ _ => rfl)) pe_int (fun _ _ => rfl)) (pv 5) (nomark _))))))) (fun _ _ _ _ _ => (pv 10))) (pss_one (ps_ret (pe_or (pe_cmpR op_eq (pv 3) pe_str (nomark _)) (pe_one (pe_cmpR (EN.op_eqE hr.units) (pv 9) (pe_lst pa_nil) (nomark _)))))))))), ?_⟩
    obtain ⟨p, u4, e0, hp, hu4⟩ := read_at hv
    have hzg : ∀ z ∈ zs, ∀ p ∈ z.2.ws, wgood p.2 := fun z h p hp => by
      have h1 : z.2 ∈ dealsOf (bs.map (·.2)) := by rw [← hezs]; exact List.mem_map_of_mem h
      obtain ⟨b, hb', e⟩ := List.mem_map.mp (deals_mem h1)
      have := hg b hb'
      rw [e] at this
      exact (this.2.2.2 p hp).2
    refine ⟨_, rfl, p, _, e0, hp, rfl, _, _, rfl, _, _, rfl, _, _, rfl, _, _, rfl, _, _, rfl, rfl, ?_⟩
    refine ⟨_, rfl, _, rfl, _, rfl, t, 1, rfl, rfl, 1, rfl, 1, rfl, len3, fun u nu => ?_⟩
    have s1 : Same H (upd H u (.tup [.int (t + 1), .int (-1), .int (-1)])) := same_new (Same.refl H) nu
    have hu : (upd H u (.tup [.int (t + 1), .int (-1), .int (-1)])) u = some (.tup [.int (t + 1), .int (-1), .int (-1)]) := upd_same
    generalize (upd H u (.tup [.int (t + 1), .int (-1), .int (-1)])) = H1 at s1 hu ⊢
    refine ⟨m, u, k, zs, [t + 1, -1, -1], rfl, s1.seq hm, hz.ext (LamX.ExtN.of s1), by omega, SqT.of hu, fun v1 w1 H2 s2 hw1 hsrc hwe => ?_⟩
    have s12 := s1.trans s2
    have og : owgood w1 := by
      cases w1 with
      | none => trivial
      | some x =>
        obtain ⟨z, hz', p', hp', rfl⟩ := hsrc x rfl
        exact hzg z hz' p' hp'
    refine ⟨_, rfl, _, rfl, _, rfl, _, rfl, l, bs, t, rfl, s12.seq hl, hb.ext (LamX.ExtN.of s12), by omega, (fun b hb' t' f' e' => by
      have := hg b hb'
      rw [e'] at this
      exact this), fun f H3 s3 hf hfe => ?_⟩
    refine ⟨v1, w1, f, rfl, dp_ext (LamX.ExtN.of s3) hw1, og, hf, fun v' H4 s4 hw' => ?_⟩
    have s14 := s12.trans (s3.trans s4)
    refine ⟨owD w, owD (shp w1 f), dp_ext (LamX.ExtN.of s14) hu4, hw', shaped_ow _, shaped_ow _, _, rfl, ?_⟩
    rw [eqv_ow, hfe, hwe]
    have q : ∀ H', Same H H' → Q (.bl (decide (w = shp (wOf (zs.map (·.2)) k [t + 1, -1, -1]) (lastUp (formS (bs.map (·.2))) t)) && (!n || !lackB (zs.map (·.2)) a' t))) H' := q
    cases c1 : decide (w = shp (wOf (zs.map (·.2)) k [t + 1, -1, -1]) (lastUp (formS (bs.map (·.2))) t)) with
    | false =>
      rw [c1] at q
      exact iteT (q _ s14)
    | true =>
      rw [c1, Bool.true_and] at q
      refine iteF ?_
      have hm4 := s14.seq hm
      refine ⟨_, rfl, m, rfl, ⟨_, hm4⟩, fun D nD => ?_⟩
      refine lc_list (K := K) (a := m) (xs := zs.map (·.1)) (fun j H' => Same H4 H' ∧ H' D = some (.lst (((zs.take j).filter fun z => decide (z.2.told ≤ a') && decide (t < z.2.s1)).map (·.1)))) ⟨same_new (Same.refl H4) nD, upd_same⟩ (fun j H' _ z => z.1.seq hm4) ?_ ?_
      · rintro j v0 H5 hj ⟨s5, hD⟩
        rw [List.getElem?_map] at hj
        cases ez : zs[j]? with
        | none => rw [ez] at hj; cases hj
        | some z =>
          rw [ez] at hj
          cases hj
          have hjl := (List.getElem?_eq_some_iff.mp ez).1
          have ef := filter_take (fun z : V × Deal => decide (z.2.told ≤ a') && decide (t < z.2.s1)) ez
          obtain ⟨p0, ps0, rl, wl, xs, ys, A'⟩ := deal_at (dp_ext (LamX.ExtN.of (s14.trans s5)) (hz z (List.mem_of_getElem? ez)))
          refine ⟨rfl, _, rfl, p0, _, 3, _, A'.e, rfl, A'.row, atI_nat (j := 3) rfl, _, rfl, z.2.told, a', rfl, rfl, _, rfl, ?_⟩
          by_cases d1 : z.2.told ≤ a'
          · refine iteDT d1 ⟨_, rfl, p0, _, 4, _, A'.e, rfl, A'.row, atI_nat (j := 4) rfl, ps0, _, 0, _, rfl, rfl, A'.st, atI_nat (j := 0) rfl, _, rfl, z.2.s1, t, rfl, rfl, _, rfl, ?_⟩
            by_cases d2 : t < z.2.s1
            · rw [decide_eq_true d1, decide_eq_true d2, Bool.true_and, if_pos rfl] at ef
              refine iteDT d2 ⟨_, rfl, _, hD, ?_, fun b o w => ?_, ?_⟩
              · rw [List.length_map]
                exact Nat.lt_of_le_of_lt (Nat.le_trans (List.length_filter_le _ _) (List.length_take_le' _ _)) (Nat.lt_of_lt_of_le (show zs.length < 100 by omega) (by decide))
              · rw [upd_ne (ne_of_none w nD)]
                exact s5 b o w
              · rw [upd_same, ef, List.map_append]
                rfl
            · rw [decide_eq_false d2, Bool.and_false, if_neg (by decide), List.append_nil] at ef
              exact iteDF d2 ⟨s5, by rw [ef]; exact hD⟩
          · rw [decide_eq_false d1, Bool.false_and, if_neg (by decide), List.append_nil] at ef
            exact iteDF d1 (iteF (A := True) ⟨s5, by rw [ef]; exact hD⟩)
      · rintro H5 ⟨s5, hD⟩
        rw [List.length_map, List.take_length] at hD
        have s15 := s14.trans s5
        refine ⟨_, rfl, rfl, _, rfl, ?_⟩
        cases n with
        | false => exact iteDT rfl (q _ s15)
        | true =>
          refine iteDF (by decide +kernel) ⟨_, rfl, (by decide : 0 ≤ sizeLine), fun e ne => ?_⟩
          have sN : Same H5 (upd H5 e (.lst [])) := same_new (Same.refl H5) ne
          refine ⟨_, ⟨D, e, rfl, rfl, .inl ⟨SqL.of (sN _ _ hD), SqL.of upd_same⟩⟩, ?_⟩
          refine bq (Q := Q) ?_ (q _ (s15.trans sN))
          rw [List.isEmpty_map, ← lack_empty]
          rfl

theorem ok_l_is_ordered {P : Program} {w : World} {K : PySem.W.Frag} {mg : Str → Option Value} {base : Heap} {a : Nat → Addr} {d : Nat → FuncData} (T : Txt K mg a d) : FnOk P w K mg base CX0 5 (a 41) (d 41) ["_law_thing"] (spOwn K) := by
  refine T.F_l_is_ordered.ok sc_l_is_ordered (fun vs H Q E h => ?_) (fun cdv A outer s0 H vs Q E hr h => ?_)
  · obtain ⟨v, d', rfl, hg, hfew, q⟩ := h
    rfl
  · obtain ⟨v, d', rfl, hg, hfew, q⟩ := h
    refine ⟨_, (pss_cons (ps_if (PW.pt (pw_or (pt_not (pt_truth (pe_callB call_isi (by rfl) T.z_isinstance (by decide +kernel) (pa_cons (pv 0) (pa_cons (pe_bltn (v := .ty "list") (by rfl) T.z_list (by decide +kernel) rfl) pa_nil))) (by intro _; rfl))) (pw_or1 (pt_cmpR (EN.op_neE hr.units) (pe_lc (own := [("_law_one", 4)]) (g := gName 4) (te := (tVar 4)) (tt := (tNot (tTru K (tCall (spLookN K toldX) [] E0 (tCons (tVar 4) tNil))))) (by rfl) sc_l_is_ordered.nd (pi_list (pv 0)) (blkOk_by (own := [("_law_one", 4)]) (N := ["_law_thing", "_law_deals", "_law_numbers", "_law_stamps", "_law_one", "_law_some", "_law_other", "_law_key", "_law_worth"]) (sc := defScope s_l_is_ordered) (by decide +kernel)) (fun _ _ _ _ _ => (pg_name (i := 4) sc_l_is_ordered.nd rfl (.inl rfl))) (fun _ _ _ _ _ => (pts_one (pt_not (pt_truth (pe_call (ok_l_is_told T) (hr.mono (by decide)) (by rfl) T.g_l_is_told T.F_l_is_told.kp T.b_l_is_told .nil pass0 (pa_cons (pv 4) pa_nil)) (by intro _; rfl))))) (fun _ _ _ _ _ => (pv 4))) (pe_lst pa_nil) (nomark _))))) (pss_one (ps_ret pe_bl)) pss_nil) (pss_cons (ps_set (i := 1) sc_l_is_ordered.nd rfl (Or.inr rfl) (pe_lc (own := [("_law_one", 4)]) (g := gName 4) (te := (tVar 4)) (tt := (tTest (tOp rEq (tOp (rIxT K) (tVar 4) (tC (.int 0))) (tC (.str "dealing"))))) (by rfl) sc_l_is_ordered.nd (pi_list (pv 0)) (blkOk_by (own := [("_law_one", 4)]) (N := ["_law_thing", "_law_deals", "_law_numbers", "_law_stamps", "_law_one", "_law_some", "_law_other", "_law_key", "_law_worth"]) (sc := defScope s_l_is_ordered) (by decide +kernel)) (fun _ _ _ _ _ => (pg_name (i := 4) sc_l_is_ordered.nd rfl (.inl rfl))) (fun _ _ _ _ _ => (pts_one (pt_cmpR op_eq (pe_ix ix_tup (pv 4) pe_int (fun _ _ => rfl)) pe_str (nomark _)))) (fun _ _ _ _ _ => (pv 4)))) (pss_cons (ps_setLc (i := 2) (own := [("_law_one", 4)]) (g := gName 4) (te := (tOp (rIxT K) (tVar 4) (tC (.int 1)))) (by rfl) sc_l_is_ordered.nd rfl rfl (sw_true rfl rfl rfl (by decide +kernel)) (pi_list (pv 1)) (blkOk_by (own := [("_law_one", 4)]) (N := ["_law_thing", "_law_deals", "_law_numbers", "_law_stamps", "_law_one", "_law_some", "_law_other", "_law_key", "_law_worth"]) (sc := defScope s_l_is_ordered) (by decide +kernel)) (fun _ _ _ _ _ => (pg_name (i := 4) sc_l_is_ordered.nd rfl (.inl rfl))) (fun _ _ _ _ _ => pts_nil) (fun _ _ _ _ _ => (pe_ix ix_tup (pv 4) pe_int (fun _ _ => rfl)))) (pss_cons (ps_setLc (i := 3) (own := [("_law_one", 4)]) (g := gName 4) (te := (tOp (rIxT K) (tVar 4) (tC (.int 4)))) (by rfl) sc_l_is_ordered.nd rfl rfl (sw_true rfl rfl rfl (by decide +kernel)) (pi_list (pv 1)) (blkOk_by (own := [("_law_one", 4)]) (N := ["_law_thing", "_law_deals", "_law_numbers", "_law_stamps", "_law_one", "_law_some", "_law_other", "_law_key", "_law_worth"]) (sc := defScope s_l_is_ordered) (by decide +kernel)) (fun _ _ _ _ _ => (pg_name (i := 4) sc_l_is_ordered.nd rfl (.inl rfl))) (fun _ _ _ _ _ => pts_nil) (fun _ _ _ _ _ => (pe_ix ix_tup (pv 4) pe_int (fun _ _ => rfl)))) (pss_cons (ps_if (PW.pt (pw_or (pt_cmpR op_ne (pe_callB (call_or SM.cr_lenM SM.cr_lenT) (by rfl) T.z_len PySem.boot_len (pa_cons (pe_callTy (call_or (SM.cr_setM rfl) (cr_setOfT rfl hr.units)) (by rfl) T.z_set (by decide +kernel) (pa_cons (pv 2) pa_nil)) pa_nil)) (pe_callB call_len_seq (by rfl) T.z_len PySem.boot_len (pa_cons (pv 1) pa_nil)) (nomark _)) (pw_or1 (pt_cmpR op_ne (pe_callB (call_or SM.cr_lenM SM.cr_lenT) (by rfl) T.z_len PySem.boot_len (pa_cons (pe_callTy (call_or (SM.cr_setM rfl) (cr_setOfT rfl hr.units)) (by rfl) T.z_set (by decide +kernel) (pa_cons (pv 3) pa_nil)) pa_nil)) (pe_callB call_len_seq (by rfl) T.z_len PySem.boot_len (pa_cons (pv 1) pa_nil)) (nomark _))))) (pss_one (ps_ret pe_bl)) pss_nil) (pss_cons (ps_for PassesOwn.never rfl (pi_list (pv 1)) (pg_name (i := 4) sc_l_is_ordered.nd rfl (.inr rfl)) (pss_cons (ps_if (pt_cmpR (EN.op_neE hr.units) (pe_lc (own := [("_law_other", 6)]) (g := gName 6) (te := (tVar 6)) (tt := (tAnd (tTest (tOp (rNeD K) (tVar 6) (tVar 4))) (tAnd (tTest (tOp (rI0 fun i j => .bl (decide (i ≤ j))) (tOp (rIxT K) (tVar 4) (tC (.int 3))) (tOp (rIxT K) (tVar 6) (tC (.int 2))))) (tTest (tOp (rCmpT K (fun a b => decide (b ≤ a)) (fun n m => decide (n ≥ m))) (tOp (rIxT K) (tVar 4) (tC (.int 4))) (tOp (rIxT K) (tVar 6) (tC (.int 4)))))))) (by rfl) sc_l_is_ordered.nd (pi_list (pv 1)) (blkOk_by (own := [("_law_other", 6)]) (N := ["_law_thing", "_law_deals", "_law_numbers", "_law_stamps", "_law_one", "_law_some", "_law_other", "_law_key", "_law_worth"]) (sc := defScope s_l_is_ordered) (by decide +kernel)) (fun _ _ _ _ _ => (pg_name (i := 6) sc_l_is_ordered.nd rfl (.inl rfl))) (fun _ _ _ _ _ => (pts_one (PW.pt (pw_and (pt_cmpR (op_neD hr.units) (pv 6) (pv 4) (nomark _)) (pw_and (pt_cmpR op_le (pe_ix ix_tup (pv 4) pe_int (fun _ _ => rfl)) (pe_ix ix_tup (pv 6) pe_int (fun _ _ => rfl)) (nomark _)) (pw_and1 (pt_cmpR (op_geT hr.units0) (pe_ix ix_tup (pv 4) pe_int (fun _ _ => rfl)) (pe_ix ix_tup (pv 6) pe_int (fun _ _ => rfl)) (nomark _)))))))) (fun _ _ _ _ _ => (pv 6))) (pe_lst pa_nil) (nomark _)) (pss_one (ps_ret pe_bl)) pss_nil) (pss_one (ps_if (pt_cmpR (EN.op_neE hr.units) (pe_lc (own := [("_law_key", 7), ("_law_worth", 8)]) (g := (gTup K 2 (gCons (gName 7) (gCons (gName 8) gNil)))) (te := (tVar 7)) (tt := (tTest (tOp (rNeD K) (tVar 8) (tCall (spWorthOf K) [] E0 (tCons (tVar 1) (tCons (tVar 7) (tCons (tOp (rIxT K) (tVar 4) (tC (.int 4))) tNil))))))) (by rfl) sc_l_is_ordered.nd (pi_list (pe_ix ix_tup (pv 4) pe_int (fun _ _ => rfl))) (blkOk_by (own := [("_law_key", 7), ("_law_worth", 8)]) (N := ["_law_thing", "_law_deals", "_law_numbers", "_law_stamps", "_law_one", "_law_some", "_law_other", "_law_key", "_law_worth"]) (sc := defScope s_l_is_ordered) (by decide +kernel)) (fun _ _ _ _ _ => (pg_tup (by rfl) (pgs_cons (pg_name (i := 7) sc_l_is_ordered.nd rfl (.inl rfl)) (pgs_cons (pg_name (i := 8) sc_l_is_ordered.nd rfl (.inl rfl)) pgs_nil)))) (fun _ _ _ _ _ => (pts_one (pt_cmpR (op_neD hr.units) (pv 8) (pe_call (ok_l_worth_of T) (hr.mono (by decide)) (by rfl) T.g_l_worth_of T.F_l_worth_of.kp T.b_l_worth_of .nil pass0 (pa_cons (pv 1) (pa_cons (pv 7) (pa_cons (pe_ix ix_tup (pv 4) pe_int (fun _ _ => rfl)) pa_nil)))) (nomark _)))) (fun _ _ _ _ _ => (pv 7))) (pe_lst pa_nil) (nomark _)) (pss_one (ps_ret pe_bl)) pss_nil)))) (pss_cons (ps_setLc (i := 5) (own := [("_law_one", 4)]) (g := gName 4) (te := (tVar 4)) (tt := (tTest (tOp (rIn K false) (tOp (rIxT K) (tVar 4) (tC (.int 0))) (tTup (tCons (tC (.str "read")) (tCons (tC (.str "now")) tNil)))))) (by rfl) sc_l_is_ordered.nd rfl rfl (sw_true rfl rfl rfl (by decide +kernel)) (pi_list (pv 0)) (blkOk_by (own := [("_law_one", 4)]) (N := ["_law_thing", "_law_deals", "_law_numbers", "_law_stamps", "_law_one", "_law_some", "_law_other", "_law_key", "_law_worth"]) (sc := defScope s_l_is_ordered) (by decide +kernel)) (fun _ _ _ _ _ => (pg_name (i := 4) sc_l_is_ordered.nd rfl (.inl rfl))) (fun _ _ _ _ _ => (pts_one (pt_cmpR op_in_seq (pe_ix ix_tup (pv 4) pe_int (fun _ _ => rfl)) (pe_tup (pa_cons pe_str (pa_cons pe_str pa_nil))) (by rfl)))) (fun _ _ _ _ _ => (pv 4))) (pss_one (ps_ret (pe_cmpR (EN.op_eqE hr.units) (pe_lc (own := [("_law_one", 4)]) (g := gName 4) (te := (tVar 4)) (tt := (tNot (tTru K (tCall (spFits K) [] E0 (tCons (tVar 0) (tCons (tVar 1) (tCons (tVar 4) tNil))))))) (by rfl) sc_l_is_ordered.nd (pi_list (pv 5)) (blkOk_by (own := [("_law_one", 4)]) (N := ["_law_thing", "_law_deals", "_law_numbers", "_law_stamps", "_law_one", "_law_some", "_law_other", "_law_key", "_law_worth"]) (sc := defScope s_l_is_ordered) (by decide +kernel)) (fun _ _ _ _ _ => (pg_name (i := 4) sc_l_is_ordered.nd rfl (.inl rfl))) (fun _ _ _ _ _ => (pts_one (pt_not (pt_truth (pe_call (ok_l_reading_fits T) (hr.mono (by decide)) (by rfl) T.g_l_reading_fits T.F_l_reading_fits.kp T.b_l_reading_fits .nil pass0 (pa_cons (pv 0) (pa_cons (pv 1) (pa_cons (pv 4) pa_nil)))) (by intro _; rfl))))) (fun _ _ _ _ _ => (pv 4))) (pe_lst pa_nil) (nomark _))))))))))), ?_⟩
    obtain ⟨t, ty, k⟩ := hg.ty
    refine ⟨_, rfl, v, .ty "list", t, .type "list", isL d', rfl, .ty "list", ty, k.l, _, rfl, ?_⟩
    rw [← law_ord] at q
    cases c : isL d' with
    | false => exact iteT (bq (Q := Q) (by cases d' <;> first | rfl | cases c) (q H (Same.refl H)))
    | true =>
      refine iteF ?_
      obtain ⟨ds, rfl⟩ := islst c
      obtain ⟨l, xs, rfl, hl, hlm, hall⟩ := hg.lstI
      have hlen := hall.len
      have hfew : ds.length < 64 := hfew
      refine ⟨_, rfl, l, rfl, ⟨_, hl⟩, fun D nD => ?_⟩
      refine lc_list (K := K) (a := l) (xs := xs) (fun j H' => Same H H' ∧ ∃ zs, H' D = some (.lst zs) ∧ Kept toldX ds j zs) ⟨same_new (Same.refl H) nD, [], upd_same, Kept.nil⟩ (fun j H' _ z => z.1.seq hl) ?_ ?_
      · rintro j x H' hx ⟨sA, zs, hD, hk⟩
        obtain ⟨e, he, hd⟩ := GdAll.get hall hx
        have hjl := (List.getElem?_eq_some_iff.mp hx).1
        have hkl := hk.len
        refine ⟨rfl, _, rfl, x, e, rfl, hd.same sA, fun HB sB => ⟨_, rfl, ?_⟩⟩
        cases c2 : toldX e with
        | true => exact iteF ⟨(sA.trans sB), zs, (sB _ _ hD), hk.left he c2⟩
        | false =>
          refine iteT ⟨_, rfl, _, (sB _ _ hD), ?_, fun b o w => ?_, _, upd_same, hk.put he c2⟩
          · exact Nat.lt_of_lt_of_le (show zs.length < 1001 by omega) (by decide)
          · rw [upd_ne (ne_of_none w nD)]
            exact ((sA.trans sB)) b o w
      · rintro H' ⟨sA, zs, hD, hk⟩
        refine ⟨(by decide : 0 ≤ sizeLine), fun e ne => ?_⟩
        have sN : Same H' (upd H' e (.lst [])) := same_new (Same.refl H') ne
        have hD2 := sN _ _ hD
        have em := hk.all (Nat.le_of_eq hlen.symm)
        have sE := sA.trans sN
        refine ⟨zs, ⟨D, e, rfl, rfl, .inl ⟨SqL.of hD2, SqL.of upd_same⟩⟩, ?_⟩
        refine ⟨_, rfl, ?_⟩
        rw [em]
        have q : ∀ H', Same H H' → Q (.bl (ds.all toldX && lawR (ds.map rowOf))) H' := q
        cases ct : ds.all toldX with
        | false =>
          rw [ct] at q
          exact iteT (q _ sE)
        | true =>
          rw [ct, Bool.true_and] at q
          refine iteF ?_
          clear hD hD2 hk sN sA
          generalize (upd H' e (.lst [])) = H1 at sE ⊢
          obtain ⟨bs, rfl, e2, hb, hgood, hsz⟩ := rows_let hall (List.all_eq_true.mpr fun d hd => told_look (List.all_eq_true.mp ct d hd))
          rw [e2] at q
          have hbl : bs.length < 64 := by
            rw [List.length_map] at hlen
            omega
          have hl1 := sE.seq hl
          have hb1 := hb.ext (LamX.ExtN.of sE)
          have q : ∀ H', Same H1 H' → Q (.bl (lawR (bs.map (·.2)))) H' := fun H' s => q H' (sE.trans s)
          clear sE hl hb hall hg
          refine ⟨_, rfl, l, rfl, ⟨_, hl1⟩, fun D1 nD1 => ?_⟩
          refine lc_list (K := K) (a := l) (xs := bs.map (·.1)) (fun j H' => Same H1 H' ∧ H' D1 = some (.lst (((bs.take j).filter fun b => decide (b.2.word = ("dealing" : Str))).map (·.1)))) ⟨same_new (Same.refl H1) nD1, upd_same⟩ (fun j H' _ z => z.1.seq hl1) ?_ ?_
          · rintro j v HA hj ⟨sA, hD⟩
            rw [List.getElem?_map] at hj
            cases eb : bs[j]? with
            | none => rw [eb] at hj; cases hj
            | some b =>
              rw [eb] at hj
              cases hj
              have hjl := (List.getElem?_eq_some_iff.mp eb).1
              obtain ⟨p, xs, e, hp⟩ := row_head (hb1 b (List.mem_of_getElem? eb))
              refine ⟨rfl, _, rfl, p, _, 0, _, e, rfl, same_sqt sA hp, atI_nat (j := 0) rfl, rfl, _, rfl, ?_⟩
              by_cases c : b.2.word = ("dealing" : Str)
              · refine iteDT (congrArg V.str c) ⟨_, rfl, _, hD, ?_, fun u o z => ?_, ?_⟩
                · rw [List.length_map]
                  have h1 := List.length_filter_le (fun b : V × Row => decide (b.2.word = ("dealing" : Str))) (bs.take j)
                  rw [List.length_take] at h1
                  exact Nat.lt_of_lt_of_le (show _ < 1001 by omega) (by decide)
                · rw [upd_ne (ne_of_none z nD1)]
                  exact sA _ _ z
                · rw [upd_same, List.take_add_one, eb, List.filter_append, List.map_append]
                  simp [c]
              · refine iteDF (fun e => c (V.str.inj e)) ⟨sA, ?_⟩
                rw [hD, List.take_add_one, eb, List.filter_append]
                simp [c]
          · rintro H2 ⟨s2, hD1⟩
            rw [List.length_map, List.take_length, ← dealsV_fst] at hD1
            have hz1 := dealsV_at hb1
            have hzl := dealsV_len bs
            have ezs : (dealsV bs).map (·.2) = dealsOf (bs.map (·.2)) := dealsV_snd bs
            have hzof : ∀ z ∈ dealsV bs, (z.1, Row.deal z.2) ∈ bs := fun z h => dealsV_of h
            generalize dealsV bs = zs at hD1 hz1 hzl ezs hzof
            refine ⟨_, rfl, D1, rfl, ⟨_, SqL.of hD1⟩, fun D2 nD2 => ?_⟩
            refine lc_list (K := K) (a := D1) (xs := zs.map (·.1)) (fun j H' => Same H2 H' ∧ H' D2 = some (.lst ((zs.take j).map fun z => V.int z.2.num))) ⟨same_new (Same.refl H2) nD2, upd_same⟩ (fun j H' _ z => SqL.of (z.1 _ _ hD1)) ?_ ?_
            · rintro j v HA hj ⟨sA, hD⟩
              rw [List.getElem?_map] at hj
              cases ez : zs[j]? with
              | none => rw [ez] at hj; cases hj
              | some z =>
                rw [ez] at hj
                cases hj
                have hjl := (List.getElem?_eq_some_iff.mp ez).1
                obtain ⟨p, ps, rl, wl, xs, ys, A'⟩ := deal_at (dp_ext (LamX.ExtN.of (s2.trans sA)) (hz1 z (List.mem_of_getElem? ez)))
                refine ⟨rfl, _, rfl, p, _, 1, _, A'.e, rfl, A'.row, atI_nat (j := 1) rfl, _, hD, ?_, fun u o w => ?_, ?_⟩
                · rw [List.length_map, List.length_take]
                  exact Nat.lt_of_lt_of_le (show _ < 1001 by omega) (by decide)
                · rw [upd_ne (ne_of_none w nD2)]
                  exact sA _ _ w
                · rw [upd_same, List.take_add_one, ez, List.map_append]
                  rfl
            · rintro H3 ⟨s3, hD2⟩
              rw [List.length_map, List.take_length] at hD2
              have s23 := s2.trans s3
              refine ⟨_, rfl, D1, rfl, ⟨_, SqL.of (s3 _ _ hD1)⟩, fun D3 nD3 => ?_⟩
              refine lc_list (K := K) (a := D1) (xs := zs.map (·.1)) (fun j H' => Same H3 H' ∧ ∃ ts : List (Addr × List Int), H' D3 = some (.lst (ts.map fun p => V.ref p.1)) ∧ (∀ p ∈ ts, SqT K H3 p.1 (p.2.map V.int)) ∧ ts.map (·.2) = (zs.take j).map (·.2.st)) ⟨same_new (Same.refl H3) nD3, [], upd_same, (fun z h => by cases h), rfl⟩ (fun j H' _ z => SqL.of (z.1 _ _ (s3 _ _ hD1))) ?_ ?_
              · rintro j v HA hj ⟨sA, ts, hD, ht, et⟩
                rw [List.getElem?_map] at hj
                cases ez : zs[j]? with
                | none => rw [ez] at hj; cases hj
                | some z =>
                  rw [ez] at hj
                  cases hj
                  have hjl := (List.getElem?_eq_some_iff.mp ez).1
                  have htl := congrArg List.length et
                  rw [List.length_map, List.length_map, List.length_take] at htl
                  obtain ⟨p, ps, rl, wl, xs, ys, A'⟩ := deal_at (dp_ext (LamX.ExtN.of s23) (hz1 z (List.mem_of_getElem? ez)))
                  refine ⟨rfl, _, rfl, p, _, 4, _, A'.e, rfl, same_sqt sA A'.row, atI_nat (j := 4) rfl, _, hD, ?_, fun u o w => ?_, ts ++ [(ps, z.2.st)], ?_, fun y hy => ?_, ?_⟩
                  · rw [List.length_map]
                    exact Nat.lt_of_lt_of_le (show _ < 1001 by omega) (by decide)
                  · rw [upd_ne (ne_of_none w nD3)]
                    exact sA _ _ w
                  · rw [upd_same, List.map_append]
                    rfl
                  · rcases List.mem_append.mp hy with hy | hy
                    · exact ht y hy
                    · cases List.mem_singleton.mp hy
                      exact A'.st
                  · rw [List.map_append, et, List.take_add_one, ez, List.map_append]
                    rfl
              · rintro H4 ⟨s4, ts, hD3, ht, et⟩
                rw [List.length_map, List.take_length] at et
                have s14 := s23.trans s4
                have q : ∀ H', Same H1 H' → Q (.bl (decide ((zs.map (·.2)).map (·.num)).Nodup && decide ((zs.map (·.2)).map (·.st)).Nodup && ((zs.map (·.2)).all (fun one => pairOk (zs.map (·.2)) one && readsOk (zs.map (·.2)) one) && (bs.map (·.2)).all (fitsB (bs.map (·.2)) (zs.map (·.2)))))) H' := by
                  rw [ezs]
                  exact q
                refine ⟨_, rfl, .inl ⟨D2, zs.map fun z => Sum.inl z.2.num, rfl, SqL.of ?_, ?_, fun S1 S n hS g => .inl ⟨S1, S, n, rfl, upd_same, ?_⟩⟩⟩
                · rw [List.map_map]
                  exact s4 _ _ hD2
                · rw [List.length_map]
                  omega
                have g1 : n = zs.length ↔ ((zs.map (·.2)).map (·.num)).Nodup := by
                  have := g.nd
                  rw [List.take_length, List.length_map] at this
                  rw [this, List.map_map]
                  constructor
                  · intro h
                    have h := List.Pairwise.of_map (S := fun a b => a ≠ b) (R := fun a b : V × Deal => a.2.num ≠ b.2.num) _ (fun a b hne e => hne (congrArg Sum.inl e)) h
                    exact List.Pairwise.map _ (fun _ _ z => z) h
                  · intro h
                    have h := List.Pairwise.of_map (S := fun a b => a ≠ b) (R := fun a b : V × Deal => a.2.num ≠ b.2.num) _ (fun a b hne e => hne e) h
                    exact List.Pairwise.map _ (fun _ _ z e => z (Sum.inl.inj e)) h
                have s5 : Same H4 (upd H4 S1 (SM.SetMO P w S1 S n)) := same_new (Same.refl H4) hS
                refine ⟨_, rfl, D1, _, rfl, .inl (SqL.of (s5 _ _ (s4 _ _ (s3 _ _ hD1)))), rfl, _, rfl, ?_⟩
                have e0 : (zs.map (·.1)).length = zs.length := List.length_map _
                by_cases u1 : n = zs.length
                · refine iteNSD (by rw [u1, e0]) ?_
                  have u1 := g1.mp u1
                  have ets : (zs.map (·.2)).map (·.st) = ts.map (·.2) := by rw [et, List.map_map]; rfl
                  have etl : ts.length = zs.length := by
                    have := congrArg List.length et
                    rwa [List.length_map, List.length_map] at this
                  refine ⟨_, rfl, .inr ⟨D3, ts, rfl, SqL.of (s5 _ _ hD3), fun p hp => same_sqt (s4.trans s5) (ht p hp), by omega, fun S2 L hS2 h1 h2 => .inr ⟨S2, L, rfl, upd_same, fun hn => ?_⟩⟩⟩
                  have g2 : L.length = zs.length ↔ ((zs.map (·.2)).map (·.st)).Nodup := by
                    have := few_iff (L := L.map (·.2)) (ts := ts.map (·.2)) hn (fun x hx => by
                      obtain ⟨y, hy, rfl⟩ := List.mem_map.mp hx
                      exact List.mem_map_of_mem (h1 y hy)) (fun x hx => by
                      obtain ⟨y, hy, rfl⟩ := List.mem_map.mp hx
                      exact h2 y hy)
                    rw [List.length_map, List.length_map, etl] at this
                    rw [this, ets]
                  have s6 : Same H1 (upd _ S2 (SetTO P w S2 L)) := (s14.trans s5).trans (same_new (Same.refl _) hS2)
                  have hDk : ∀ {o}, H4 D1 = some o → (upd _ S2 (SetTO P w S2 L)) D1 = some o := fun h => same_new (Same.refl _) hS2 _ _ (s5 _ _ h)
                  have hD1x := hDk (s4 _ _ (s3 _ _ hD1))
                  refine ⟨_, rfl, D1, _, rfl, .inl (SqL.of hD1x), rfl, _, rfl, ?_⟩
                  by_cases u2 : L.length = zs.length
                  · refine iteNSD (by rw [u2, e0]) ?_
                    have u2 := g2.mp u2
                    refine ⟨_, rfl, D1, rfl, ⟨_, SqL.of hD1x⟩, ?_⟩
                    have hg : ∀ z ∈ zs, Row.good (.deal z.2) := fun z h => hgood _ (hzof z h)
                    have inj : ∀ y ∈ zs, ∀ z ∈ zs, y.2.num = z.2.num → y.2 = z.2 := fun y hy z hz e => nodup_inj u1 (List.mem_map_of_mem hy) (List.mem_map_of_mem hz) e
                    refine for_list (K := K) (a := D1) (xs := zs.map (·.1)) (fun i σ H' => (Same H1 H' ∧ H' D1 = some (.lst (zs.map (·.1)))) ∧ (∃ x4 x5 x6 x7 x8, σ = [some (.ref l), some (.ref D1), some (.ref D2), some (.ref D3), x4, x5, x6, x7, x8]) ∧ ((zs.take i).all fun z => pairOk (zs.map (·.2)) z.2 && readsOk (zs.map (·.2)) z.2) = true) ⟨⟨s6, hD1x⟩, ⟨_, _, _, _, _, rfl⟩, rfl⟩ (fun i σ H' _ z => SqL.of z.1.2) ?_ ?_
                    · rintro i v σ HA hi ⟨⟨sA, hDA⟩, ⟨x4, x5, x6, x7, x8, rfl⟩, hok⟩
                      rw [List.getElem?_map] at hi
                      cases ez : zs[i]? with
                      | none => rw [ez] at hi; cases hi
                      | some z =>
                        rw [ez] at hi
                        cases hi
                        have hzm := List.mem_of_getElem? ez
                        obtain ⟨p, ps, rl, wl, xs, ys, A'⟩ := deal_at (hz1 z hzm)
                        refine ⟨_, rfl, D1, rfl, ⟨_, SqL.of hDA⟩, fun DC nDC => ?_⟩
                        refine lc_list (K := K) (a := D1) (xs := zs.map (·.1)) (fun j H' => Same HA H' ∧ ∃ cs, H' DC = some (.lst cs) ∧ Kept (fun y : V × Deal => pairB z.2 y.2) zs j cs) ⟨same_new (Same.refl HA) nDC, [], upd_same, Kept.nil⟩ (fun j H' _ z => SqL.of (z.1 _ _ hDA)) ?_ ?_
                        · rintro j v HB hj ⟨sB, cs, hD, hk⟩
                          rw [List.getElem?_map] at hj
                          cases ey : zs[j]? with
                          | none => rw [ey] at hj; cases hj
                          | some y =>
                            rw [ey] at hj
                            cases hj
                            have hym := List.mem_of_getElem? ey
                            have hjl := (List.getElem?_eq_some_iff.mp ey).1
                            have hkl := hk.len
                            have sAB := sA.trans sB
                            obtain ⟨p', ps', rl', wl', xs', ys', B'⟩ := deal_at (dp_ext (LamX.ExtN.of sAB) (hz1 y hym))
                            have rowA := same_sqt sAB A'.row
                            have left : pairB z.2 y.2 = true → Same HA HB ∧ ∃ cs, HB DC = some (.lst cs) ∧ Kept (fun y : V × Deal => pairB z.2 y.2) zs (j + 1) cs := fun h => ⟨sB, cs, hD, hk.left ey h⟩
                            refine ⟨rfl, _, rfl, _, rfl, y.2.d, z.2.d, dp_ext (LamX.ExtN.of sAB) (hz1 y hym), dp_ext (LamX.ExtN.of sAB) (hz1 z hzm), shaped_deal (hg y hym), shaped_deal (hg z hzm), _, rfl, ?_⟩
                            rw [eqv_deal (hg y hym) (inj y hym z hzm)]
                            have hpr : pairB z.2 y.2 = !(!decide (y.2.num = z.2.num) && (decide (z.2.told ≤ y.2.beg) && decide (y.2.st ≤ z.2.st))) := rfl
                            by_cases c1 : y.2.num = z.2.num
                            · rw [decide_eq_true c1] at hpr ⊢
                              exact iteF (A := True) (iteF (A := True) (left hpr))
                            · rw [decide_eq_false c1] at hpr ⊢
                              refine iteT ⟨_, rfl, p, _, 3, _, A'.e, rfl, rowA, atI_nat (j := 3) rfl, _, rfl, p', _, 2, _, B'.e, rfl, B'.row, atI_nat (j := 2) rfl, z.2.told, y.2.beg, rfl, rfl, _, rfl, ?_⟩
                              by_cases c2 : z.2.told ≤ y.2.beg
                              · rw [decide_eq_true c2] at hpr
                                refine iteDT c2 ⟨_, rfl, p, _, 4, _, A'.e, rfl, rowA, atI_nat (j := 4) rfl, _, rfl, p', _, 4, _, B'.e, rfl, B'.row, atI_nat (j := 4) rfl, ps, ps', z.2.st, y.2.st, rfl, rfl, same_sqt sAB A'.st, B'.st, _, rfl, ?_⟩
                                have hge := ge3 z.2.s1 z.2.s2 z.2.s3 y.2.s1 y.2.s2 y.2.s3
                                by_cases c3 : y.2.st ≤ z.2.st
                                · rw [decide_eq_true c3] at hpr
                                  refine iteBT (hge.trans (decide_eq_true c3)) ⟨_, rfl, _, hD, ?_, fun b o w => ?_, _, upd_same, hk.put ey hpr⟩
                                  · exact Nat.lt_of_lt_of_le (show cs.length < 1001 by omega) (by decide)
                                  · rw [upd_ne (ne_of_none w nDC)]
                                    exact sB b o w
                                · rw [decide_eq_false c3] at hpr
                                  exact iteBF (hge.trans (decide_eq_false c3)) (left hpr)
                              · rw [decide_eq_false c2] at hpr
                                exact iteDF c2 (iteF (A := True) (left hpr))
                        · rintro HB ⟨sB, cs, hD, hk⟩
                          rw [List.length_map] at hk
                          have em := hk.all (Nat.le_refl _)
                          refine ⟨(by decide : 0 ≤ sizeLine), fun e ne => ?_⟩
                          have sN : Same HB (upd HB e (.lst [])) := same_new (Same.refl HB) ne
                          refine ⟨cs, ⟨DC, e, rfl, rfl, .inl ⟨SqL.of (sN _ _ hD), SqL.of upd_same⟩⟩, _, rfl, ?_⟩
                          have sAN := sA.trans (sB.trans sN)
                          rw [em, pairOk_eq]
                          have no : (pairOk (zs.map (·.2)) z.2 && readsOk (zs.map (·.2)) z.2) = false → ∀ H', Same H1 H' → Q (.bl false) H' := fun h H' s => bq (Q := Q) (by
                            have : ((zs.map (·.2)).all fun one => pairOk (zs.map (·.2)) one && readsOk (zs.map (·.2)) one) = false := by
                              rw [← Bool.not_eq_true, List.all_eq_true]
                              intro g
                              have := g z.2 (List.mem_map_of_mem hzm)
                              rw [h] at this
                              cases this
                            rw [this, Bool.false_and, Bool.and_false]) (q H' s)
                          have hDN : (upd HB e (.lst [])) D1 = some (.lst (zs.map (·.1))) := sN _ _ (sB _ _ hDA)
                          cases cp : pairOk (zs.map (·.2)) z.2 with
                          | false => exact iteT (no (by rw [cp, Bool.false_and]) _ sAN)
                          | true =>
                            refine iteF ?_
                            clear hD hk em sB sN
                            generalize (upd HB e (.lst [])) = HC at sAN hDN ⊢
                            obtain ⟨pss, rfl, eps, hps⟩ := sides A'.rs
                            have hpl : pss.length ≤ 1000 := by
                              have := (hsz _ (hzof z hzm) _ rfl).1
                              rwa [eps, List.length_map] at this
                            refine ⟨_, rfl, p, _, 5, _, A'.e, rfl, same_sqt sAN A'.row, atI_nat (j := 5) rfl, rl, rfl, ⟨_, sAN.seq A'.rl⟩, fun DE nDE => ?_⟩
                            refine lc_list (K := K) (a := rl) (xs := pss.map (·.1)) (fun j H' => Same HC H' ∧ ∃ cs, H' DE = some (.lst cs) ∧ Kept (fun p : V × Str × Option (List Int) => decide (p.2.2 = wOf (zs.map (·.2)) p.2.1 z.2.st)) pss j cs) ⟨same_new (Same.refl HC) nDE, [], upd_same, Kept.nil⟩ (fun j H' _ y => (sAN.trans y.1).seq A'.rl) ?_ ?_
                            · rintro j v HB hj ⟨sB, cs, hD, hk⟩
                              rw [List.getElem?_map] at hj
                              cases ey : pss[j]? with
                              | none => rw [ey] at hj; cases hj
                              | some y =>
                                rw [ey] at hj
                                cases hj
                                have hjl := (List.getElem?_eq_some_iff.mp ey).1
                                have hkl := hk.len
                                have sAB := sAN.trans sB
                                obtain ⟨q0, u, e0, hq, hu⟩ := rp_at (dp_ext (LamX.ExtN.of sAB) (hps y (List.mem_of_getElem? ey)))
                                refine ⟨q0, _, e0, hq, rfl, _, _, rfl, _, _, rfl, rfl, rfl, ?_⟩
                                refine ⟨_, rfl, _, rfl, _, rfl, _, rfl, p, _, 4, _, A'.e, rfl, same_sqt sAB A'.row, atI_nat (j := 4) rfl, D1, ps, y.2.1, zs, z.2.st, rfl, SqL.of (sB _ _ hDN), hz1.ext (LamX.ExtN.of sAB), by omega, same_sqt sAB A'.st, fun v w HJ sJ hw hsrc hwe => ?_⟩
                                refine ⟨owD y.2.2, owD w, dp_ext (LamX.ExtN.of sJ) hu, hw, shaped_ow _, shaped_ow _, _, rfl, ?_⟩
                                rw [eqv_ow, hwe]
                                cases c4 : decide (y.2.2 = wOf (zs.map (·.2)) y.2.1 z.2.st) with
                                | true => exact iteF ⟨sB.trans sJ, cs, sJ _ _ hD, hk.left ey c4⟩
                                | false =>
                                  refine iteT ⟨_, rfl, _, sJ _ _ hD, ?_, fun b o w => ?_, _, upd_same, hk.put ey c4⟩
                                  · exact Nat.lt_of_lt_of_le (show cs.length < 1001 by omega) (by decide)
                                  · rw [upd_ne (ne_of_none w nDE)]
                                    exact sJ _ _ (sB b o w)
                            · rintro HB ⟨sB, cs, hD, hk⟩
                              rw [List.length_map] at hk
                              have em := hk.all (Nat.le_refl _)
                              refine ⟨(by decide : 0 ≤ sizeLine), fun e ne => ?_⟩
                              have sN : Same HB (upd HB e (.lst [])) := same_new (Same.refl HB) ne
                              refine ⟨cs, ⟨DE, e, rfl, rfl, .inl ⟨SqL.of (sN _ _ hD), SqL.of upd_same⟩⟩, _, rfl, ?_⟩
                              have sAM := sAN.trans (sB.trans sN)
                              rw [em, readsOk_eq pss _ z.2 eps]
                              cases cr : readsOk (zs.map (·.2)) z.2 with
                              | false => exact iteT (no (by rw [cr, Bool.and_false]) _ sAM)
                              | true =>
                                refine iteF ⟨⟨sAM, sN _ _ (sB _ _ hDN)⟩, ⟨_, _, _, _, _, rfl⟩, ?_⟩
                                rw [List.take_add_one, ez, List.all_append, hok]
                                simp [cp, cr]
                    · rintro σ HA ⟨⟨sA, hDA⟩, ⟨x4, x5, x6, x7, x8, rfl⟩, hok⟩
                      rw [List.length_map, List.take_length] at hok
                      have hok' : ((zs.map (·.2)).all fun one => pairOk (zs.map (·.2)) one && readsOk (zs.map (·.2)) one) = true := by
                        rw [List.all_map]
                        exact hok
                      have q : ∀ H', Same H1 H' → Q (.bl ((bs.map (·.2)).all (fitsB (bs.map (·.2)) (zs.map (·.2))))) H' := by
                        rw [decide_eq_true u1, decide_eq_true u2, hok'] at q
                        exact q
                      have hlA := sA.seq hl1
                      refine ⟨_, rfl, l, rfl, ⟨_, hlA⟩, fun DS nDS => ?_⟩
                      refine lc_list (K := K) (a := l) (xs := bs.map (·.1)) (fun j H' => Same HA H' ∧ H' DS = some (.lst (((bs.take j).filter isRd).map (·.1)))) ⟨same_new (Same.refl HA) nDS, upd_same⟩ (fun j H' _ z => z.1.seq hlA) ?_ ?_
                      · rintro j v HB hj ⟨sB, hD⟩
                        rw [List.getElem?_map] at hj
                        cases eb : bs[j]? with
                        | none => rw [eb] at hj; cases hj
                        | some b =>
                          rw [eb] at hj
                          cases hj
                          have hjl := (List.getElem?_eq_some_iff.mp eb).1
                          obtain ⟨p, xs, e, hp⟩ := row_head (dp_ext (LamX.ExtN.of (sA.trans sB)) (hb1 b (List.mem_of_getElem? eb)))
                          refine ⟨rfl, _, rfl, p, _, 0, _, e, rfl, hp, atI_nat (j := 0) rfl, len2, fun u nu => ⟨u, _, rfl, .inr (SqT.of upd_same), rfl, rfl, _, rfl, ?_⟩⟩
                          have ein : inV (V.str b.2.word) [V.str "read", V.str "now"] = isRd b := by
                            obtain ⟨v, r⟩ := b
                            cases r with
                            | deal d => exact in_deal
                            | form t f => exact in_form
                            | read n a t k w => exact in_rw n
                          have sU : Same HB (upd HB u (.tup [.str "read", .str "now"])) := same_new (Same.refl HB) nu
                          generalize (upd HB u (.tup [.str "read", .str "now"])) = HU at sU ⊢
                          cases ci : isRd b with
                          | true =>
                            refine iteBT (ein.trans ci) ⟨_, rfl, _, sU _ _ hD, ?_, fun b o w => ?_, ?_⟩
                            · rw [List.length_map]
                              have h1 := List.length_filter_le isRd (bs.take j)
                              rw [List.length_take] at h1
                              exact Nat.lt_of_lt_of_le (show _ < 1001 by omega) (by decide)
                            · rw [upd_ne (ne_of_none w nDS)]
                              exact sU _ _ (sB b o w)
                            · rw [upd_same, List.take_add_one, eb, List.filter_append, List.map_append]
                              simp [ci]
                          | false =>
                            refine iteBF (ein.trans ci) ⟨sB.trans sU, ?_⟩
                            rw [sU _ _ hD, List.take_add_one, eb, List.filter_append]
                            simp [ci]
                      · rintro HB ⟨sB, hDS⟩
                        rw [List.length_map, List.take_length] at hDS
                        have sAB := sA.trans sB
                        have hDB := sB _ _ hDA
                        rw [fits_all] at q
                        have hfl := List.length_filter_le isRd bs
                        have hin : ∀ b ∈ bs.filter isRd, b ∈ bs ∧ isRd b = true := fun b h => List.mem_filter.mp h
                        generalize bs.filter isRd = fs at hDS q hfl hin
                        refine ⟨_, rfl, DS, rfl, ⟨_, SqL.of hDS⟩, fun DF nDF => ?_⟩
                        refine lc_list (K := K) (a := DS) (xs := fs.map (·.1)) (fun j H' => Same HB H' ∧ ∃ cs, H' DF = some (.lst cs) ∧ Kept (fun b : V × Row => fitsB (bs.map (·.2)) (zs.map (·.2)) b.2) fs j cs) ⟨same_new (Same.refl HB) nDF, [], upd_same, Kept.nil⟩ (fun j H' _ y => SqL.of (y.1 _ _ hDS)) ?_ ?_
                        · rintro j v HC hj ⟨sC, cs, hD, hk⟩
                          rw [List.getElem?_map] at hj
                          cases ey : fs[j]? with
                          | none => rw [ey] at hj; cases hj
                          | some y =>
                            rw [ey] at hj
                            cases hj
                            have hjl := (List.getElem?_eq_some_iff.mp ey).1
                            have hkl := hk.len
                            have sAC := sAB.trans sC
                            obtain ⟨hyb, hyr⟩ := hin y (List.mem_of_getElem? ey)
                            have hyd := dp_ext (LamX.ExtN.of sAC) (hb1 y hyb)
                            have hyg := hgood y hyb
                            obtain ⟨v, r⟩ := y
                            obtain ⟨n, a', t, k, w, rfl⟩ : ∃ n a' t k w, r = Row.read n a' t k w := by
                              cases r with
                              | read n a t k w => exact ⟨n, a, t, k, w, rfl⟩
                              | deal d => cases hyr
                              | form t f => cases hyr
                            refine ⟨rfl, _, rfl, _, rfl, _, rfl, l, D1, v, bs, zs, n, a', t, k, w, rfl, sAC.seq hl1, hb1.ext (LamX.ExtN.of sAC), hbl, hgood, SqL.of (sC _ _ hDB), hz1.ext (LamX.ExtN.of sAC), by omega, ezs, hyd, ?_, fun HE sE => ⟨_, rfl, ?_⟩⟩
                            · first | exact hyg.2 | exact hyg.2.2 | exact hyg.2.2.2 | exact hyg
                            · cases c5 : fitsB (bs.map (·.2)) (zs.map (·.2)) (.read n a' t k w) with
                              | true => exact iteF ⟨sC.trans sE, cs, sE _ _ hD, hk.left ey c5⟩
                              | false =>
                                refine iteT ⟨_, rfl, _, sE _ _ hD, ?_, fun b o w => ?_, _, upd_same, hk.put ey c5⟩
                                · exact Nat.lt_of_lt_of_le (show cs.length < 1001 by omega) (by decide)
                                · rw [upd_ne (ne_of_none w nDF)]
                                  exact sE _ _ (sC b o w)
                        · rintro HC ⟨sC, cs, hD, hk⟩
                          rw [List.length_map] at hk
                          have em := hk.all (Nat.le_refl _)
                          refine ⟨(by decide : 0 ≤ sizeLine), fun e ne => ?_⟩
                          have sN : Same HC (upd HC e (.lst [])) := same_new (Same.refl HC) ne
                          refine ⟨cs, ⟨DF, e, rfl, rfl, .inl ⟨SqL.of (sN _ _ hD), SqL.of upd_same⟩⟩, ?_⟩
                          rw [em]
                          exact q _ (sAB.trans (sC.trans sN))
                  · refine iteND (fun z => u2 (by have := V.int.inj z; omega)) (bq (Q := Q) ?_ (q _ s6))
                    rw [decide_eq_false fun h => u2 (g2.mpr h), Bool.and_false, Bool.false_and]
                · refine iteND (fun z => u1 (by have := V.int.inj z; omega)) (bq (Q := Q) ?_ (q _ (s14.trans s5)))
                  rw [decide_eq_false fun h => u1 (g1.mpr h), Bool.false_and, Bool.false_and]

theorem ok_l_bent_deal {P : Program} {w : World} {K : PySem.W.Frag} {mg : Str → Option Value} {base : Heap} {a : Nat → Addr} {d : Nat → FuncData} (T : Txt K mg a d) : FnOk P w K mg base CX0 2 (a 42) (d 42) ["_law_state", "_law_one"] (spBentD K) := by
  refine T.F_l_bent_deal.ok sc_l_bent_deal (fun vs H Q E h => ?_) (fun cdv A outer s0 H vs Q E hr h => ?_)
  · obtain ⟨s, v, d', m, rfl, hs, hv, hm3, hb, q⟩ := h
    rfl
  · obtain ⟨s, v, d', m, rfl, hs, hv, hm3, hb, q⟩ := h
    refine ⟨_, (pss_cons (ps_asg (pv 1) (pg_tup (by rfl) (pgs_cons (pg_name (i := 2) sc_l_bent_deal.nd rfl (.inl rfl)) (pgs_cons (pg_name (i := 3) sc_l_bent_deal.nd rfl (.inl rfl)) (pgs_cons (pg_name (i := 4) sc_l_bent_deal.nd rfl (.inl rfl)) (pgs_cons (pg_name (i := 5) sc_l_bent_deal.nd rfl (.inl rfl)) (pgs_cons (pg_name (i := 6) sc_l_bent_deal.nd rfl (.inl rfl)) (pgs_cons (pg_name (i := 7) sc_l_bent_deal.nd rfl (.inl rfl)) (pgs_cons (pg_name (i := 8) sc_l_bent_deal.nd rfl (.inl rfl)) pgs_nil))))))))) (pss_cons (ps_set (i := 9) sc_l_bent_deal.nd rfl (Or.inl rfl) (pe_call (ok_l_take T) (hr.mono (by decide)) (by rfl) T.g_l_take T.F_l_take.kp T.b_l_take .nil pass0 (pa_cons (pv 0) (pa_cons pe_int pa_nil)))) (pss_cons (ps_if (pt_cmpR op_eq (pv 9) pe_int (nomark _)) (pss_one (ps_ret (pe_tup (pa_cons (pv 2) (pa_cons (pv 3) (pa_cons (pv 4) (pa_cons (pv 5) (pa_cons (pe_tup (pa_cons (pe_op op_sub (pe_op op_add (pe_ix ix_tup (pv 6) pe_int (fun _ _ => rfl)) (pe_call (ok_l_take T) (hr.mono (by decide)) (by rfl) T.g_l_take T.F_l_take.kp T.b_l_take .nil pass0 (pa_cons (pv 0) (pa_cons pe_int pa_nil)))) pe_int) (pa_cons (pe_ix ix_tup (pv 6) pe_int (fun _ _ => rfl)) (pa_cons (pe_ix ix_tup (pv 6) pe_int (fun _ _ => rfl)) pa_nil)))) (pa_cons (pv 7) (pa_cons (pv 8) pa_nil)))))))))) pss_nil) (pss_cons (ps_if (pt_cmpR op_eq (pv 9) pe_int (nomark _)) (pss_one (ps_ret (pe_tup (pa_cons (pv 2) (pa_cons (pv 3) (pa_cons (pv 4) (pa_cons (pv 5) (pa_cons (pe_tup (pa_cons (pe_ix ix_tup (pv 6) pe_int (fun _ _ => rfl)) (pa_cons (pe_callB (call_max2 rfl) (by rfl) T.z_max (by decide +kernel) (pa_cons pe_int (pa_cons (pe_op op_sub (pe_ix ix_tup (pv 6) pe_int (fun _ _ => rfl)) (pe_call (ok_l_take T) (hr.mono (by decide)) (by rfl) T.g_l_take T.F_l_take.kp T.b_l_take .nil pass0 (pa_cons (pv 0) (pa_cons pe_int pa_nil)))) pa_nil))) (pa_cons pe_int pa_nil)))) (pa_cons (pv 7) (pa_cons (pv 8) pa_nil)))))))))) pss_nil) (pss_cons (ps_if (pt_cmpR op_eq (pv 9) pe_int (nomark _)) (pss_one (ps_ret (pe_tup (pa_cons (pv 2) (pa_cons (pv 3) (pa_cons (pe_callB (call_max2 rfl) (by rfl) T.z_max (by decide +kernel) (pa_cons pe_int (pa_cons (pe_op op_sub (pv 4) (pe_call (ok_l_take T) (hr.mono (by decide)) (by rfl) T.g_l_take T.F_l_take.kp T.b_l_take .nil pass0 (pa_cons (pv 0) (pa_cons pe_int pa_nil)))) pa_nil))) (pa_cons (pv 5) (pa_cons (pv 6) (pa_cons (pv 7) (pa_cons (pv 8) pa_nil)))))))))) pss_nil) (pss_cons (ps_if (pt_cmpR op_eq (pv 9) pe_int (nomark _)) (pss_one (ps_ret (pe_tup (pa_cons (pv 2) (pa_cons (pv 3) (pa_cons (pv 4) (pa_cons (pe_op op_sub (pv 5) (pe_call (ok_l_take T) (hr.mono (by decide)) (by rfl) T.g_l_take T.F_l_take.kp T.b_l_take .nil pass0 (pa_cons (pv 0) (pa_cons pe_int pa_nil)))) (pa_cons (pv 6) (pa_cons (pv 7) (pa_cons (pv 8) pa_nil)))))))))) pss_nil) (pss_cons (ps_if (pt_cmpR op_eq (pv 9) pe_int (nomark _)) (pss_one (ps_ret (pe_tup (pa_cons (pv 2) (pa_cons (pv 3) (pa_cons (pv 4) (pa_cons (pv 5) (pa_cons (pv 6) (pa_cons (pe_op op_cat (pv 7) (pe_lst (pa_cons (pe_tup (pa_cons pe_str (pa_cons (pe_tup (pa_cons (pe_call (ok_l_take T) (hr.mono (by decide)) (by rfl) T.g_l_take T.F_l_take.kp T.b_l_take .nil pass0 (pa_cons (pv 0) (pa_cons pe_int pa_nil))) pa_nil)) pa_nil))) pa_nil))) (pa_cons (pv 8) pa_nil)))))))))) pss_nil) (pss_cons (ps_if (pt_cmpR op_eq (pv 9) pe_int (nomark _)) (pss_one (ps_ret (pe_tup (pa_cons (pv 2) (pa_cons (pv 3) (pa_cons (pv 4) (pa_cons (pv 5) (pa_cons (pv 6) (pa_cons (pe_slice sl_list (pv 7) (po_some pe_int) po_none) (pa_cons (pv 8) pa_nil)))))))))) pss_nil) (pss_cons (ps_if (pt_cmpR op_eq (pv 9) pe_int (nomark _)) (pss_one (ps_ret (pe_tup (pa_cons (pv 2) (pa_cons (pv 3) (pa_cons (pv 4) (pa_cons (pv 5) (pa_cons (pv 6) (pa_cons (pv 7) (pa_cons (pe_op op_cat (pv 8) (pe_lst (pa_cons (pe_tup (pa_cons pe_str (pa_cons (pe_tup (pa_cons pe_int (pa_cons pe_int pa_nil))) pa_nil))) pa_nil))) pa_nil)))))))))) pss_nil) (pss_cons (ps_if (pt_cmpR op_eq (pv 9) pe_int (nomark _)) (pss_one (ps_ret (pe_tup (pa_cons (pv 2) (pa_cons (pv 3) (pa_cons (pv 4) (pa_cons (pv 5) (pa_cons (pv 6) (pa_cons (pe_lc (own := [("_law_key", 10), ("_law_worth", 11)]) (g := (gTup K 2 (gCons (gName 10) (gCons (gName 11) gNil)))) (te := (tTup (tCons (tVar 10) (tCons (tC .non) tNil)))) (by rfl) sc_l_bent_deal.nd (pi_list (pv 7)) (blkOk_by (own := [("_law_key", 10), ("_law_worth", 11)]) (N := ["_law_state", "_law_one", "_law_word", "_law_number", "_law_begun_here", "_law_told", "_law_stamp", "_law_reads_here", "_law_writes", "_law_way", "_law_key", "_law_worth"]) (sc := defScope s_l_bent_deal) (by decide +kernel)) (fun _ _ _ _ _ => (pg_tup (by rfl) (pgs_cons (pg_name (i := 10) sc_l_bent_deal.nd rfl (.inl rfl)) (pgs_cons (pg_name (i := 11) sc_l_bent_deal.nd rfl (.inl rfl)) pgs_nil)))) (fun _ _ _ _ _ => pts_nil) (fun _ _ _ _ _ => (pe_tup (pa_cons (pv 10) (pa_cons pe_non pa_nil))))) (pa_cons (pv 8) pa_nil)))))))))) pss_nil) (pss_cons (ps_if (pt_cmpR op_eq (pv 9) pe_int (nomark _)) (pss_one (ps_ret (pe_tup (pa_cons (pv 2) (pa_cons (pv 3) (pa_cons (pv 4) (pa_cons (pe_op op_add (pv 5) pe_int) (pa_cons (pv 6) (pa_cons (pv 7) (pa_cons (pv 8) pa_nil)))))))))) pss_nil) (pss_one (ps_ret (pe_tup (pa_cons (pv 2) (pa_cons (pv 3) (pa_cons (pv 4) (pa_cons (pv 5) (pa_cons (pv 6) (pa_cons (pv 7) (pa_cons (pe_revL (pv 8)) pa_nil))))))))))))))))))))), ?_⟩
    obtain ⟨p, ps, rl, wl, xs, ys, A, hrl, hwl⟩ := hv
    refine ⟨_, rfl, p, _, A.e, sqt_out A.row, rfl, _, _, rfl, _, _, rfl, _, _, rfl, _, _, rfl, _, _, rfl, _, _, rfl, _, _, rfl, rfl, ?_⟩
    refine ⟨_, rfl, s, 10, rfl, hs, by decide, by decide, fun wy H1 w0 w1 k1 => ?_⟩
    have B1 : BW K s H H1 v d' p ps rl wl xs ys := (BW.of hs.kp A hrl hwl).kp k1
    have hb0 := hb
    have hb := hb.mono (Nat.le_succ m)
    rcases (show wy = 0 ∨ wy = 1 ∨ wy = 2 ∨ wy = 3 ∨ wy = 4 ∨ wy = 5 ∨ wy = 6 ∨ wy = 7 ∨ wy = 8 ∨ wy = 9 by omega) with rfl | rfl | rfl | rfl | rfl | rfl | rfl | rfl | rfl | rfl
    · refine ⟨_, rfl, rfl, _, rfl, iteDT rfl ⟨_, rfl, _, rfl, _, rfl, _, rfl, _, rfl, ps, _, 0, _, rfl, rfl, sqt_out B1.A.st, atI_nat (j := 0) rfl, _, rfl, s, 7, rfl, B1.k.2, by decide, by decide, fun t H2 t0 t1 k2 => ⟨d'.s1, t, rfl, rfl, _, 3, rfl, rfl, ?_⟩⟩⟩
      have B2 := B1.kp k2
      refine ⟨_, rfl, ps, _, 1, _, rfl, rfl, sqt_out B2.A.st, atI_nat (j := 1) rfl, _, rfl, ps, _, 2, _, rfl, rfl, sqt_out B2.A.st, atI_nat (j := 2) rfl, len3, fun u nu => ⟨_, rfl, _, rfl, (by decide : 7 ≤ sizeLine), fun r nr => ?_⟩⟩
      have hu := B2.has (o := .tup [.int (d'.s1 + t - 3), .int d'.s2, .int d'.s3]) nu
      have B3 := B2.nw (o := .tup [.int (d'.s1 + t - 3), .int d'.s2, .int d'.s3]) nu
      exact bd_fin (d' := ⟨d'.num, d'.beg, d'.told, d'.s1 + t - 3, d'.s2, d'.s3, d'.rs, d'.ws⟩) B3.k nr (SqT.of hu) (B3.hrl) (B3.A.rs) (B3.hwl) (B3.A.ws) ⟨hb.num, hb.beg, hb.told, ib_up (j := d'.s1 + t - 3) hb0.s1 (by omega) (by omega), hb.s2, hb.s3, hb.rl, hb.wl, hb.rs, hb.ws⟩ q
    · refine ⟨_, rfl, rfl, _, rfl, iteDF (vne (by decide)) ⟨_, rfl, rfl, _, rfl, iteDT rfl ⟨_, rfl, _, rfl, _, rfl, _, rfl, _, rfl, ps, _, 0, _, rfl, rfl, sqt_out B1.A.st, atI_nat (j := 0) rfl, _, rfl, ps, _, 1, _, rfl, rfl, sqt_out B1.A.st, atI_nat (j := 1) rfl, _, rfl, s, 3, rfl, B1.k.2, by decide, by decide, fun t H2 t0 t1 k2 => ⟨d'.s2, t, rfl, rfl, _, _, rfl, len3, fun u nu => ?_⟩⟩⟩⟩
      have B2 := B1.kp k2
      have hu := B2.has (o := .tup [.int d'.s1, .int (if d'.s2 - t > 0 then d'.s2 - t else (0 : Int)), .int 0]) nu
      have B3 := B2.nw (o := .tup [.int d'.s1, .int (if d'.s2 - t > 0 then d'.s2 - t else (0 : Int)), .int 0]) nu
      have z20 : Ib (m + 1) (if d'.s2 - t > 0 then d'.s2 - t else (0 : Int)) := by
        split
        · exact ib_up hb0.s2 (by omega) (by omega)
        · exact ⟨by omega, by omega⟩
      refine ⟨_, rfl, _, rfl, (by decide : 7 ≤ sizeLine), fun r nr => ?_⟩
      exact bd_fin (d' := ⟨d'.num, d'.beg, d'.told, d'.s1, (if d'.s2 - t > 0 then d'.s2 - t else (0 : Int)), 0, d'.rs, d'.ws⟩) B3.k nr (SqT.of hu) (B3.hrl) (B3.A.rs) (B3.hwl) (B3.A.ws) ⟨hb.num, hb.beg, hb.told, hb.s1, z20, (show Ib (m + 1) 0 from ⟨by omega, by omega⟩), hb.rl, hb.wl, hb.rs, hb.ws⟩ q
    · refine ⟨_, rfl, rfl, _, rfl, iteDF (vne (by decide)) ⟨_, rfl, rfl, _, rfl, iteDF (vne (by decide)) ⟨_, rfl, rfl, _, rfl, iteDT rfl ⟨_, rfl, _, rfl, _, rfl, _, rfl, s, 9, rfl, B1.k.2, by decide, by decide, fun t H2 t0 t1 k2 => ⟨d'.beg, t, rfl, rfl, _, _, rfl, _, rfl, _, rfl, _, rfl, _, rfl, (by decide : 7 ≤ sizeLine), fun r nr => ?_⟩⟩⟩⟩⟩
      have B2 := B1.kp k2
      have z20 : Ib (m + 1) (if d'.beg - t > 0 then d'.beg - t else (0 : Int)) := by
        split
        · exact ib_up hb0.beg (by omega) (by omega)
        · exact ⟨by omega, by omega⟩
      exact bd_fin (d' := ⟨d'.num, (if d'.beg - t > 0 then d'.beg - t else (0 : Int)), d'.told, d'.s1, d'.s2, d'.s3, d'.rs, d'.ws⟩) B2.k nr (B2.A.st) (B2.hrl) (B2.A.rs) (B2.hwl) (B2.A.ws) ⟨hb.num, z20, hb.told, hb.s1, hb.s2, hb.s3, hb.rl, hb.wl, hb.rs, hb.ws⟩ q
    · refine ⟨_, rfl, rfl, _, rfl, iteDF (vne (by decide)) ⟨_, rfl, rfl, _, rfl, iteDF (vne (by decide)) ⟨_, rfl, rfl, _, rfl, iteDF (vne (by decide)) ⟨_, rfl, rfl, _, rfl, iteDT rfl ⟨_, rfl, _, rfl, _, rfl, _, rfl, _, rfl, s, 4, rfl, B1.k.2, by decide, by decide, fun t H2 t0 t1 k2 => ⟨d'.told, t, rfl, rfl, _, rfl, _, rfl, _, rfl, (by decide : 7 ≤ sizeLine), fun r nr => ?_⟩⟩⟩⟩⟩⟩
      have B2 := B1.kp k2
      exact bd_fin (d' := ⟨d'.num, d'.beg, d'.told - t, d'.s1, d'.s2, d'.s3, d'.rs, d'.ws⟩) B2.k nr (B2.A.st) (B2.hrl) (B2.A.rs) (B2.hwl) (B2.A.ws) ⟨hb.num, hb.beg, ib_up (j := d'.told - t) hb0.told (by omega) (by omega), hb.s1, hb.s2, hb.s3, hb.rl, hb.wl, hb.rs, hb.ws⟩ q
    · refine ⟨_, rfl, rfl, _, rfl, iteDF (vne (by decide)) ⟨_, rfl, rfl, _, rfl, iteDF (vne (by decide)) ⟨_, rfl, rfl, _, rfl, iteDF (vne (by decide)) ⟨_, rfl, rfl, _, rfl, iteDF (vne (by decide)) ⟨_, rfl, rfl, _, rfl, iteDT rfl ⟨_, rfl, _, rfl, _, rfl, _, rfl, _, rfl, _, rfl, _, rfl, s, 9, rfl, B1.k.2, by decide, by decide, fun t H2 t0 t1 k2 => ⟨len1, fun u nu => ?_⟩⟩⟩⟩⟩⟩⟩
      have B2 := B1.kp k2
      have B3 := B2.nw (o := .tup [.int t]) nu
      have hu := B2.has (o := .tup [.int t]) nu
      generalize (upd H2 u (.tup [.int t])) = H3 at B3 hu ⊢
      refine ⟨len2, fun v2 nv => ?_⟩
      have B4 := B3.nw (o := .tup [.str "a", .ref u]) nv
      have hv2 := B3.has (o := .tup [.str "a", .ref u]) nv
      have hu := mk_nw (o := .tup [.str "a", .ref u]) hu nv
      generalize (upd H3 v2 (.tup [.str "a", .ref u])) = H4 at B4 hv2 hu ⊢
      refine ⟨len1, fun w nw => ?_⟩
      have B5 := B4.nw (o := .lst [.ref v2]) nw
      have hw := B4.has (o := .lst [.ref v2]) nw
      have hu := mk_nw (o := .lst [.ref v2]) hu nw
      have hv2 := mk_nw (o := .lst [.ref v2]) hv2 nw
      generalize (upd H4 w (.lst [.ref v2])) = H5 at B5 hw hu hv2 ⊢
      have xl : xs.length ≤ 8 := by
        have := dpall_len B5.A.rs
        rw [List.length_map] at this
        have := hb.rl
        omega
      refine ⟨rl, w, _, _, rfl, rfl, (mk_some B5.hrl).2, (mk_some hw).2, Nat.le_trans (show xs.length + 1 ≤ 9 by omega) (by decide), fun z nz => ?_⟩
      have B6 := B5.nw (o := .lst (xs ++ [.ref v2])) nz
      have hz := B5.has (o := .lst (xs ++ [.ref v2])) nz
      have hu := mk_nw (o := .lst (xs ++ [.ref v2])) hu nz
      have hv2 := mk_nw (o := .lst (xs ++ [.ref v2])) hv2 nz
      have hw := mk_nw (o := .lst (xs ++ [.ref v2])) hw nz
      generalize (upd H5 z (.lst (xs ++ [.ref v2]))) = H6 at B6 hz hu hv2 hw ⊢
      refine ⟨_, rfl, (by decide : 7 ≤ sizeLine), fun r nr => ?_⟩
      exact bd_fin (d' := ⟨d'.num, d'.beg, d'.told, d'.s1, d'.s2, d'.s3, d'.rs ++ [(("a" : Str), some [t])], d'.ws⟩) B6.k nr (B6.A.st) (hz) (by rw [List.map_append]; exact dpall_app2 B6.A.rs (.cons (.tup (SqT.of hv2) (.cons (.str _) (.cons (wo_dp (w := [t]) (SqT.of hu)) .nil))) .nil)) (B6.hwl) (B6.A.ws) ⟨hb.num, hb.beg, hb.told, hb.s1, hb.s2, hb.s3, (by rw [List.length_append]; have := hb0.rl; show d'.rs.length + 1 ≤ _; omega), hb.wl, (fun p hp => by
        rcases List.mem_append.mp hp with hp | hp
        · exact hb.rs p hp
        · cases List.mem_singleton.mp hp
          exact ⟨(show ("a" : Str) ∈ kL from by decide +kernel), ⟨Nat.le_refl 1, (show 1 ≤ 4 from by decide)⟩, fun x hx => by
            cases List.mem_singleton.mp hx
            exact ⟨by omega, by omega⟩⟩), hb.ws⟩ q
    · refine ⟨_, rfl, rfl, _, rfl, iteDF (vne (by decide)) ⟨_, rfl, rfl, _, rfl, iteDF (vne (by decide)) ⟨_, rfl, rfl, _, rfl, iteDF (vne (by decide)) ⟨_, rfl, rfl, _, rfl, iteDF (vne (by decide)) ⟨_, rfl, rfl, _, rfl, iteDF (vne (by decide)) ⟨_, rfl, rfl, _, rfl, iteDT rfl ⟨_, rfl, _, rfl, _, rfl, _, rfl, _, rfl, _, rfl, _, rfl, rl, _, rfl, SqL.of (mk_some B1.hrl).2, fun u nu => ?_⟩⟩⟩⟩⟩⟩⟩
      rw [show cutV xs (some 1) none = xs.drop 1 from cut_from xs 1]
      have B2 := B1.nw (o := .lst (xs.drop 1)) nu
      have hu := B1.has (o := .lst (xs.drop 1)) nu
      generalize (upd H1 u (.lst (xs.drop 1))) = H2 at B2 hu ⊢
      refine ⟨_, rfl, (by decide : 7 ≤ sizeLine), fun r nr => ?_⟩
      exact bd_fin (d' := ⟨d'.num, d'.beg, d'.told, d'.s1, d'.s2, d'.s3, d'.rs.drop 1, d'.ws⟩) B2.k nr (B2.A.st) (hu) (rsl_tail B2.A.rs) (B2.hwl) (B2.A.ws) ⟨hb.num, hb.beg, hb.told, hb.s1, hb.s2, hb.s3, (by rw [List.length_drop]; have := hb.rl; omega), hb.wl, (fun p hp => hb.rs p (List.mem_of_mem_drop hp)), hb.ws⟩ q
    · refine ⟨_, rfl, rfl, _, rfl, iteDF (vne (by decide)) ⟨_, rfl, rfl, _, rfl, iteDF (vne (by decide)) ⟨_, rfl, rfl, _, rfl, iteDF (vne (by decide)) ⟨_, rfl, rfl, _, rfl, iteDF (vne (by decide)) ⟨_, rfl, rfl, _, rfl, iteDF (vne (by decide)) ⟨_, rfl, rfl, _, rfl, iteDF (vne (by decide)) ⟨_, rfl, rfl, _, rfl, iteDT rfl ⟨_, rfl, _, rfl, _, rfl, _, rfl, _, rfl, _, rfl, _, rfl, len2, fun u nu => ?_⟩⟩⟩⟩⟩⟩⟩⟩
      have B2 := B1.nw (o := .tup [.int 7, .int 7]) nu
      have hu := B1.has (o := .tup [.int 7, .int 7]) nu
      generalize (upd H1 u (.tup [.int 7, .int 7])) = H2 at B2 hu ⊢
      refine ⟨len2, fun v2 nv => ?_⟩
      have B3 := B2.nw (o := .tup [.str "d", .ref u]) nv
      have hv2 := B2.has (o := .tup [.str "d", .ref u]) nv
      have hu := mk_nw (o := .tup [.str "d", .ref u]) hu nv
      generalize (upd H2 v2 (.tup [.str "d", .ref u])) = H3 at B3 hv2 hu ⊢
      refine ⟨len1, fun w nw => ?_⟩
      have B4 := B3.nw (o := .lst [.ref v2]) nw
      have hw := B3.has (o := .lst [.ref v2]) nw
      have hu := mk_nw (o := .lst [.ref v2]) hu nw
      have hv2 := mk_nw (o := .lst [.ref v2]) hv2 nw
      generalize (upd H3 w (.lst [.ref v2])) = H4 at B4 hw hu hv2 ⊢
      have xl : ys.length ≤ 8 := by
        have := dpall_len B4.A.ws
        rw [List.length_map] at this
        have := hb.wl
        omega
      refine ⟨wl, w, _, _, rfl, rfl, (mk_some B4.hwl).2, (mk_some hw).2, Nat.le_trans (show ys.length + 1 ≤ 9 by omega) (by decide), fun z nz => ?_⟩
      have B5 := B4.nw (o := .lst (ys ++ [.ref v2])) nz
      have hz := B4.has (o := .lst (ys ++ [.ref v2])) nz
      have hu := mk_nw (o := .lst (ys ++ [.ref v2])) hu nz
      have hv2 := mk_nw (o := .lst (ys ++ [.ref v2])) hv2 nz
      have hw := mk_nw (o := .lst (ys ++ [.ref v2])) hw nz
      generalize (upd H4 z (.lst (ys ++ [.ref v2]))) = H5 at B5 hz hu hv2 hw ⊢
      refine ⟨(by decide : 7 ≤ sizeLine), fun r nr => ?_⟩
      exact bd_fin (d' := ⟨d'.num, d'.beg, d'.told, d'.s1, d'.s2, d'.s3, d'.rs, d'.ws ++ [(("d" : Str), ([7, 7] : List Int))]⟩) B5.k nr (B5.A.st) (B5.hrl) (B5.A.rs) (hz) (by rw [List.map_append]; exact dpall_app2 B5.A.ws (.cons (.tup (SqT.of hv2) (.cons (.str _) (.cons (wo_dp (w := [7, 7]) (SqT.of hu)) .nil))) .nil)) ⟨hb.num, hb.beg, hb.told, hb.s1, hb.s2, hb.s3, hb.rl, (by rw [List.length_append]; have := hb0.wl; show d'.ws.length + 1 ≤ _; omega), hb.rs, (fun p hp => by
        rcases List.mem_append.mp hp with hp | hp
        · exact hb.ws p hp
        · cases List.mem_singleton.mp hp
          exact ⟨(show ("d" : Str) ∈ kL from by decide +kernel), ⟨(show 1 ≤ 2 from by decide), (show 2 ≤ 4 from by decide)⟩, fun x hx => by
            rcases List.mem_cons.mp hx with rfl | hx
            · exact ⟨by omega, by omega⟩
            · cases List.mem_singleton.mp hx
              exact ⟨by omega, by omega⟩⟩)⟩ q
    · refine ⟨_, rfl, rfl, _, rfl, iteDF (vne (by decide)) ⟨_, rfl, rfl, _, rfl, iteDF (vne (by decide)) ⟨_, rfl, rfl, _, rfl, iteDF (vne (by decide)) ⟨_, rfl, rfl, _, rfl, iteDF (vne (by decide)) ⟨_, rfl, rfl, _, rfl, iteDF (vne (by decide)) ⟨_, rfl, rfl, _, rfl, iteDF (vne (by decide)) ⟨_, rfl, rfl, _, rfl, iteDF (vne (by decide)) ⟨_, rfl, rfl, _, rfl, iteDT rfl ⟨_, rfl, _, rfl, _, rfl, _, rfl, _, rfl, _, rfl, rl, rfl, ⟨_, SqL.of (mk_some B1.hrl).2⟩, fun D nD => ?_⟩⟩⟩⟩⟩⟩⟩⟩⟩
      obtain ⟨us, rfl, eus, hus⟩ := sides B1.A.rs
      refine lc_list (K := K) (a := rl) (xs := us.map (·.1)) (fun j H' => Same H1 H' ∧ ∃ ks : List (Addr × Str), H' D = some (.lst (ks.map fun k => V.ref k.1)) ∧ (∀ k ∈ ks, H' k.1 = some (.tup [.str k.2, .non]) ∧ k.2 ∈ kL) ∧ ks.length = j) ⟨same_new (Same.refl H1) nD, [], upd_same, (fun b h => by cases h), rfl⟩ (fun j H' _ z => z.1.seq (SqL.of (mk_some B1.hrl).2)) ?_ ?_
      · rintro j v0 HA hj ⟨sA, ks, hD, hks, hkl⟩
        rw [List.getElem?_map] at hj
        cases eu : us[j]? with
        | none => rw [eu] at hj; cases hj
        | some u =>
          rw [eu] at hj
          cases hj
          have hum := List.mem_of_getElem? eu
          have hjl := (List.getElem?_eq_some_iff.mp eu).1
          obtain ⟨q', v', e1, hq', _⟩ := rp_at (hus u hum)
          have huk : u.2.1 ∈ kL := (hb.rs u.2 (by rw [eus]; exact List.mem_map_of_mem hum)).1
          have hul : us.length ≤ 8 := by
            have := hb.rl
            rw [eus, List.length_map] at this
            omega
          refine ⟨q', _, e1, same_sqt sA (sqt_out hq'), rfl, _, _, rfl, _, _, rfl, rfl, rfl, _, rfl, len2, fun y ny => ?_⟩
          have sy : Same HA (upd HA y (.tup [.str u.2.1, .non])) := same_new (Same.refl HA) ny
          have hy : (upd HA y (.tup [.str u.2.1, .non])) y = some (.tup [.str u.2.1, .non]) := upd_same
          generalize (upd HA y (.tup [.str u.2.1, .non])) = HB at sy hy ⊢
          have hD := sy _ _ hD
          refine ⟨_, hD, ?_, fun b o w => ?_, ks ++ [(y, u.2.1)], by rw [upd_same, List.map_append]; rfl, fun k hk => ?_, by rw [List.length_append, hkl]; rfl⟩
          · rw [List.length_map, hkl]
            exact Nat.lt_of_lt_of_le (show j < 100 by omega) (by decide)
          · rw [upd_ne (ne_of_none w nD)]
            exact (sA.trans sy) b o w
          · rcases List.mem_append.mp hk with hk | hk
            · obtain ⟨h1, h2⟩ := hks k hk
              have h1 := sy _ _ h1
              exact ⟨by rw [upd_ne (ne_of h1 hD (by intro z; cases z))]; exact h1, h2⟩
            · cases List.mem_singleton.mp hk
              exact ⟨by rw [upd_ne (ne_of hy hD (by intro z; cases z))]; exact hy, huk⟩
      · rintro HA ⟨sA, ks, hD, hks, hkl⟩
        have B2 := B1.sm sA
        have Ds : D ≠ s := B1.k.2.ne_new nD
        refine ⟨_, rfl, (by decide : 7 ≤ sizeLine), fun r nr => ?_⟩
        obtain ⟨rs2, ers⟩ : ∃ rs2 : List (Str × Option (List Int)), rs2 = ks.map (fun k => (k.2, none)) := ⟨_, rfl⟩
        have hrs : DpAll K (mk [s] HA) (ks.map fun k => V.ref k.1) (rs2.map rpD) := by
          rw [ers]
          clear hD ers hkl
          induction ks with
          | nil => exact .nil
          | cons k r ih =>
            refine .cons (.tup (SqT.of (mk_has (hks k (.head _)).1 (not_one (B2.k.2.ne_tup (hks k (.head _)).1)))) (.cons (.str _) (.cons .non .nil))) (ih fun k hk => hks k (.tail _ hk))
        exact bd_fin (d' := ⟨d'.num, d'.beg, d'.told, d'.s1, d'.s2, d'.s3, rs2, d'.ws⟩) B2.k nr (B2.A.st) (mk_has hD (not_one Ds)) (hrs) (B2.hwl) (B2.A.ws) ⟨hb.num, hb.beg, hb.told, hb.s1, hb.s2, hb.s3, (by
          have := hb.rl
          rw [eus, List.length_map] at this
          show rs2.length ≤ _
          rw [ers, List.length_map, hkl, List.length_map]
          exact this), hb.wl, (fun p hp => by
          have hp : p ∈ rs2 := hp
          rw [ers] at hp
          obtain ⟨k, hk, rfl⟩ := List.mem_map.mp hp
          exact ⟨(hks k hk).2, trivial⟩), hb.ws⟩ q
    · refine ⟨_, rfl, rfl, _, rfl, iteDF (vne (by decide)) ⟨_, rfl, rfl, _, rfl, iteDF (vne (by decide)) ⟨_, rfl, rfl, _, rfl, iteDF (vne (by decide)) ⟨_, rfl, rfl, _, rfl, iteDF (vne (by decide)) ⟨_, rfl, rfl, _, rfl, iteDF (vne (by decide)) ⟨_, rfl, rfl, _, rfl, iteDF (vne (by decide)) ⟨_, rfl, rfl, _, rfl, iteDF (vne (by decide)) ⟨_, rfl, rfl, _, rfl, iteDF (vne (by decide)) ⟨_, rfl, rfl, _, rfl, iteDT rfl ⟨_, rfl, _, rfl, _, rfl, _, rfl, d'.told, 40, rfl, rfl, _, rfl, _, rfl, _, rfl, (by decide : 7 ≤ sizeLine), fun r nr => ?_⟩⟩⟩⟩⟩⟩⟩⟩⟩⟩
      exact bd_fin (d' := ⟨d'.num, d'.beg, d'.told + 40, d'.s1, d'.s2, d'.s3, d'.rs, d'.ws⟩) B1.k nr (B1.A.st) (B1.hrl) (B1.A.rs) (B1.hwl) (B1.A.ws) ⟨hb.num, hb.beg, ib_up (j := d'.told + 40) hb0.told (by omega) (by omega), hb.s1, hb.s2, hb.s3, hb.rl, hb.wl, hb.rs, hb.ws⟩ q
    · refine ⟨_, rfl, rfl, _, rfl, iteDF (vne (by decide)) ⟨_, rfl, rfl, _, rfl, iteDF (vne (by decide)) ⟨_, rfl, rfl, _, rfl, iteDF (vne (by decide)) ⟨_, rfl, rfl, _, rfl, iteDF (vne (by decide)) ⟨_, rfl, rfl, _, rfl, iteDF (vne (by decide)) ⟨_, rfl, rfl, _, rfl, iteDF (vne (by decide)) ⟨_, rfl, rfl, _, rfl, iteDF (vne (by decide)) ⟨_, rfl, rfl, _, rfl, iteDF (vne (by decide)) ⟨_, rfl, rfl, _, rfl, iteDF (vne (by decide)) ⟨_, rfl, _, rfl, _, rfl, _, rfl, _, rfl, _, rfl, _, rfl, wl, _, rfl, SqL.of (mk_some B1.hwl).2, fun u nu => ?_⟩⟩⟩⟩⟩⟩⟩⟩⟩⟩
      have B2 := B1.nw (o := .lst ys.reverse) nu
      have hu := B1.has (o := .lst ys.reverse) nu
      generalize (upd H1 u (.lst ys.reverse)) = H2 at B2 hu ⊢
      refine ⟨(by decide : 7 ≤ sizeLine), fun r nr => ?_⟩
      exact bd_fin (d' := ⟨d'.num, d'.beg, d'.told, d'.s1, d'.s2, d'.s3, d'.rs, d'.ws.reverse⟩) B2.k nr (B2.A.st) (B2.hrl) (B2.A.rs) (hu) (by rw [List.map_reverse]; exact dpall_rev B2.A.ws) ⟨hb.num, hb.beg, hb.told, hb.s1, hb.s2, hb.s3, hb.rl, (by rw [List.length_reverse]; exact hb.wl), hb.rs, (fun p hp => hb.ws p (List.mem_reverse.mp hp))⟩ q

theorem ok_l_bent {P : Program} {w : World} {K : PySem.W.Frag} {mg : Str → Option Value} {base : Heap} {a : Nat → Addr} {d : Nat → FuncData} (T : Txt K mg a d) : FnOk P w K mg base CX0 3 (a 43) (d 43) ["_law_state", "_law_history_here"] (spBent K) := by
  refine T.F_l_bent.ok sc_l_bent (fun vs H Q E h => ?_) (fun cdv A outer s0 H vs Q E hr h => ?_)
  · obtain ⟨s, l, bs, m, rfl, hs, hl, hb, hbl, hm3, hrb, q⟩ := h
    rfl
  · obtain ⟨s, l, bs, m, rfl, hs, hl, hb, hbl, hm3, hrb, q⟩ := h
    refine ⟨_, (pss_cons (ps_if (pt_cmpR (op_eqD hr.units) (pv 1) (pe_lst pa_nil) (nomark _)) (pss_one (ps_ret (pv 1))) pss_nil) (pss_cons (ps_set (i := 2) sc_l_bent.nd rfl (Or.inl rfl) (pe_call (ok_l_take T) (hr.mono (by decide)) (by rfl) T.g_l_take T.F_l_take.kp T.b_l_take .nil pass0 (pa_cons (pv 0) (pa_cons (pe_callB call_len_seq (by rfl) T.z_len PySem.boot_len (pa_cons (pv 1) pa_nil)) pa_nil)))) (pss_cons (ps_set (i := 3) sc_l_bent.nd rfl (Or.inl rfl) (pe_ix ix_list (pv 1) (pv 2) (fun _ _ => rfl))) (pss_cons (ps_set (i := 4) sc_l_bent.nd rfl (Or.inl rfl) (pe_call (ok_l_take T) (hr.mono (by decide)) (by rfl) T.g_l_take T.F_l_take.kp T.b_l_take .nil pass0 (pa_cons (pv 0) (pa_cons pe_int pa_nil)))) (pss_cons (ps_if (pt_cmpR op_eq (pv 4) pe_int (nomark _)) (pss_one (ps_ret (pe_op op_cat (pe_slice sl_list (pv 1) po_none (po_some (pv 2))) (pe_slice sl_list (pv 1) (po_some (pe_op op_add (pv 2) pe_int)) po_none)))) pss_nil) (pss_cons (ps_if (pt_cmpR op_eq (pv 4) pe_int (nomark _)) (pss_one (ps_ret (pe_op op_cat (pe_op op_cat (pe_slice sl_list (pv 1) po_none (po_some (pv 2))) (pe_lst (pa_cons (pv 3) pa_nil))) (pe_slice sl_list (pv 1) (po_some (pv 2)) po_none)))) pss_nil) (pss_cons (ps_if (pt_cmpR op_eq (pv 4) pe_int (nomark _)) (pss_one (ps_ret (pe_revL (pv 1)))) pss_nil) (Evl.pss_cut (ps_if (pt_cmpR op_eq (pe_ix ix_tup (pv 3) pe_int (fun _ _ => rfl)) pe_str (nomark _)) (pss_one (ps_set (i := 3) sc_l_bent.nd rfl (Or.inl rfl) (pe_call (ok_l_bent_deal T) (hr.mono (by decide)) (by rfl) T.g_l_bent_deal T.F_l_bent_deal.kp T.b_l_bent_deal .nil pass0 (pa_cons (pv 0) (pa_cons (pv 3) pa_nil))))) (pss_one (ps_if (pt_cmpR op_eq (pe_ix ix_tup (pv 3) pe_int (fun _ _ => rfl)) pe_str (nomark _)) (pss_one (ps_set (i := 3) sc_l_bent.nd rfl (Or.inl rfl) (pe_tup (pa_cons pe_str (pa_cons (pe_op op_sub (pe_op op_add (pe_ix ix_tup (pv 3) pe_int (fun _ _ => rfl)) (pe_call (ok_l_take T) (hr.mono (by decide)) (by rfl) T.g_l_take T.F_l_take.kp T.b_l_take .nil pass0 (pa_cons (pv 0) (pa_cons pe_int pa_nil)))) pe_int) (pa_cons (pe_op op_add pe_int (pe_call (ok_l_take T) (hr.mono (by decide)) (by rfl) T.g_l_take T.F_l_take.kp T.b_l_take .nil pass0 (pa_cons (pv 0) (pa_cons pe_int pa_nil)))) pa_nil)))))) (pss_cons (ps_set (i := 5) sc_l_bent.nd rfl (Or.inl rfl) (pe_ix ix_list (pe_lst (pa_cons (pe_ix ix_tup (pv 3) pe_int (fun _ _ => rfl)) (pa_cons pe_non (pa_cons (pe_tup (pa_cons (pe_call (ok_l_take T) (hr.mono (by decide)) (by rfl) T.g_l_take T.F_l_take.kp T.b_l_take .nil pass0 (pa_cons (pv 0) (pa_cons pe_int pa_nil))) pa_nil)) pa_nil)))) (pe_call (ok_l_take T) (hr.mono (by decide)) (by rfl) T.g_l_take T.F_l_take.kp T.b_l_take .nil pass0 (pa_cons (pv 0) (pa_cons pe_int pa_nil))) (fun _ _ => rfl))) (pss_one (ps_set (i := 3) sc_l_bent.nd rfl (Or.inl rfl) (pe_tup (pa_cons (pe_ix ix_list (pe_lst (pa_cons pe_str (pa_cons pe_str pa_nil))) (pe_call (ok_l_take T) (hr.mono (by decide)) (by rfl) T.g_l_take T.F_l_take.kp T.b_l_take .nil pass0 (pa_cons (pv 0) (pa_cons pe_int pa_nil))) (fun _ _ => rfl)) (pa_cons (pe_ix ix_tup (pv 3) pe_int (fun _ _ => rfl)) (pa_cons (pe_op op_sub (pe_op op_add (pe_ix ix_tup (pv 3) pe_int (fun _ _ => rfl)) (pe_call (ok_l_take T) (hr.mono (by decide)) (by rfl) T.g_l_take T.F_l_take.kp T.b_l_take .nil pass0 (pa_cons (pv 0) (pa_cons pe_int pa_nil)))) pe_int) (pa_cons (pe_ix ix_tup (pv 3) pe_int (fun _ _ => rfl)) (pa_cons (pv 5) pa_nil)))))))))))) (pss_one (ps_ret (pe_op op_cat (pe_op op_cat (pe_slice sl_list (pv 1) po_none (po_some (pv 2))) (pe_lst (pa_cons (pv 3) pa_nil))) (pe_slice sl_list (pv 1) (po_some (pe_op op_add (pv 2) pe_int)) po_none)))))))))))), ?_⟩
    refine ⟨_, rfl, (by decide : 0 ≤ sizeLine), fun e ne => ?_⟩
    have B0 : TW K s H H l bs := TW.of hs.kp hl hb
    have he := B0.has (o := .lst []) ne
    have B0 := B0.nw (o := .lst []) ne
    generalize (upd H e (.lst [])) = H0 at B0 he ⊢
    have hn : Nc ((2600 + 1) * 14) 5 (.list ((bs.map (·.2)).map Row.d)) := nc_lst (k := 4) (fun d' hd' => by
      obtain ⟨x, hx, rfl⟩ := List.mem_map.mp hd'
      obtain ⟨y, hy, rfl⟩ := List.mem_map.mp hx
      exact nc_row (hrb y hy) hm3) (by rw [List.length_map, List.length_map]; exact hbl)
    refine ⟨_, .list [], .lst B0.lst (unsides fun b h => dp_ext xout (B0.hb.at_ b h)), .lst (SqL.of (mk_some he).2) .nil, hn.shaped (by decide), rfl, _, rfl, ?_⟩
    rw [rows_eq_nil]
    have hrb0 := hrb
    have hrb : ∀ b ∈ bs, RB (m + 1) b.2 := fun b h => (hrb b h).mono (Nat.le_succ m)
    by_cases c : bs = []
    · subst c
      exact iteT ⟨_, rfl, q l [] H0 B0.k B0.hl B0.hb (by decide) hrb⟩
    have cb : bs.isEmpty = false := by
      cases bs with
      | nil => exact absurd rfl c
      | cons => rfl
    rw [cb]
    have hpos : 0 < bs.length := List.length_pos_iff.mpr c
    refine iteF ⟨_, rfl, _, rfl, l, _, rfl, .inl B0.lst, s, _, rfl, B0.k.2, ?_, ?_, fun jj H1 a0 a1 k1 => ?_⟩
    · rw [List.length_map]
      omega
    · rw [List.length_map]
      omega
    rw [List.length_map] at a1
    obtain ⟨j, rfl⟩ : ∃ j : Nat, jj = (j : Int) := ⟨jj.toNat, by omega⟩
    have B1 := B0.kp k1
    have hjl : j < bs.length := by omega
    obtain ⟨b, hbj⟩ : ∃ b, bs[j]? = some b := ⟨_, List.getElem?_eq_getElem hjl⟩
    have hbm := List.mem_of_getElem? hbj
    refine ⟨_, rfl, _, rfl, l, _, (j : Int), b.1, rfl, rfl, B1.lst, atI_nat (by rw [List.getElem?_map, hbj]; rfl), ?_⟩
    refine ⟨_, rfl, s, 5, rfl, B1.k.2, by decide, by decide, fun wy H2 w0 w1 k2 => ?_⟩
    have B2 := B1.kp k2
    rcases (show wy = 0 ∨ wy = 1 ∨ wy = 2 ∨ (wy ≠ 0 ∧ wy ≠ 1 ∧ wy ≠ 2) by omega) with rfl | rfl | rfl | ⟨wy0, wy1, wy2⟩
    · refine ⟨_, rfl, rfl, _, rfl, iteDT rfl ⟨_, rfl, _, rfl, _, rfl, l, _, rfl, B2.lst, fun x1 n1 => ?_⟩⟩
      rw [cut_toN, ← List.map_take]
      have hx1 := B2.has (o := .lst ((bs.take j).map (·.1))) n1
      have B3 := B2.nw (o := .lst ((bs.take j).map (·.1))) n1
      generalize (upd H2 x1 (.lst ((bs.take j).map (·.1)))) = H3 at B3 hx1 ⊢
      refine ⟨_, rfl, _, rfl, _, 1, rfl, rfl, _, rfl, l, _, rfl, B3.lst, fun x4 n4 => ?_⟩
      rw [show ((j : Int) + 1) = ((j + 1 : Nat) : Int) from rfl, cut_from, ← List.map_drop]
      have hx4 := B3.has (o := .lst ((bs.drop (j + 1)).map (·.1))) n4
      have B4 := B3.nw (o := .lst ((bs.drop (j + 1)).map (·.1))) n4
      have hx1 := mk_nw (o := .lst ((bs.drop (j + 1)).map (·.1))) hx1 n4
      generalize (upd H3 x4 (.lst ((bs.drop (j + 1)).map (·.1)))) = H4 at B4 hx4 hx1 ⊢
      refine ⟨x1, x4, _, _, rfl, rfl, (mk_some hx1).2, (mk_some hx4).2, ?_, fun r nr => ?_⟩
      · simp only [List.length_append, List.length_map, List.length_take, List.length_drop, List.length_cons, List.length_nil]; exact Nat.le_trans (show _ ≤ 60 by omega) (by decide)
      exact bt_fin (m := m + 1) (n := bs.length + 1) (zs := bs.take j ++ bs.drop (j + 1)) B4.k nr (rs_app (rs_take B4.hb j) (rs_drop B4.hb _)) (by simp only [List.length_append, List.length_take, List.length_drop]; omega) (rb_app (fun b h => hrb b (List.mem_of_mem_take h)) (fun b h => hrb b (List.mem_of_mem_drop h))) q (by simp)
    · refine ⟨_, rfl, rfl, _, rfl, iteDF (vne (by decide)) ⟨_, rfl, rfl, _, rfl, iteDT rfl ?_⟩⟩
      have XX := B2.hb b hbm
      refine ⟨_, rfl, _, rfl, _, rfl, l, _, rfl, B2.lst, fun x1 n1 => ?_⟩
      rw [cut_toN, ← List.map_take]
      have hx1 := B2.has (o := .lst ((bs.take j).map (·.1))) n1
      have B3 := B2.nw (o := .lst ((bs.take j).map (·.1))) n1
      have XX := RowR.ext XX (xsm (same_new (o := .lst ((bs.take j).map (·.1))) (Same.refl _) n1))
      generalize (upd H2 x1 (.lst ((bs.take j).map (·.1)))) = H3 at B3 hx1 XX ⊢
      refine ⟨_, rfl, len1, fun x2 n2 => ?_⟩
      have hx2 := B3.has (o := .lst [b.1]) n2
      have B4 := B3.nw (o := .lst [b.1]) n2
      have hx1 := mk_nw (o := .lst [b.1]) hx1 n2
      have XX := RowR.ext XX (xsm (same_new (o := .lst [b.1]) (Same.refl _) n2))
      generalize (upd H3 x2 (.lst [b.1])) = H4 at B4 hx2 hx1 XX ⊢
      refine ⟨x1, x2, _, _, rfl, rfl, (mk_some hx1).2, (mk_some hx2).2, ?_, fun x3 n3 => ?_⟩
      · simp only [List.length_append, List.length_map, List.length_take, List.length_drop, List.length_cons, List.length_nil]; exact Nat.le_trans (show _ ≤ 60 by omega) (by decide)
      have hx3 := B4.has (o := .lst ((bs.take j).map (·.1) ++ [b.1])) n3
      have B5 := B4.nw (o := .lst ((bs.take j).map (·.1) ++ [b.1])) n3
      have XX := RowR.ext XX (xsm (same_new (o := .lst ((bs.take j).map (·.1) ++ [b.1])) (Same.refl _) n3))
      generalize (upd H4 x3 (.lst ((bs.take j).map (·.1) ++ [b.1]))) = H5 at B5 hx3 XX ⊢
      refine ⟨_, rfl, _, rfl, _, rfl, l, _, rfl, B5.lst, fun x4 n4 => ?_⟩
      rw [cut_from, ← List.map_drop]
      have hx4 := B5.has (o := .lst ((bs.drop (j)).map (·.1))) n4
      have B6 := B5.nw (o := .lst ((bs.drop (j)).map (·.1))) n4
      have hx3 := mk_nw (o := .lst ((bs.drop (j)).map (·.1))) hx3 n4
      have XX := RowR.ext XX (xsm (same_new (o := .lst ((bs.drop (j)).map (·.1))) (Same.refl _) n4))
      generalize (upd H5 x4 (.lst ((bs.drop (j)).map (·.1)))) = H6 at B6 hx4 hx3 XX ⊢
      refine ⟨x3, x4, _, _, rfl, rfl, (mk_some hx3).2, (mk_some hx4).2, ?_, fun r nr => ?_⟩
      · simp only [List.length_append, List.length_map, List.length_take, List.length_drop, List.length_cons, List.length_nil]; exact Nat.le_trans (show _ ≤ 60 by omega) (by decide)
      exact bt_fin (m := m + 1) (n := bs.length + 1) (zs := bs.take j ++ [(b.1, b.2)] ++ bs.drop (j)) B6.k nr (rs_app (rs_app (rs_take B6.hb j) (rs_one XX)) (rs_drop B6.hb _)) (by simp only [List.length_append, List.length_take, List.length_drop, List.length_cons, List.length_nil]; omega) (rb_app (rb_app (fun b h => hrb b (List.mem_of_mem_take h)) (rb_one (hrb b hbm))) (fun b h => hrb b (List.mem_of_mem_drop h))) q (by simp)
    · refine ⟨_, rfl, rfl, _, rfl, iteDF (vne (by decide)) ⟨_, rfl, rfl, _, rfl, iteDF (vne (by decide)) ⟨_, rfl, rfl, _, rfl, iteDT rfl ⟨_, rfl, l, _, rfl, B2.lst, fun r nr => ?_⟩⟩⟩⟩
      exact bt_fin (m := m + 1) (n := bs.length + 1) (zs := bs.reverse) B2.k nr (fun b h => B2.hb b (List.mem_reverse.mp h)) (by rw [List.length_reverse]; omega) (fun b h => hrb b (List.mem_reverse.mp h)) q (by simp)
    · refine ⟨_, rfl, rfl, _, rfl, iteDF (vne wy0) ⟨_, rfl, rfl, _, rfl, iteDF (vne wy1) ⟨_, rfl, rfl, _, rfl, iteDF (vne wy2) ?_⟩⟩⟩
      refine ⟨fun σ' H' => ∃ (v' : V) (r' : Row) (ow : Option V), σ' = [some (.ref s), some (.ref l), some (.int (j : Int)), some v', some (.int wy), ow] ∧ TW K s H H' l bs ∧ RowR K (mk [s] H') v' r' ∧ RB (m + 1) r', ?_, ?_⟩
      · obtain ⟨bv, br⟩ := b
        have hbr := B2.hb _ hbm
        have hrb1 := hrb0 _ hbm
        cases br with
        | deal d =>
          obtain ⟨p, ps, rl, wl, xs, ys, A, _⟩ := id hbr
          refine ⟨_, rfl, p, _, 0, _, A.e, rfl, sqt_out A.row, atI_nat (j := 0) rfl, rfl, _, rfl, iteDT rfl ?_⟩
          refine ⟨_, rfl, _, rfl, s, bv, d, m, rfl, B2.k.2, hbr, hm3, hrb1, fun v' d' H3 k3 hv' hb' => ?_⟩
          exact ⟨v', .deal d', _, rfl, B2.kp k3, hv', hb'⟩
        | form t f =>
          obtain ⟨p, e, hp⟩ := form_at hbr
          obtain ⟨i1, f1, f2⟩ := hrb1
          refine ⟨_, rfl, p, _, 0, _, e, rfl, sqt_out hp, atI_nat (j := 0) rfl, rfl, _, rfl, iteDF (fun z => by cases z) ?_⟩
          refine ⟨_, rfl, p, _, 0, _, e, rfl, sqt_out hp, atI_nat (j := 0) rfl, rfl, _, rfl, iteDT rfl ?_⟩
          refine ⟨_, rfl, p, _, 1, _, e, rfl, sqt_out hp, atI_nat (j := 1) rfl, _, rfl, s, 5, rfl, B2.k.2, by decide, by decide, fun t1 H3 t10 t11 k3 => ⟨_, _, rfl, rfl, _, 2, rfl, rfl, ?_⟩⟩
          have B3 := B2.kp k3
          refine ⟨_, rfl, s, 4, rfl, B3.k.2, by decide, by decide, fun t2 H4 t20 t21 k4 => ⟨1, t2, rfl, rfl, len3, fun r nr => ?_⟩⟩
          have B4 := B3.kp k4
          exact ⟨_, .form (t + t1 - 2) (1 + t2), _, rfl, B4.nw nr, .tup (SqT.of (B4.has nr)) (.cons (.str _) (.cons (.int _) (.cons (.int _) .nil))), ib_up i1 (by omega) (by omega), by omega, by omega⟩
        | read n a' t k w =>
          obtain ⟨p, u4, e, hp, hu4⟩ := read_at hbr
          obtain ⟨i1, i2, kk, ow4⟩ := hrb1
          refine ⟨_, rfl, p, _, 0, _, e, rfl, sqt_out hp, atI_nat (j := 0) rfl, rfl, _, rfl, iteDF (fun z => by cases n <;> cases z) ?_⟩
          refine ⟨_, rfl, p, _, 0, _, e, rfl, sqt_out hp, atI_nat (j := 0) rfl, rfl, _, rfl, iteDF (fun z => by cases n <;> cases z) ?_⟩
          refine ⟨_, rfl, p, _, 4, _, e, rfl, sqt_out hp, atI_nat (j := 4) rfl, _, rfl, s, 9, rfl, B2.k.2, by decide, by decide, fun t1 H3 t10 t11 k3 => ⟨len1, fun u nu => ?_⟩⟩
          have B3 := B2.kp k3
          have hp := SL.SqT.extN hp (xkp k3 (.head _))
          have hu4 := dp_ext (xkp k3 (.head _)) hu4
          have hu := B3.has (o := .tup [.int t1]) nu
          have B4 := B3.nw (o := .tup [.int t1]) nu
          have hp := SL.SqT.extN hp (xsm (same_new (o := .tup [.int t1]) (Same.refl _) nu))
          have hu4 := dp_ext (xsm (same_new (o := .tup [.int t1]) (Same.refl _) nu)) hu4
          generalize (upd H3 u (.tup [.int t1])) = H4 at B4 hu hp hu4 ⊢
          refine ⟨len3, fun x nx => ?_⟩
          have hx := B4.has (o := .lst [u4, .non, .ref u]) nx
          have B5 := B4.nw (o := .lst [u4, .non, .ref u]) nx
          have hu := mk_nw (o := .lst [u4, .non, .ref u]) hu nx
          have hp := SL.SqT.extN hp (xsm (same_new (o := .lst [u4, .non, .ref u]) (Same.refl _) nx))
          have hu4 := dp_ext (xsm (same_new (o := .lst [u4, .non, .ref u]) (Same.refl _) nx)) hu4
          generalize (upd H4 x (.lst [u4, .non, .ref u])) = H5 at B5 hu hx hp hu4 ⊢
          refine ⟨_, rfl, s, 3, rfl, B5.k.2, by decide, by decide, fun t2 H6 t20 t21 k6 => ?_⟩
          have B6 := B5.kp k6
          have hp := SL.SqT.extN hp (xkp k6 (.head _))
          have hx := (xkp k6 (.head _)) _ _ hx (fun _ z => by cases z)
          obtain ⟨wv, w', hat, hw', hwb⟩ : ∃ (wv : V) (w' : Option (List Int)), atI [u4, .non, .ref u] t2 = some wv ∧ Dp K (mk [s] H6) wv (owD w') ∧ owB (m + 1) w' := by
            rcases (show t2 = 0 ∨ t2 = 1 ∨ t2 = 2 by omega) with rfl | rfl | rfl
            · exact ⟨u4, w, atI_nat (j := 0) rfl, dp_ext (xkp k6 (.head _)) hu4, ow4.mono (Nat.le_succ m)⟩
            · exact ⟨.non, none, atI_nat (j := 1) rfl, .non, trivial⟩
            · refine ⟨.ref u, some [t1], atI_nat (j := 2) rfl, wo_dp (w := [t1]) (SqT.of ((xkp k6 (.head _)) _ _ hu (fun _ z => by cases z))), ⟨⟨Nat.le_refl 1, (show 1 ≤ 4 from by decide)⟩, fun y hy => ?_⟩⟩
              cases List.mem_singleton.mp hy
              exact ⟨by omega, by omega⟩
          refine ⟨x, _, t2, _, rfl, rfl, SqL.of (mk_some hx).2, hat, ?_⟩
          refine ⟨len2, fun y ny => ?_⟩
          have hy := B6.has (o := .lst [V.str "read", V.str "now"]) ny
          have B7 := B6.nw (o := .lst [V.str "read", V.str "now"]) ny
          have hp := SL.SqT.extN hp (xsm (same_new (o := .lst [V.str "read", V.str "now"]) (Same.refl _) ny))
          have hw' := dp_ext (xsm (same_new (o := .lst [V.str "read", V.str "now"]) (Same.refl _) ny)) hw'
          generalize (upd H6 y (.lst [V.str "read", V.str "now"])) = H7 at B7 hy hp hw' ⊢
          refine ⟨_, rfl, s, 2, rfl, B7.k.2, by decide, by decide, fun t3 H8 t30 t31 k8 => ?_⟩
          have B8 := B7.kp k8
          have hp := SL.SqT.extN hp (xkp k8 (.head _))
          have hw' := dp_ext (xkp k8 (.head _)) hw'
          have hy := (xkp k8 (.head _)) _ _ hy (fun _ z => by cases z)
          obtain ⟨n', hn'⟩ := rw_at t30 t31
          refine ⟨y, _, t3, _, rfl, rfl, SqL.of (mk_some hy).2, hn', ?_⟩
          refine ⟨_, rfl, p, _, 1, _, e, rfl, sqt_out hp, atI_nat (j := 1) rfl, _, rfl, p, _, 2, _, e, rfl, sqt_out hp, atI_nat (j := 2) rfl, _, rfl, s, 5, rfl, B8.k.2, by decide, by decide, fun t4 H9 t40 t41 k9 => ⟨_, _, rfl, rfl, _, 2, rfl, rfl, ?_⟩⟩
          have B9 := B8.kp k9
          have hp := SL.SqT.extN hp (xkp k9 (.head _))
          have hw' := dp_ext (xkp k9 (.head _)) hw'
          refine ⟨_, rfl, p, _, 3, _, e, rfl, sqt_out hp, atI_nat (j := 3) rfl, _, rfl, (by decide : 5 ≤ sizeLine), fun r nr => ?_⟩
          exact ⟨_, .read n' a' (t + t4 - 2) k w', _, rfl, B9.nw nr, .tup (SqT.of (B9.has nr)) (.cons (.str _) (.cons (.int _) (.cons (.int _) (.cons (.str _) (.cons (dp_ext (xsm (same_new (Same.refl _) nr)) hw') .nil))))), i1.mono (Nat.le_succ m), ib_up i2 (by omega) (by omega), kk, hwb⟩
      · rintro σ' H10 ⟨v', r', ow, rfl, B10, XX, hr'⟩
        refine ⟨_, rfl, _, rfl, _, rfl, l, _, rfl, B10.lst, fun x1 n1 => ?_⟩
        rw [cut_toN, ← List.map_take]
        have hx1 := B10.has (o := .lst ((bs.take j).map (·.1))) n1
        have B11 := B10.nw (o := .lst ((bs.take j).map (·.1))) n1
        have XX := RowR.ext XX (xsm (same_new (o := .lst ((bs.take j).map (·.1))) (Same.refl _) n1))
        generalize (upd H10 x1 (.lst ((bs.take j).map (·.1)))) = H11 at B11 hx1 XX ⊢
        refine ⟨_, rfl, len1, fun x2 n2 => ?_⟩
        have hx2 := B11.has (o := .lst [v']) n2
        have B12 := B11.nw (o := .lst [v']) n2
        have hx1 := mk_nw (o := .lst [v']) hx1 n2
        have XX := RowR.ext XX (xsm (same_new (o := .lst [v']) (Same.refl _) n2))
        generalize (upd H11 x2 (.lst [v'])) = H12 at B12 hx2 hx1 XX ⊢
        refine ⟨x1, x2, _, _, rfl, rfl, (mk_some hx1).2, (mk_some hx2).2, ?_, fun x3 n3 => ?_⟩
        · simp only [List.length_append, List.length_map, List.length_take, List.length_drop, List.length_cons, List.length_nil]; exact Nat.le_trans (show _ ≤ 60 by omega) (by decide)
        have hx3 := B12.has (o := .lst ((bs.take j).map (·.1) ++ [v'])) n3
        have B13 := B12.nw (o := .lst ((bs.take j).map (·.1) ++ [v'])) n3
        have XX := RowR.ext XX (xsm (same_new (o := .lst ((bs.take j).map (·.1) ++ [v'])) (Same.refl _) n3))
        generalize (upd H12 x3 (.lst ((bs.take j).map (·.1) ++ [v']))) = H13 at B13 hx3 XX ⊢
        refine ⟨_, rfl, _, rfl, _, 1, rfl, rfl, _, rfl, l, _, rfl, B13.lst, fun x4 n4 => ?_⟩
        rw [show ((j : Int) + 1) = ((j + 1 : Nat) : Int) from rfl, cut_from, ← List.map_drop]
        have hx4 := B13.has (o := .lst ((bs.drop (j + 1)).map (·.1))) n4
        have B14 := B13.nw (o := .lst ((bs.drop (j + 1)).map (·.1))) n4
        have hx3 := mk_nw (o := .lst ((bs.drop (j + 1)).map (·.1))) hx3 n4
        have XX := RowR.ext XX (xsm (same_new (o := .lst ((bs.drop (j + 1)).map (·.1))) (Same.refl _) n4))
        generalize (upd H13 x4 (.lst ((bs.drop (j + 1)).map (·.1)))) = H14 at B14 hx4 hx3 XX ⊢
        refine ⟨x3, x4, _, _, rfl, rfl, (mk_some hx3).2, (mk_some hx4).2, ?_, fun r nr => ?_⟩
        · simp only [List.length_append, List.length_map, List.length_take, List.length_drop, List.length_cons, List.length_nil]; exact Nat.le_trans (show _ ≤ 60 by omega) (by decide)
        exact bt_fin (m := m + 1) (n := bs.length + 1) (zs := bs.take j ++ [(v', r')] ++ bs.drop (j + 1)) B14.k nr (rs_app (rs_app (rs_take B14.hb j) (rs_one XX)) (rs_drop B14.hb _)) (by simp only [List.length_append, List.length_take, List.length_drop, List.length_cons, List.length_nil]; omega) (rb_app (rb_app (fun b h => hrb b (List.mem_of_mem_take h)) (rb_one hr')) (fun b h => hrb b (List.mem_of_mem_drop h))) q (by simp)


theorem gd_rows67 {K : PySem.W.Frag} {H : Hp} {l : Addr} {m : Nat} {bs : List (V × Row)} (hl : H l = some (.lst (bs.map (·.1)))) (hb : RsAt K H bs) (hn : bs.length ≤ 16) (hm : m ≤ 3) (hr : ∀ b ∈ bs, RB m b.2) : Gd K H (.ref l) (.list ((bs.map (·.2)).map Row.d)) ∧ Few (.list ((bs.map (·.2)).map Row.d)) := by
  have hs : smallAll ((bs.map (·.2)).map Row.d) = true := small_map _ fun r h => by
    obtain ⟨b, hb', rfl⟩ := List.mem_map.mp h
    exact small_row (hr b hb') hm
  have dp := unsides (f := Row.d) hb
  refine ⟨.lst (SqL.of hl) (by rw [List.length_map]; omega) (dpall_gd dp hs), ?_⟩
  show ((bs.map (·.2)).map Row.d).length < 64
  rw [List.length_map, List.length_map]
  omega
theorem wth_wo {w : List Int} (h : wgood w) : wthD (woD w) = true := by
  show (decide ((1 : Int) ≤ ((w.map PyData.int).length : Nat)) && decide ((((w.map PyData.int).length : Nat) : Int) ≤ 4) && (w.map PyData.int).all wholeD) = true
  rw [List.length_map, decide_eq_true (show (1 : Int) ≤ (w.length : Nat) by have := h.1; omega), decide_eq_true (show ((w.length : Nat) : Int) ≤ 4 by have := h.2; omega)]
  show (true && (w.map PyData.int).all wholeD) = true
  rw [Bool.true_and]
  refine List.all_eq_true.mpr fun d hd => ?_
  obtain ⟨i, _, rfl⟩ := List.mem_map.mp hd
  rfl
theorem told_ow {w : Option (List Int)} (h : owgood w) : toldD true (owD w) = true := by
  cases w with
  | none => rfl
  | some w =>
    show (wthD (woD w) || _) = true
    rw [wth_wo h]
    rfl
theorem row_look {r : Row} (h : r.good) : rowLook r.d = true := by
  cases r with
  | deal d =>
    obtain ⟨h2, h3, hr, hw⟩ := h
    show (wholeD (.int d.num) && wholeD (.int d.beg) && wholeD (.int d.told) && stampD (.tuple (d.st.map .int)) && pairsD true (.list (d.rs.map rpD)) && pairsD false (.list (d.ws.map wpD))) = true
    have e1 : stampD (.tuple (d.st.map .int)) = true := by
      show (rowD 3 3 (.tuple [.int d.s1, .int d.s2, .int d.s3]) && (decide (0 ≤ d.s2) && decide (0 ≤ d.s3))) = true
      rw [decide_eq_true h2, decide_eq_true h3]
      rfl
    have e2 : pairsD true (.list (d.rs.map rpD)) = true := List.all_eq_true.mpr fun x hx => by
      obtain ⟨p, hp, rfl⟩ := List.mem_map.mp hx
      show (keyD (.str p.1) && toldD true (owD p.2)) = true
      rw [show keyD (.str p.1) = true from (hr p hp).1, told_ow (hr p hp).2]
      rfl
    have e3 : pairsD false (.list (d.ws.map wpD)) = true := List.all_eq_true.mpr fun x hx => by
      obtain ⟨p, hp, rfl⟩ := List.mem_map.mp hx
      show (keyD (.str p.1) && (wthD (woD p.2) || _)) = true
      rw [show keyD (.str p.1) = true from (hw p hp).1, wth_wo (hw p hp).2]
      rfl
    rw [e1, e2, e3]
    rfl
  | form t f =>
    show (wholeD (.int t) && (decide (1 ≤ f) && decide (f ≤ 4))) = true
    rw [decide_eq_true h.1, decide_eq_true h.2]
    rfl
  | read n a t k w =>
    have e2 : rowLook (Row.read n a t k w).d = readD [.str (rwName n), .int a, .int t, .str k, owD w] := by
      show (if rwName n = "dealing" then _ else if rwName n = "form" then _ else if rwName n = "read" ∨ rwName n = "now" then readD [.str (rwName n), .int a, .int t, .str k, owD w] else false) = _
      rw [if_neg fun z => w_deal_rw n z.symm, if_neg fun z => w_form_rw n z.symm, if_pos (by cases n <;> simp [rwName])]
    rw [e2]
    show (wholeD (.int a) && wholeD (.int t) && keyD (.str k) && toldD true (owD w)) = true
    rw [show keyD (.str k) = true from h.1, told_ow h.2]
    rfl
theorem look_row {r : Row} (h : RB 0 r) (h2 : ∀ d, r = .deal d → 0 ≤ d.s2 ∧ 0 ≤ d.s3) : rowLook r.d = true := row_look (by
  cases r with
  | deal d =>
    have h : DB 0 d := h
    exact ⟨(h2 d rfl).1, (h2 d rfl).2, fun p hp => ⟨(kL_facts _ (h.rs p hp).1).1, owB_good (h.rs p hp).2⟩, fun p hp => ⟨(kL_facts _ (h.ws p hp).1).1, (h.ws p hp).2.1⟩⟩
  | form t f => exact h.2
  | read n a t k w => exact ⟨(kL_facts _ h.2.2.1).1, owB_good h.2.2.2⟩)
theorem hist_true {bs : List (V × Row)} (h : HistOk (bs.map (·.2))) (hr : ∀ b ∈ bs, RB 0 b.2) : ordD (.list ((bs.map (·.2)).map Row.d)) = true := by
  rw [← law_ord]
  show (((bs.map (·.2)).map Row.d).all toldX && lawR (((bs.map (·.2)).map Row.d).map rowOf)) = true
  rw [rowOf_all, h.1, Bool.and_true]
  refine List.all_eq_true.mpr fun d hd => ?_
  obtain ⟨r, hr', rfl⟩ := List.mem_map.mp hd
  obtain ⟨b, hb, rfl⟩ := List.mem_map.mp hr'
  rw [told_row, h.2.1 _ hr', look_row (hr b hb) (h.2.2 _ hr')]
  rfl
theorem shw_bool (b : Bool) : (PyData.bool b).shown.length ≤ sizeLine := by cases b <;> decide +kernel
def spRight67 (K : PySem.W.Frag) (a : Nat → Addr) : Sp := fun vs H Q _ => ∃ v, vs = [v] ∧ GA K H v ∧ LamX.Tabs (TT a) H ∧ ∀ H', LM.Ex (TT a) H H' → LamX.Tabs (TT a) H' → Q (.bl true) H'
def spFixed67 (K : PySem.W.Frag) (a : Nat → Addr) : Sp := fun vs H Q _ => vs = [] ∧ LamX.Tabs (TT a) H ∧ ∀ H', LM.Ex (TT a) H H' → LamX.Tabs (TT a) H' → Q (.bl true) H'
def fxD : Deal := ⟨1, 0, 4, 9, 1, 0, [], [("a", [1, 2, 3])]⟩
def fxE : Deal := ⟨-7, -9, -9, -3, 0, 0, [], [("a", [5])]⟩
def fx1 : List Row := [.deal fxD, .read true 4 8 "a" none]
def fx2 : List Row := [.deal fxD, .read true 3 8 "a" none]
def fx3 : List Row := [.deal fxD, .read true 4 9 "a" (some [1, 2, 3])]
def fx4 : List Row := [.deal fxD, .form 9 1, .form 9 2, .read false 0 9 "a" (some [1, 2])]
def fx5 : List Row := [.deal fxD, .form 9 2, .form 9 1, .read false 0 9 "a" (some [1])]
def fx6 : List Row := [.deal fxD, .form 9 1, .form 9 2, .read false 0 9 "a" (some [1])]
def fx7 : List Row := [.deal fxE, .read false (-1) (-2) "a" (some [5]), .deal fxD]
def fxs : List (List Row) := [fx1, fx2, fx3, fx4, fx5, fx6, fx7]
def fxd (rs : List Row) : PyData := .list (rs.map Row.d)

theorem ms2 {α : Type} {le : α → α → Bool} {a b : α} : [a, b].mergeSort le = if le a b = true then [a, b] else [b, a] := by
  rw [List.mergeSort]
  simp only [List.MergeSort.Internal.splitInTwo_fst, List.MergeSort.Internal.splitInTwo_snd]
  rw [show List.take (([a, b].length + 1) / 2) [a, b] = [a] by simp, show List.drop (([a, b].length + 1) / 2) [a, b] = [b] by simp]
  rw [List.mergeSort_singleton, List.mergeSort_singleton]
  by_cases c : le a b = true <;> simp [List.merge, c]
def fitsF (fs : List (Int × Int)) (ds : List Deal) : Row → Bool
  | .read n a t k w => decide (w = shp (wOf ds k [t + 1, -1, -1]) (lastUp fs t)) && (!n || !lackB ds a t)
  | _ => true
def lawF (fs : List (Int × Int)) (rs : List Row) : Bool := decide ((dealsOf rs).map (·.num)).Nodup && decide ((dealsOf rs).map (·.st)).Nodup && ((dealsOf rs).all (fun one => pairOk (dealsOf rs) one && readsOk (dealsOf rs) one) && rs.all (fitsF fs (dealsOf rs)))
theorem fitsF_eq (rs : List Row) (ds : List Deal) : fitsB rs ds = fitsF (formS rs) ds := by
  funext r
  cases r <;> rfl
theorem fx_ord {rs : List Row} {fs : List (Int × Int)} {b : Bool} (e : formS rs = fs) (h : ((rs.map Row.d).all toldX && lawF fs rs) = b) : ordD (fxd rs) = b := by
  rw [← law_ord]
  show ((rs.map Row.d).all toldX && lawR ((rs.map Row.d).map rowOf)) = b
  rw [rowOf_all, ← h, ← e]
  unfold lawR lawF
  rw [fitsF_eq]
theorem fs0 : PySem.W.dataLe false (fun p : Int × Int => PyData.int p.1) (9, 1) (9, 2) = true := by decide +kernel
theorem fs1 : PySem.W.dataLe false (fun p : Int × Int => PyData.int p.1) (9, 2) (9, 1) = true := by decide +kernel
theorem fx_vals : fxs.map (fun rs => ordD (fxd rs)) = [false, true, true, true, true, false, true] := by
  have h1 : ordD (fxd fx1) = false := fx_ord (fs := []) (show List.mergeSort [] _ = _ from List.mergeSort_nil) (by decide +kernel)
  have h2 : ordD (fxd fx2) = true := fx_ord (fs := []) (show List.mergeSort [] _ = _ from List.mergeSort_nil) (by decide +kernel)
  have h3 : ordD (fxd fx3) = true := fx_ord (fs := []) (show List.mergeSort [] _ = _ from List.mergeSort_nil) (by decide +kernel)
  have h4 : ordD (fxd fx4) = true := fx_ord (fs := [(9, 1), (9, 2)]) (show List.mergeSort [(9, 1), (9, 2)] _ = _ by rw [ms2, if_pos fs0]) (by decide +kernel)
  have h5 : ordD (fxd fx5) = true := fx_ord (fs := [(9, 2), (9, 1)]) (show List.mergeSort [(9, 2), (9, 1)] _ = _ by rw [ms2, if_pos fs1]) (by decide +kernel)
  have h6 : ordD (fxd fx6) = false := fx_ord (fs := [(9, 1), (9, 2)]) (show List.mergeSort [(9, 1), (9, 2)] _ = _ by rw [ms2, if_pos fs0]) (by decide +kernel)
  have h7 : ordD (fxd fx7) = true := fx_ord (fs := []) (show List.mergeSort [] _ = _ from List.mergeSort_nil) (by decide +kernel)
  show [ordD (fxd fx1), ordD (fxd fx2), ordD (fxd fx3), ordD (fxd fx4), ordD (fxd fx5), ordD (fxd fx6), ordD (fxd fx7)] = _
  rw [h1, h2, h3, h4, h5, h6, h7]
theorem fx_small : smallAll (fxs.map fxd) = true := by decide +kernel
theorem fx_few : ∀ rs ∈ fxs, Few (fxd rs) := fun rs h => by
  have e : ∀ rs ∈ fxs, (rs.map Row.d).length < 64 := by decide +kernel
  exact e rs h

theorem ok_l_right {P : Program} {w : World} {K : PySem.W.Frag} {mg : Str → Option Value} {base : Heap} {a : Nat → Addr} {d : Nat → FuncData} (T : Txt K mg a d) (TB : Tb base mg a) : FnG P w K mg base 8 (a 44) (d 44) ["_law_history_here"] (spRight67 K a) := by
  refine fnG_mk T.F_l_right sc_l_right (fun vs H Q E h => ?_) (fun cdv A outer s0 H vs Q E gd hr h => ?_)
  · obtain ⟨v, rfl, ⟨d', hg, ha, hf, hsw, _⟩, hT, q⟩ := h
    rfl
  · obtain ⟨v, rfl, ⟨d', hg, ha, hf, hsw, _⟩, hT, q⟩ := h
    refine ⟨_, (pss_cons (ps_set (i := 1) sc_l_right.nd rfl (Or.inl rfl) (pe_callB (call_reprA gd (room66 hr)) (by rfl) T.z_repr (by decide +kernel) (pa_cons (pv 0) pa_nil))) (pss_cons (ps_set (i := 2) sc_l_right.nd rfl (Or.inl rfl) (pe_call (ok_is_ordered T TB) (hr.mono (by decide)) (by rfl) T.g_is_ordered T.F_is_ordered.kp T.b_is_ordered .nil pass0 (pa_cons (pv 0) pa_nil))) (pss_cons (ps_if (pt_cmpR op_ne (pe_callB (call_reprA gd (room66 hr)) (by rfl) T.z_repr (by decide +kernel) (pa_cons (pv 2) pa_nil)) (pe_callB (call_reprA gd (room66 hr)) (by rfl) T.z_repr (by decide +kernel) (pa_cons (pe_call (ok_l_is_ordered T) (hr.mono (by decide)) (by rfl) T.g_l_is_ordered T.F_l_is_ordered.kp T.b_l_is_ordered .nil pass0 (pa_cons (pv 0) pa_nil)) pa_nil)) (nomark _)) (pss_one (ps_ret pe_bl)) pss_nil) (pss_one (ps_ret (pe_cmpR op_eq (pe_callB (call_reprA gd (room66 hr)) (by rfl) T.z_repr (by decide +kernel) (pa_cons (pv 0) pa_nil)) (pv 1) (nomark _))))))), ?_⟩
    refine ⟨_, rfl, v, d', rfl, ha, hsw.1, hsw.2, hsw.3, ?_⟩
    refine ⟨_, rfl, v, d', rfl, hg, hf, hT, fun H1 x1 t1 => ?_⟩
    refine ⟨_, rfl, _, .bool _, rfl, .dp (.bl _), rfl, Nat.zero_le _, shw_bool _, ?_⟩
    refine ⟨_, rfl, v, d', rfl, hg.up x1.ext, hf, fun H2 s2 => ⟨_, .bool _, rfl, .dp (.bl _), rfl, Nat.zero_le _, shw_bool _, rfl, _, rfl, iteNSD rfl ?_⟩⟩
    have x2 := x1.trans (LM.Ex.of s2)
    refine ⟨_, rfl, v, d', rfl, an_ext x2.ext ha, hsw.1, hsw.2, hsw.3, _, rfl, rfl, ?_⟩
    rw [decide_eq_true rfl]
    exact q H2 x2 (t1.ext s2)

theorem ok_l_fixed_right {P : Program} {w : World} {K : PySem.W.Frag} {mg : Str → Option Value} {base : Heap} {a : Nat → Addr} {d : Nat → FuncData} (T : Txt K mg a d) (TB : Tb base mg a) : FnOk P w K mg base CX0 8 (a 45) (d 45) [] (spFixed67 K a) := by
  refine T.F_l_fixed_right.ok sc_l_fixed_right (fun vs H Q E h => ?_) (fun cdv A outer s0 H vs Q E hr h => ?_)
  · obtain ⟨rfl, hT, q⟩ := h
    rfl
  · obtain ⟨rfl, hT, q⟩ := h
    refine ⟨_, (pss_cons (ps_set (i := 0) sc_l_fixed_right.nd rfl (Or.inl rfl) (pe_tup (pa_cons pe_str (pa_cons pe_int (pa_cons pe_int (pa_cons pe_int (pa_cons (pe_tup (pa_cons pe_int (pa_cons pe_int (pa_cons pe_int pa_nil)))) (pa_cons (pe_lst pa_nil) (pa_cons (pe_lst (pa_cons (pe_tup (pa_cons pe_str (pa_cons (pe_tup (pa_cons pe_int (pa_cons pe_int (pa_cons pe_int pa_nil)))) pa_nil))) pa_nil)) pa_nil))))))))) (pss_cons (ps_set (i := 1) sc_l_fixed_right.nd rfl (Or.inl rfl) (pe_lst (pa_cons (pe_lst (pa_cons (pv 0) (pa_cons (pe_tup (pa_cons pe_str (pa_cons pe_int (pa_cons pe_int (pa_cons pe_str (pa_cons pe_non pa_nil)))))) pa_nil))) (pa_cons (pe_lst (pa_cons (pv 0) (pa_cons (pe_tup (pa_cons pe_str (pa_cons pe_int (pa_cons pe_int (pa_cons pe_str (pa_cons pe_non pa_nil)))))) pa_nil))) (pa_cons (pe_lst (pa_cons (pv 0) (pa_cons (pe_tup (pa_cons pe_str (pa_cons pe_int (pa_cons pe_int (pa_cons pe_str (pa_cons (pe_tup (pa_cons pe_int (pa_cons pe_int (pa_cons pe_int pa_nil)))) pa_nil)))))) pa_nil))) pa_nil))))) (pss_cons (ps_set (i := 2) sc_l_fixed_right.nd rfl (Or.inl rfl) (pe_lst (pa_cons (pe_tup (pa_cons pe_str (pa_cons pe_int (pa_cons pe_int pa_nil)))) (pa_cons (pe_tup (pa_cons pe_str (pa_cons pe_int (pa_cons pe_int pa_nil)))) pa_nil)))) (pss_cons (ps_set (i := 1) sc_l_fixed_right.nd rfl (Or.inl rfl) (pe_op op_cat (pv 1) (pe_lst (pa_cons (pe_op op_cat (pe_op op_cat (pe_lst (pa_cons (pv 0) pa_nil)) (pv 2)) (pe_lst (pa_cons (pe_tup (pa_cons pe_str (pa_cons pe_int (pa_cons pe_int (pa_cons pe_str (pa_cons (pe_tup (pa_cons pe_int (pa_cons pe_int pa_nil))) pa_nil)))))) pa_nil))) (pa_cons (pe_op op_cat (pe_op op_cat (pe_lst (pa_cons (pv 0) pa_nil)) (pe_revL (pv 2))) (pe_lst (pa_cons (pe_tup (pa_cons pe_str (pa_cons pe_int (pa_cons pe_int (pa_cons pe_str (pa_cons (pe_tup (pa_cons pe_int pa_nil)) pa_nil)))))) pa_nil))) pa_nil))))) (pss_cons (ps_expr (pe_bm PySem.F.plainAttrs_list PySem.F.slot_list_append PySem.F.type_list_append mt_append (pv 1) (pa_cons (pe_op op_cat (pe_op op_cat (pe_lst (pa_cons (pv 0) pa_nil)) (pv 2)) (pe_lst (pa_cons (pe_tup (pa_cons pe_str (pa_cons pe_int (pa_cons pe_int (pa_cons pe_str (pa_cons (pe_tup (pa_cons pe_int pa_nil)) pa_nil)))))) pa_nil))) pa_nil))) (pss_cons (ps_expr (pe_bm PySem.F.plainAttrs_list PySem.F.slot_list_append PySem.F.type_list_append mt_append (pv 1) (pa_cons (pe_lst (pa_cons (pe_tup (pa_cons pe_str (pa_cons (pe_un un_neg pe_int) (pa_cons (pe_un un_neg pe_int) (pa_cons (pe_un un_neg pe_int) (pa_cons (pe_tup (pa_cons (pe_un un_neg pe_int) (pa_cons pe_int (pa_cons pe_int pa_nil)))) (pa_cons (pe_lst pa_nil) (pa_cons (pe_lst (pa_cons (pe_tup (pa_cons pe_str (pa_cons (pe_tup (pa_cons pe_int pa_nil)) pa_nil))) pa_nil)) pa_nil)))))))) (pa_cons (pe_tup (pa_cons pe_str (pa_cons (pe_un un_neg pe_int) (pa_cons (pe_un un_neg pe_int) (pa_cons pe_str (pa_cons (pe_tup (pa_cons pe_int pa_nil)) pa_nil)))))) (pa_cons (pv 0) pa_nil)))) pa_nil))) (pss_one (ps_ret (pe_cmpR (op_eqD hr.units) (pe_lc (own := [("_law_one", 3)]) (g := gName 3) (te := (tCall (spOrd K a) [] E0 (tCons (tVar 3) tNil))) (by rfl) sc_l_fixed_right.nd (pi_list (pv 1)) (blkOk_by (own := [("_law_one", 3)]) (N := ["_law_deal", "_law_some", "_law_forms", "_law_one"]) (sc := defScope s_l_fixed_right) (by decide +kernel)) (fun _ _ _ _ _ => (pg_name (i := 3) sc_l_fixed_right.nd rfl (.inl rfl))) (fun _ _ _ _ _ => pts_nil) (fun _ _ _ _ _ => (pe_call (ok_is_ordered T TB) (hr.mono (by decide)) (by rfl) T.g_is_ordered T.F_is_ordered.kp T.b_is_ordered .nil pass0 (pa_cons (pv 3) pa_nil)))) (pe_lst (pa_cons pe_bl (pa_cons pe_bl (pa_cons pe_bl (pa_cons pe_bl (pa_cons pe_bl (pa_cons pe_bl (pa_cons pe_bl pa_nil)))))))) (nomark _)))))))))), ?_⟩
    generalize H = G0 at hT q ⊢
    refine ⟨(by decide : 3 ≤ sizeLine), fun u0 n0 => ?_⟩
    have e0 : Same G0 (upd G0 u0 (.tup [V.int (9), V.int (1), V.int (0)])) := same_new (Same.refl _) n0
    have h0 : (upd G0 u0 (.tup [V.int (9), V.int (1), V.int (0)])) u0 = some (.tup [V.int (9), V.int (1), V.int (0)]) := upd_same
    generalize (upd G0 u0 (.tup [V.int (9), V.int (1), V.int (0)])) = G1 at e0 h0 ⊢
    refine ⟨(by decide : 0 ≤ sizeLine), fun u1 n1 => ?_⟩
    have e1 : Same G1 (upd G1 u1 (.lst [])) := same_new (Same.refl _) n1
    have h1 : (upd G1 u1 (.lst [])) u1 = some (.lst []) := upd_same
    generalize (upd G1 u1 (.lst [])) = G2 at e1 h1 ⊢
    refine ⟨(by decide : 3 ≤ sizeLine), fun u2 n2 => ?_⟩
    have e2 : Same G2 (upd G2 u2 (.tup [V.int (1), V.int (2), V.int (3)])) := same_new (Same.refl _) n2
    have h2 : (upd G2 u2 (.tup [V.int (1), V.int (2), V.int (3)])) u2 = some (.tup [V.int (1), V.int (2), V.int (3)]) := upd_same
    generalize (upd G2 u2 (.tup [V.int (1), V.int (2), V.int (3)])) = G3 at e2 h2 ⊢
    refine ⟨(by decide : 2 ≤ sizeLine), fun u3 n3 => ?_⟩
    have e3 : Same G3 (upd G3 u3 (.tup [V.str "a", V.ref u2])) := same_new (Same.refl _) n3
    have h3 : (upd G3 u3 (.tup [V.str "a", V.ref u2])) u3 = some (.tup [V.str "a", V.ref u2]) := upd_same
    generalize (upd G3 u3 (.tup [V.str "a", V.ref u2])) = G4 at e3 h3 ⊢
    refine ⟨(by decide : 1 ≤ sizeLine), fun u4 n4 => ?_⟩
    have e4 : Same G4 (upd G4 u4 (.lst [V.ref u3])) := same_new (Same.refl _) n4
    have h4 : (upd G4 u4 (.lst [V.ref u3])) u4 = some (.lst [V.ref u3]) := upd_same
    generalize (upd G4 u4 (.lst [V.ref u3])) = G5 at e4 h4 ⊢
    refine ⟨(by decide : 7 ≤ sizeLine), fun u5 n5 => ?_⟩
    have e5 : Same G5 (upd G5 u5 (.tup [V.str "dealing", V.int (1), V.int (0), V.int (4), V.ref u0, V.ref u1, V.ref u4])) := same_new (Same.refl _) n5
    have h5 : (upd G5 u5 (.tup [V.str "dealing", V.int (1), V.int (0), V.int (4), V.ref u0, V.ref u1, V.ref u4])) u5 = some (.tup [V.str "dealing", V.int (1), V.int (0), V.int (4), V.ref u0, V.ref u1, V.ref u4]) := upd_same
    generalize (upd G5 u5 (.tup [V.str "dealing", V.int (1), V.int (0), V.int (4), V.ref u0, V.ref u1, V.ref u4])) = G6 at e5 h5 ⊢
    refine ⟨_, rfl, (by decide : 5 ≤ sizeLine), fun u6 n6 => ?_⟩
    have e6 : Same G6 (upd G6 u6 (.tup [V.str "now", V.int (4), V.int (8), V.str "a", V.non])) := same_new (Same.refl _) n6
    have h6 : (upd G6 u6 (.tup [V.str "now", V.int (4), V.int (8), V.str "a", V.non])) u6 = some (.tup [V.str "now", V.int (4), V.int (8), V.str "a", V.non]) := upd_same
    generalize (upd G6 u6 (.tup [V.str "now", V.int (4), V.int (8), V.str "a", V.non])) = G7 at e6 h6 ⊢
    refine ⟨(by decide : 2 ≤ sizeLine), fun u7 n7 => ?_⟩
    have e7 : Same G7 (upd G7 u7 (.lst [V.ref u5, V.ref u6])) := same_new (Same.refl _) n7
    have h7 : (upd G7 u7 (.lst [V.ref u5, V.ref u6])) u7 = some (.lst [V.ref u5, V.ref u6]) := upd_same
    generalize (upd G7 u7 (.lst [V.ref u5, V.ref u6])) = G8 at e7 h7 ⊢
    refine ⟨_, rfl, (by decide : 5 ≤ sizeLine), fun u8 n8 => ?_⟩
    have e8 : Same G8 (upd G8 u8 (.tup [V.str "now", V.int (3), V.int (8), V.str "a", V.non])) := same_new (Same.refl _) n8
    have h8 : (upd G8 u8 (.tup [V.str "now", V.int (3), V.int (8), V.str "a", V.non])) u8 = some (.tup [V.str "now", V.int (3), V.int (8), V.str "a", V.non]) := upd_same
    generalize (upd G8 u8 (.tup [V.str "now", V.int (3), V.int (8), V.str "a", V.non])) = G9 at e8 h8 ⊢
    refine ⟨(by decide : 2 ≤ sizeLine), fun u9 n9 => ?_⟩
    have e9 : Same G9 (upd G9 u9 (.lst [V.ref u5, V.ref u8])) := same_new (Same.refl _) n9
    have h9 : (upd G9 u9 (.lst [V.ref u5, V.ref u8])) u9 = some (.lst [V.ref u5, V.ref u8]) := upd_same
    generalize (upd G9 u9 (.lst [V.ref u5, V.ref u8])) = G10 at e9 h9 ⊢
    refine ⟨_, rfl, (by decide : 3 ≤ sizeLine), fun u10 n10 => ?_⟩
    have e10 : Same G10 (upd G10 u10 (.tup [V.int (1), V.int (2), V.int (3)])) := same_new (Same.refl _) n10
    have h10 : (upd G10 u10 (.tup [V.int (1), V.int (2), V.int (3)])) u10 = some (.tup [V.int (1), V.int (2), V.int (3)]) := upd_same
    generalize (upd G10 u10 (.tup [V.int (1), V.int (2), V.int (3)])) = G11 at e10 h10 ⊢
    refine ⟨(by decide : 5 ≤ sizeLine), fun u11 n11 => ?_⟩
    have e11 : Same G11 (upd G11 u11 (.tup [V.str "now", V.int (4), V.int (9), V.str "a", V.ref u10])) := same_new (Same.refl _) n11
    have h11 : (upd G11 u11 (.tup [V.str "now", V.int (4), V.int (9), V.str "a", V.ref u10])) u11 = some (.tup [V.str "now", V.int (4), V.int (9), V.str "a", V.ref u10]) := upd_same
    generalize (upd G11 u11 (.tup [V.str "now", V.int (4), V.int (9), V.str "a", V.ref u10])) = G12 at e11 h11 ⊢
    refine ⟨(by decide : 2 ≤ sizeLine), fun u12 n12 => ?_⟩
    have e12 : Same G12 (upd G12 u12 (.lst [V.ref u5, V.ref u11])) := same_new (Same.refl _) n12
    have h12 : (upd G12 u12 (.lst [V.ref u5, V.ref u11])) u12 = some (.lst [V.ref u5, V.ref u11]) := upd_same
    generalize (upd G12 u12 (.lst [V.ref u5, V.ref u11])) = G13 at e12 h12 ⊢
    refine ⟨(by decide : 3 ≤ sizeLine), fun u13 n13 => ?_⟩
    have e13 : Same G13 (upd G13 u13 (.lst [V.ref u7, V.ref u9, V.ref u12])) := same_new (Same.refl _) n13
    have h13 : (upd G13 u13 (.lst [V.ref u7, V.ref u9, V.ref u12])) u13 = some (.lst [V.ref u7, V.ref u9, V.ref u12]) := upd_same
    generalize (upd G13 u13 (.lst [V.ref u7, V.ref u9, V.ref u12])) = G14 at e13 h13 ⊢
    refine ⟨(by decide : 3 ≤ sizeLine), fun u14 n14 => ?_⟩
    have e14 : Same G14 (upd G14 u14 (.tup [V.str "form", V.int (9), V.int (1)])) := same_new (Same.refl _) n14
    have h14 : (upd G14 u14 (.tup [V.str "form", V.int (9), V.int (1)])) u14 = some (.tup [V.str "form", V.int (9), V.int (1)]) := upd_same
    generalize (upd G14 u14 (.tup [V.str "form", V.int (9), V.int (1)])) = G15 at e14 h14 ⊢
    refine ⟨(by decide : 3 ≤ sizeLine), fun u15 n15 => ?_⟩
    have e15 : Same G15 (upd G15 u15 (.tup [V.str "form", V.int (9), V.int (2)])) := same_new (Same.refl _) n15
    have h15 : (upd G15 u15 (.tup [V.str "form", V.int (9), V.int (2)])) u15 = some (.tup [V.str "form", V.int (9), V.int (2)]) := upd_same
    generalize (upd G15 u15 (.tup [V.str "form", V.int (9), V.int (2)])) = G16 at e15 h15 ⊢
    refine ⟨(by decide : 2 ≤ sizeLine), fun u16 n16 => ?_⟩
    have e16 : Same G16 (upd G16 u16 (.lst [V.ref u14, V.ref u15])) := same_new (Same.refl _) n16
    have h16 : (upd G16 u16 (.lst [V.ref u14, V.ref u15])) u16 = some (.lst [V.ref u14, V.ref u15]) := upd_same
    generalize (upd G16 u16 (.lst [V.ref u14, V.ref u15])) = G17 at e16 h16 ⊢
    refine ⟨_, rfl, _, rfl, (by decide : 1 ≤ sizeLine), fun u17 n17 => ?_⟩
    have e17 : Same G17 (upd G17 u17 (.lst [V.ref u5])) := same_new (Same.refl _) n17
    have h17 : (upd G17 u17 (.lst [V.ref u5])) u17 = some (.lst [V.ref u5]) := upd_same
    generalize (upd G17 u17 (.lst [V.ref u5])) = G18 at e17 h17 ⊢
    refine ⟨_, rfl, u17, u16, _, _, rfl, rfl, h17, ((e17) _ _ h16), (by decide : 1 + 2 ≤ sizeLine), fun u18 n18 => ?_⟩
    have e18 : Same G18 (upd G18 u18 (.lst ([V.ref u5] ++ [V.ref u14, V.ref u15]))) := same_new (Same.refl _) n18
    have h18 : (upd G18 u18 (.lst ([V.ref u5] ++ [V.ref u14, V.ref u15]))) u18 = some (.lst [V.ref u5, V.ref u14, V.ref u15]) := upd_same
    generalize (upd G18 u18 (.lst ([V.ref u5] ++ [V.ref u14, V.ref u15]))) = G19 at e18 h18 ⊢
    refine ⟨(by decide : 2 ≤ sizeLine), fun u19 n19 => ?_⟩
    have e19 : Same G19 (upd G19 u19 (.tup [V.int (1), V.int (2)])) := same_new (Same.refl _) n19
    have h19 : (upd G19 u19 (.tup [V.int (1), V.int (2)])) u19 = some (.tup [V.int (1), V.int (2)]) := upd_same
    generalize (upd G19 u19 (.tup [V.int (1), V.int (2)])) = G20 at e19 h19 ⊢
    refine ⟨(by decide : 5 ≤ sizeLine), fun u20 n20 => ?_⟩
    have e20 : Same G20 (upd G20 u20 (.tup [V.str "read", V.int (0), V.int (9), V.str "a", V.ref u19])) := same_new (Same.refl _) n20
    have h20 : (upd G20 u20 (.tup [V.str "read", V.int (0), V.int (9), V.str "a", V.ref u19])) u20 = some (.tup [V.str "read", V.int (0), V.int (9), V.str "a", V.ref u19]) := upd_same
    generalize (upd G20 u20 (.tup [V.str "read", V.int (0), V.int (9), V.str "a", V.ref u19])) = G21 at e20 h20 ⊢
    refine ⟨(by decide : 1 ≤ sizeLine), fun u21 n21 => ?_⟩
    have e21 : Same G21 (upd G21 u21 (.lst [V.ref u20])) := same_new (Same.refl _) n21
    have h21 : (upd G21 u21 (.lst [V.ref u20])) u21 = some (.lst [V.ref u20]) := upd_same
    generalize (upd G21 u21 (.lst [V.ref u20])) = G22 at e21 h21 ⊢
    refine ⟨u18, u21, _, _, rfl, rfl, ((e19.trans (e20.trans (e21))) _ _ h18), h21, (by decide : 3 + 1 ≤ sizeLine), fun u22 n22 => ?_⟩
    have e22 : Same G22 (upd G22 u22 (.lst ([V.ref u5, V.ref u14, V.ref u15] ++ [V.ref u20]))) := same_new (Same.refl _) n22
    have h22 : (upd G22 u22 (.lst ([V.ref u5, V.ref u14, V.ref u15] ++ [V.ref u20]))) u22 = some (.lst [V.ref u5, V.ref u14, V.ref u15, V.ref u20]) := upd_same
    generalize (upd G22 u22 (.lst ([V.ref u5, V.ref u14, V.ref u15] ++ [V.ref u20]))) = G23 at e22 h22 ⊢
    refine ⟨_, rfl, (by decide : 1 ≤ sizeLine), fun u23 n23 => ?_⟩
    have e23 : Same G23 (upd G23 u23 (.lst [V.ref u5])) := same_new (Same.refl _) n23
    have h23 : (upd G23 u23 (.lst [V.ref u5])) u23 = some (.lst [V.ref u5]) := upd_same
    generalize (upd G23 u23 (.lst [V.ref u5])) = G24 at e23 h23 ⊢
    refine ⟨_, rfl, u16, _, rfl, SqL.of ((e17.trans (e18.trans (e19.trans (e20.trans (e21.trans (e22.trans (e23))))))) _ _ h16), fun u24 n24 => ?_⟩
    have e24 : Same G24 (upd G24 u24 (.lst ([V.ref u14, V.ref u15].reverse))) := same_new (Same.refl _) n24
    have h24 : (upd G24 u24 (.lst ([V.ref u14, V.ref u15].reverse))) u24 = some (.lst [V.ref u15, V.ref u14]) := upd_same
    generalize (upd G24 u24 (.lst ([V.ref u14, V.ref u15].reverse))) = G25 at e24 h24 ⊢
    refine ⟨u23, u24, _, _, rfl, rfl, ((e24) _ _ h23), h24, (by decide : 1 + 2 ≤ sizeLine), fun u25 n25 => ?_⟩
    have e25 : Same G25 (upd G25 u25 (.lst ([V.ref u5] ++ [V.ref u15, V.ref u14]))) := same_new (Same.refl _) n25
    have h25 : (upd G25 u25 (.lst ([V.ref u5] ++ [V.ref u15, V.ref u14]))) u25 = some (.lst [V.ref u5, V.ref u15, V.ref u14]) := upd_same
    generalize (upd G25 u25 (.lst ([V.ref u5] ++ [V.ref u15, V.ref u14]))) = G26 at e25 h25 ⊢
    refine ⟨(by decide : 1 ≤ sizeLine), fun u26 n26 => ?_⟩
    have e26 : Same G26 (upd G26 u26 (.tup [V.int (1)])) := same_new (Same.refl _) n26
    have h26 : (upd G26 u26 (.tup [V.int (1)])) u26 = some (.tup [V.int (1)]) := upd_same
    generalize (upd G26 u26 (.tup [V.int (1)])) = G27 at e26 h26 ⊢
    refine ⟨(by decide : 5 ≤ sizeLine), fun u27 n27 => ?_⟩
    have e27 : Same G27 (upd G27 u27 (.tup [V.str "read", V.int (0), V.int (9), V.str "a", V.ref u26])) := same_new (Same.refl _) n27
    have h27 : (upd G27 u27 (.tup [V.str "read", V.int (0), V.int (9), V.str "a", V.ref u26])) u27 = some (.tup [V.str "read", V.int (0), V.int (9), V.str "a", V.ref u26]) := upd_same
    generalize (upd G27 u27 (.tup [V.str "read", V.int (0), V.int (9), V.str "a", V.ref u26])) = G28 at e27 h27 ⊢
    refine ⟨(by decide : 1 ≤ sizeLine), fun u28 n28 => ?_⟩
    have e28 : Same G28 (upd G28 u28 (.lst [V.ref u27])) := same_new (Same.refl _) n28
    have h28 : (upd G28 u28 (.lst [V.ref u27])) u28 = some (.lst [V.ref u27]) := upd_same
    generalize (upd G28 u28 (.lst [V.ref u27])) = G29 at e28 h28 ⊢
    refine ⟨u25, u28, _, _, rfl, rfl, ((e26.trans (e27.trans (e28))) _ _ h25), h28, (by decide : 3 + 1 ≤ sizeLine), fun u29 n29 => ?_⟩
    have e29 : Same G29 (upd G29 u29 (.lst ([V.ref u5, V.ref u15, V.ref u14] ++ [V.ref u27]))) := same_new (Same.refl _) n29
    have h29 : (upd G29 u29 (.lst ([V.ref u5, V.ref u15, V.ref u14] ++ [V.ref u27]))) u29 = some (.lst [V.ref u5, V.ref u15, V.ref u14, V.ref u27]) := upd_same
    generalize (upd G29 u29 (.lst ([V.ref u5, V.ref u15, V.ref u14] ++ [V.ref u27]))) = G30 at e29 h29 ⊢
    refine ⟨(by decide : 2 ≤ sizeLine), fun u30 n30 => ?_⟩
    have e30 : Same G30 (upd G30 u30 (.lst [V.ref u22, V.ref u29])) := same_new (Same.refl _) n30
    have h30 : (upd G30 u30 (.lst [V.ref u22, V.ref u29])) u30 = some (.lst [V.ref u22, V.ref u29]) := upd_same
    generalize (upd G30 u30 (.lst [V.ref u22, V.ref u29])) = G31 at e30 h30 ⊢
    refine ⟨u13, u30, _, _, rfl, rfl, ((e14.trans (e15.trans (e16.trans (e17.trans (e18.trans (e19.trans (e20.trans (e21.trans (e22.trans (e23.trans (e24.trans (e25.trans (e26.trans (e27.trans (e28.trans (e29.trans (e30))))))))))))))))) _ _ h13), h30, (by decide : 3 + 2 ≤ sizeLine), fun u31 n31 => ?_⟩
    have e31 : Same G31 (upd G31 u31 (.lst ([V.ref u7, V.ref u9, V.ref u12] ++ [V.ref u22, V.ref u29]))) := same_new (Same.refl _) n31
    have h31 : (upd G31 u31 (.lst ([V.ref u7, V.ref u9, V.ref u12] ++ [V.ref u22, V.ref u29]))) u31 = some (.lst [V.ref u7, V.ref u9, V.ref u12, V.ref u22, V.ref u29]) := upd_same
    generalize (upd G31 u31 (.lst ([V.ref u7, V.ref u9, V.ref u12] ++ [V.ref u22, V.ref u29]))) = G32 at e31 h31 ⊢
    have w0 : u0 ≠ u31 := ne_of_none ((e1.trans (e2.trans (e3.trans (e4.trans (e5.trans (e6.trans (e7.trans (e8.trans (e9.trans (e10.trans (e11.trans (e12.trans (e13.trans (e14.trans (e15.trans (e16.trans (e17.trans (e18.trans (e19.trans (e20.trans (e21.trans (e22.trans (e23.trans (e24.trans (e25.trans (e26.trans (e27.trans (e28.trans (e29.trans (e30)))))))))))))))))))))))))))))) _ _ h0) n31
    have w1 : u1 ≠ u31 := ne_of_none ((e2.trans (e3.trans (e4.trans (e5.trans (e6.trans (e7.trans (e8.trans (e9.trans (e10.trans (e11.trans (e12.trans (e13.trans (e14.trans (e15.trans (e16.trans (e17.trans (e18.trans (e19.trans (e20.trans (e21.trans (e22.trans (e23.trans (e24.trans (e25.trans (e26.trans (e27.trans (e28.trans (e29.trans (e30))))))))))))))))))))))))))))) _ _ h1) n31
    have w2 : u2 ≠ u31 := ne_of_none ((e3.trans (e4.trans (e5.trans (e6.trans (e7.trans (e8.trans (e9.trans (e10.trans (e11.trans (e12.trans (e13.trans (e14.trans (e15.trans (e16.trans (e17.trans (e18.trans (e19.trans (e20.trans (e21.trans (e22.trans (e23.trans (e24.trans (e25.trans (e26.trans (e27.trans (e28.trans (e29.trans (e30)))))))))))))))))))))))))))) _ _ h2) n31
    have w3 : u3 ≠ u31 := ne_of_none ((e4.trans (e5.trans (e6.trans (e7.trans (e8.trans (e9.trans (e10.trans (e11.trans (e12.trans (e13.trans (e14.trans (e15.trans (e16.trans (e17.trans (e18.trans (e19.trans (e20.trans (e21.trans (e22.trans (e23.trans (e24.trans (e25.trans (e26.trans (e27.trans (e28.trans (e29.trans (e30))))))))))))))))))))))))))) _ _ h3) n31
    have w4 : u4 ≠ u31 := ne_of_none ((e5.trans (e6.trans (e7.trans (e8.trans (e9.trans (e10.trans (e11.trans (e12.trans (e13.trans (e14.trans (e15.trans (e16.trans (e17.trans (e18.trans (e19.trans (e20.trans (e21.trans (e22.trans (e23.trans (e24.trans (e25.trans (e26.trans (e27.trans (e28.trans (e29.trans (e30)))))))))))))))))))))))))) _ _ h4) n31
    have w5 : u5 ≠ u31 := ne_of_none ((e6.trans (e7.trans (e8.trans (e9.trans (e10.trans (e11.trans (e12.trans (e13.trans (e14.trans (e15.trans (e16.trans (e17.trans (e18.trans (e19.trans (e20.trans (e21.trans (e22.trans (e23.trans (e24.trans (e25.trans (e26.trans (e27.trans (e28.trans (e29.trans (e30))))))))))))))))))))))))) _ _ h5) n31
    have w6 : u6 ≠ u31 := ne_of_none ((e7.trans (e8.trans (e9.trans (e10.trans (e11.trans (e12.trans (e13.trans (e14.trans (e15.trans (e16.trans (e17.trans (e18.trans (e19.trans (e20.trans (e21.trans (e22.trans (e23.trans (e24.trans (e25.trans (e26.trans (e27.trans (e28.trans (e29.trans (e30)))))))))))))))))))))))) _ _ h6) n31
    have w7 : u7 ≠ u31 := ne_of_none ((e8.trans (e9.trans (e10.trans (e11.trans (e12.trans (e13.trans (e14.trans (e15.trans (e16.trans (e17.trans (e18.trans (e19.trans (e20.trans (e21.trans (e22.trans (e23.trans (e24.trans (e25.trans (e26.trans (e27.trans (e28.trans (e29.trans (e30))))))))))))))))))))))) _ _ h7) n31
    have w8 : u8 ≠ u31 := ne_of_none ((e9.trans (e10.trans (e11.trans (e12.trans (e13.trans (e14.trans (e15.trans (e16.trans (e17.trans (e18.trans (e19.trans (e20.trans (e21.trans (e22.trans (e23.trans (e24.trans (e25.trans (e26.trans (e27.trans (e28.trans (e29.trans (e30)))))))))))))))))))))) _ _ h8) n31
    have w9 : u9 ≠ u31 := ne_of_none ((e10.trans (e11.trans (e12.trans (e13.trans (e14.trans (e15.trans (e16.trans (e17.trans (e18.trans (e19.trans (e20.trans (e21.trans (e22.trans (e23.trans (e24.trans (e25.trans (e26.trans (e27.trans (e28.trans (e29.trans (e30))))))))))))))))))))) _ _ h9) n31
    have w10 : u10 ≠ u31 := ne_of_none ((e11.trans (e12.trans (e13.trans (e14.trans (e15.trans (e16.trans (e17.trans (e18.trans (e19.trans (e20.trans (e21.trans (e22.trans (e23.trans (e24.trans (e25.trans (e26.trans (e27.trans (e28.trans (e29.trans (e30)))))))))))))))))))) _ _ h10) n31
    have w11 : u11 ≠ u31 := ne_of_none ((e12.trans (e13.trans (e14.trans (e15.trans (e16.trans (e17.trans (e18.trans (e19.trans (e20.trans (e21.trans (e22.trans (e23.trans (e24.trans (e25.trans (e26.trans (e27.trans (e28.trans (e29.trans (e30))))))))))))))))))) _ _ h11) n31
    have w12 : u12 ≠ u31 := ne_of_none ((e13.trans (e14.trans (e15.trans (e16.trans (e17.trans (e18.trans (e19.trans (e20.trans (e21.trans (e22.trans (e23.trans (e24.trans (e25.trans (e26.trans (e27.trans (e28.trans (e29.trans (e30)))))))))))))))))) _ _ h12) n31
    have w13 : u13 ≠ u31 := ne_of_none ((e14.trans (e15.trans (e16.trans (e17.trans (e18.trans (e19.trans (e20.trans (e21.trans (e22.trans (e23.trans (e24.trans (e25.trans (e26.trans (e27.trans (e28.trans (e29.trans (e30))))))))))))))))) _ _ h13) n31
    have w14 : u14 ≠ u31 := ne_of_none ((e15.trans (e16.trans (e17.trans (e18.trans (e19.trans (e20.trans (e21.trans (e22.trans (e23.trans (e24.trans (e25.trans (e26.trans (e27.trans (e28.trans (e29.trans (e30)))))))))))))))) _ _ h14) n31
    have w15 : u15 ≠ u31 := ne_of_none ((e16.trans (e17.trans (e18.trans (e19.trans (e20.trans (e21.trans (e22.trans (e23.trans (e24.trans (e25.trans (e26.trans (e27.trans (e28.trans (e29.trans (e30))))))))))))))) _ _ h15) n31
    have w16 : u16 ≠ u31 := ne_of_none ((e17.trans (e18.trans (e19.trans (e20.trans (e21.trans (e22.trans (e23.trans (e24.trans (e25.trans (e26.trans (e27.trans (e28.trans (e29.trans (e30)))))))))))))) _ _ h16) n31
    have w17 : u17 ≠ u31 := ne_of_none ((e18.trans (e19.trans (e20.trans (e21.trans (e22.trans (e23.trans (e24.trans (e25.trans (e26.trans (e27.trans (e28.trans (e29.trans (e30))))))))))))) _ _ h17) n31
    have w18 : u18 ≠ u31 := ne_of_none ((e19.trans (e20.trans (e21.trans (e22.trans (e23.trans (e24.trans (e25.trans (e26.trans (e27.trans (e28.trans (e29.trans (e30)))))))))))) _ _ h18) n31
    have w19 : u19 ≠ u31 := ne_of_none ((e20.trans (e21.trans (e22.trans (e23.trans (e24.trans (e25.trans (e26.trans (e27.trans (e28.trans (e29.trans (e30))))))))))) _ _ h19) n31
    have w20 : u20 ≠ u31 := ne_of_none ((e21.trans (e22.trans (e23.trans (e24.trans (e25.trans (e26.trans (e27.trans (e28.trans (e29.trans (e30)))))))))) _ _ h20) n31
    have w21 : u21 ≠ u31 := ne_of_none ((e22.trans (e23.trans (e24.trans (e25.trans (e26.trans (e27.trans (e28.trans (e29.trans (e30))))))))) _ _ h21) n31
    have w22 : u22 ≠ u31 := ne_of_none ((e23.trans (e24.trans (e25.trans (e26.trans (e27.trans (e28.trans (e29.trans (e30)))))))) _ _ h22) n31
    have w23 : u23 ≠ u31 := ne_of_none ((e24.trans (e25.trans (e26.trans (e27.trans (e28.trans (e29.trans (e30))))))) _ _ h23) n31
    have w24 : u24 ≠ u31 := ne_of_none ((e25.trans (e26.trans (e27.trans (e28.trans (e29.trans (e30)))))) _ _ h24) n31
    have w25 : u25 ≠ u31 := ne_of_none ((e26.trans (e27.trans (e28.trans (e29.trans (e30))))) _ _ h25) n31
    have w26 : u26 ≠ u31 := ne_of_none ((e27.trans (e28.trans (e29.trans (e30)))) _ _ h26) n31
    have w27 : u27 ≠ u31 := ne_of_none ((e28.trans (e29.trans (e30))) _ _ h27) n31
    have w28 : u28 ≠ u31 := ne_of_none ((e29.trans (e30)) _ _ h28) n31
    have w29 : u29 ≠ u31 := ne_of_none ((e30) _ _ h29) n31
    have w30 : u30 ≠ u31 := ne_of_none h30 n31
    have frq : Fr G0 u31 := Fr.of (LamX.ExtN.of (e0.trans (e1.trans (e2.trans (e3.trans (e4.trans (e5.trans (e6.trans (e7.trans (e8.trans (e9.trans (e10.trans (e11.trans (e12.trans (e13.trans (e14.trans (e15.trans (e16.trans (e17.trans (e18.trans (e19.trans (e20.trans (e21.trans (e22.trans (e23.trans (e24.trans (e25.trans (e26.trans (e27.trans (e28.trans (e29.trans (e30)))))))))))))))))))))))))))))))) n31
    have X0 : LM.Ex (TT a) G0 G32 := LM.Ex.of (e0.trans (e1.trans (e2.trans (e3.trans (e4.trans (e5.trans (e6.trans (e7.trans (e8.trans (e9.trans (e10.trans (e11.trans (e12.trans (e13.trans (e14.trans (e15.trans (e16.trans (e17.trans (e18.trans (e19.trans (e20.trans (e21.trans (e22.trans (e23.trans (e24.trans (e25.trans (e26.trans (e27.trans (e28.trans (e29.trans (e30.trans (e31))))))))))))))))))))))))))))))))
    have m0 : mk [u31] G32 u0 = some (.tup [V.int (9), V.int (1), V.int (0)]) := mk_has ((e1.trans (e2.trans (e3.trans (e4.trans (e5.trans (e6.trans (e7.trans (e8.trans (e9.trans (e10.trans (e11.trans (e12.trans (e13.trans (e14.trans (e15.trans (e16.trans (e17.trans (e18.trans (e19.trans (e20.trans (e21.trans (e22.trans (e23.trans (e24.trans (e25.trans (e26.trans (e27.trans (e28.trans (e29.trans (e30.trans (e31))))))))))))))))))))))))))))))) _ _ h0) (not_one w0)
    have m1 : mk [u31] G32 u1 = some (.lst []) := mk_has ((e2.trans (e3.trans (e4.trans (e5.trans (e6.trans (e7.trans (e8.trans (e9.trans (e10.trans (e11.trans (e12.trans (e13.trans (e14.trans (e15.trans (e16.trans (e17.trans (e18.trans (e19.trans (e20.trans (e21.trans (e22.trans (e23.trans (e24.trans (e25.trans (e26.trans (e27.trans (e28.trans (e29.trans (e30.trans (e31)))))))))))))))))))))))))))))) _ _ h1) (not_one w1)
    have m2 : mk [u31] G32 u2 = some (.tup [V.int (1), V.int (2), V.int (3)]) := mk_has ((e3.trans (e4.trans (e5.trans (e6.trans (e7.trans (e8.trans (e9.trans (e10.trans (e11.trans (e12.trans (e13.trans (e14.trans (e15.trans (e16.trans (e17.trans (e18.trans (e19.trans (e20.trans (e21.trans (e22.trans (e23.trans (e24.trans (e25.trans (e26.trans (e27.trans (e28.trans (e29.trans (e30.trans (e31))))))))))))))))))))))))))))) _ _ h2) (not_one w2)
    have m3 : mk [u31] G32 u3 = some (.tup [V.str "a", V.ref u2]) := mk_has ((e4.trans (e5.trans (e6.trans (e7.trans (e8.trans (e9.trans (e10.trans (e11.trans (e12.trans (e13.trans (e14.trans (e15.trans (e16.trans (e17.trans (e18.trans (e19.trans (e20.trans (e21.trans (e22.trans (e23.trans (e24.trans (e25.trans (e26.trans (e27.trans (e28.trans (e29.trans (e30.trans (e31)))))))))))))))))))))))))))) _ _ h3) (not_one w3)
    have m4 : mk [u31] G32 u4 = some (.lst [V.ref u3]) := mk_has ((e5.trans (e6.trans (e7.trans (e8.trans (e9.trans (e10.trans (e11.trans (e12.trans (e13.trans (e14.trans (e15.trans (e16.trans (e17.trans (e18.trans (e19.trans (e20.trans (e21.trans (e22.trans (e23.trans (e24.trans (e25.trans (e26.trans (e27.trans (e28.trans (e29.trans (e30.trans (e31))))))))))))))))))))))))))) _ _ h4) (not_one w4)
    have m5 : mk [u31] G32 u5 = some (.tup [V.str "dealing", V.int (1), V.int (0), V.int (4), V.ref u0, V.ref u1, V.ref u4]) := mk_has ((e6.trans (e7.trans (e8.trans (e9.trans (e10.trans (e11.trans (e12.trans (e13.trans (e14.trans (e15.trans (e16.trans (e17.trans (e18.trans (e19.trans (e20.trans (e21.trans (e22.trans (e23.trans (e24.trans (e25.trans (e26.trans (e27.trans (e28.trans (e29.trans (e30.trans (e31)))))))))))))))))))))))))) _ _ h5) (not_one w5)
    have m6 : mk [u31] G32 u6 = some (.tup [V.str "now", V.int (4), V.int (8), V.str "a", V.non]) := mk_has ((e7.trans (e8.trans (e9.trans (e10.trans (e11.trans (e12.trans (e13.trans (e14.trans (e15.trans (e16.trans (e17.trans (e18.trans (e19.trans (e20.trans (e21.trans (e22.trans (e23.trans (e24.trans (e25.trans (e26.trans (e27.trans (e28.trans (e29.trans (e30.trans (e31))))))))))))))))))))))))) _ _ h6) (not_one w6)
    have m7 : mk [u31] G32 u7 = some (.lst [V.ref u5, V.ref u6]) := mk_has ((e8.trans (e9.trans (e10.trans (e11.trans (e12.trans (e13.trans (e14.trans (e15.trans (e16.trans (e17.trans (e18.trans (e19.trans (e20.trans (e21.trans (e22.trans (e23.trans (e24.trans (e25.trans (e26.trans (e27.trans (e28.trans (e29.trans (e30.trans (e31)))))))))))))))))))))))) _ _ h7) (not_one w7)
    have m8 : mk [u31] G32 u8 = some (.tup [V.str "now", V.int (3), V.int (8), V.str "a", V.non]) := mk_has ((e9.trans (e10.trans (e11.trans (e12.trans (e13.trans (e14.trans (e15.trans (e16.trans (e17.trans (e18.trans (e19.trans (e20.trans (e21.trans (e22.trans (e23.trans (e24.trans (e25.trans (e26.trans (e27.trans (e28.trans (e29.trans (e30.trans (e31))))))))))))))))))))))) _ _ h8) (not_one w8)
    have m9 : mk [u31] G32 u9 = some (.lst [V.ref u5, V.ref u8]) := mk_has ((e10.trans (e11.trans (e12.trans (e13.trans (e14.trans (e15.trans (e16.trans (e17.trans (e18.trans (e19.trans (e20.trans (e21.trans (e22.trans (e23.trans (e24.trans (e25.trans (e26.trans (e27.trans (e28.trans (e29.trans (e30.trans (e31)))))))))))))))))))))) _ _ h9) (not_one w9)
    have m10 : mk [u31] G32 u10 = some (.tup [V.int (1), V.int (2), V.int (3)]) := mk_has ((e11.trans (e12.trans (e13.trans (e14.trans (e15.trans (e16.trans (e17.trans (e18.trans (e19.trans (e20.trans (e21.trans (e22.trans (e23.trans (e24.trans (e25.trans (e26.trans (e27.trans (e28.trans (e29.trans (e30.trans (e31))))))))))))))))))))) _ _ h10) (not_one w10)
    have m11 : mk [u31] G32 u11 = some (.tup [V.str "now", V.int (4), V.int (9), V.str "a", V.ref u10]) := mk_has ((e12.trans (e13.trans (e14.trans (e15.trans (e16.trans (e17.trans (e18.trans (e19.trans (e20.trans (e21.trans (e22.trans (e23.trans (e24.trans (e25.trans (e26.trans (e27.trans (e28.trans (e29.trans (e30.trans (e31)))))))))))))))))))) _ _ h11) (not_one w11)
    have m12 : mk [u31] G32 u12 = some (.lst [V.ref u5, V.ref u11]) := mk_has ((e13.trans (e14.trans (e15.trans (e16.trans (e17.trans (e18.trans (e19.trans (e20.trans (e21.trans (e22.trans (e23.trans (e24.trans (e25.trans (e26.trans (e27.trans (e28.trans (e29.trans (e30.trans (e31))))))))))))))))))) _ _ h12) (not_one w12)
    have m13 : mk [u31] G32 u13 = some (.lst [V.ref u7, V.ref u9, V.ref u12]) := mk_has ((e14.trans (e15.trans (e16.trans (e17.trans (e18.trans (e19.trans (e20.trans (e21.trans (e22.trans (e23.trans (e24.trans (e25.trans (e26.trans (e27.trans (e28.trans (e29.trans (e30.trans (e31)))))))))))))))))) _ _ h13) (not_one w13)
    have m14 : mk [u31] G32 u14 = some (.tup [V.str "form", V.int (9), V.int (1)]) := mk_has ((e15.trans (e16.trans (e17.trans (e18.trans (e19.trans (e20.trans (e21.trans (e22.trans (e23.trans (e24.trans (e25.trans (e26.trans (e27.trans (e28.trans (e29.trans (e30.trans (e31))))))))))))))))) _ _ h14) (not_one w14)
    have m15 : mk [u31] G32 u15 = some (.tup [V.str "form", V.int (9), V.int (2)]) := mk_has ((e16.trans (e17.trans (e18.trans (e19.trans (e20.trans (e21.trans (e22.trans (e23.trans (e24.trans (e25.trans (e26.trans (e27.trans (e28.trans (e29.trans (e30.trans (e31)))))))))))))))) _ _ h15) (not_one w15)
    have m16 : mk [u31] G32 u16 = some (.lst [V.ref u14, V.ref u15]) := mk_has ((e17.trans (e18.trans (e19.trans (e20.trans (e21.trans (e22.trans (e23.trans (e24.trans (e25.trans (e26.trans (e27.trans (e28.trans (e29.trans (e30.trans (e31))))))))))))))) _ _ h16) (not_one w16)
    have m17 : mk [u31] G32 u17 = some (.lst [V.ref u5]) := mk_has ((e18.trans (e19.trans (e20.trans (e21.trans (e22.trans (e23.trans (e24.trans (e25.trans (e26.trans (e27.trans (e28.trans (e29.trans (e30.trans (e31)))))))))))))) _ _ h17) (not_one w17)
    have m18 : mk [u31] G32 u18 = some (.lst [V.ref u5, V.ref u14, V.ref u15]) := mk_has ((e19.trans (e20.trans (e21.trans (e22.trans (e23.trans (e24.trans (e25.trans (e26.trans (e27.trans (e28.trans (e29.trans (e30.trans (e31))))))))))))) _ _ h18) (not_one w18)
    have m19 : mk [u31] G32 u19 = some (.tup [V.int (1), V.int (2)]) := mk_has ((e20.trans (e21.trans (e22.trans (e23.trans (e24.trans (e25.trans (e26.trans (e27.trans (e28.trans (e29.trans (e30.trans (e31)))))))))))) _ _ h19) (not_one w19)
    have m20 : mk [u31] G32 u20 = some (.tup [V.str "read", V.int (0), V.int (9), V.str "a", V.ref u19]) := mk_has ((e21.trans (e22.trans (e23.trans (e24.trans (e25.trans (e26.trans (e27.trans (e28.trans (e29.trans (e30.trans (e31))))))))))) _ _ h20) (not_one w20)
    have m21 : mk [u31] G32 u21 = some (.lst [V.ref u20]) := mk_has ((e22.trans (e23.trans (e24.trans (e25.trans (e26.trans (e27.trans (e28.trans (e29.trans (e30.trans (e31)))))))))) _ _ h21) (not_one w21)
    have m22 : mk [u31] G32 u22 = some (.lst [V.ref u5, V.ref u14, V.ref u15, V.ref u20]) := mk_has ((e23.trans (e24.trans (e25.trans (e26.trans (e27.trans (e28.trans (e29.trans (e30.trans (e31))))))))) _ _ h22) (not_one w22)
    have m23 : mk [u31] G32 u23 = some (.lst [V.ref u5]) := mk_has ((e24.trans (e25.trans (e26.trans (e27.trans (e28.trans (e29.trans (e30.trans (e31)))))))) _ _ h23) (not_one w23)
    have m24 : mk [u31] G32 u24 = some (.lst [V.ref u15, V.ref u14]) := mk_has ((e25.trans (e26.trans (e27.trans (e28.trans (e29.trans (e30.trans (e31))))))) _ _ h24) (not_one w24)
    have m25 : mk [u31] G32 u25 = some (.lst [V.ref u5, V.ref u15, V.ref u14]) := mk_has ((e26.trans (e27.trans (e28.trans (e29.trans (e30.trans (e31)))))) _ _ h25) (not_one w25)
    have m26 : mk [u31] G32 u26 = some (.tup [V.int (1)]) := mk_has ((e27.trans (e28.trans (e29.trans (e30.trans (e31))))) _ _ h26) (not_one w26)
    have m27 : mk [u31] G32 u27 = some (.tup [V.str "read", V.int (0), V.int (9), V.str "a", V.ref u26]) := mk_has ((e28.trans (e29.trans (e30.trans (e31)))) _ _ h27) (not_one w27)
    have m28 : mk [u31] G32 u28 = some (.lst [V.ref u27]) := mk_has ((e29.trans (e30.trans (e31))) _ _ h28) (not_one w28)
    have m29 : mk [u31] G32 u29 = some (.lst [V.ref u5, V.ref u15, V.ref u14, V.ref u27]) := mk_has ((e30.trans (e31)) _ _ h29) (not_one w29)
    have m30 : mk [u31] G32 u30 = some (.lst [V.ref u22, V.ref u29]) := mk_has ((e31) _ _ h30) (not_one w30)
    refine ⟨_, rfl, .inl ⟨rfl, _, SqL.of h31⟩, _, rfl, (by decide : 1 ≤ sizeLine), fun u32 n32 => ?_⟩
    have e32 : Same G32 (upd G32 u32 (.lst [V.ref u5])) := same_new (Same.refl _) n32
    have h32 : (upd G32 u32 (.lst [V.ref u5])) u32 = some (.lst [V.ref u5]) := upd_same
    generalize (upd G32 u32 (.lst [V.ref u5])) = G33 at e32 h32 ⊢
    refine ⟨_, rfl, u32, u16, _, _, rfl, rfl, h32, ((e17.trans (e18.trans (e19.trans (e20.trans (e21.trans (e22.trans (e23.trans (e24.trans (e25.trans (e26.trans (e27.trans (e28.trans (e29.trans (e30.trans (e31.trans (e32)))))))))))))))) _ _ h16), (by decide : 1 + 2 ≤ sizeLine), fun u33 n33 => ?_⟩
    have e33 : Same G33 (upd G33 u33 (.lst ([V.ref u5] ++ [V.ref u14, V.ref u15]))) := same_new (Same.refl _) n33
    have h33 : (upd G33 u33 (.lst ([V.ref u5] ++ [V.ref u14, V.ref u15]))) u33 = some (.lst [V.ref u5, V.ref u14, V.ref u15]) := upd_same
    generalize (upd G33 u33 (.lst ([V.ref u5] ++ [V.ref u14, V.ref u15]))) = G34 at e33 h33 ⊢
    refine ⟨(by decide : 1 ≤ sizeLine), fun u34 n34 => ?_⟩
    have e34 : Same G34 (upd G34 u34 (.tup [V.int (1)])) := same_new (Same.refl _) n34
    have h34 : (upd G34 u34 (.tup [V.int (1)])) u34 = some (.tup [V.int (1)]) := upd_same
    generalize (upd G34 u34 (.tup [V.int (1)])) = G35 at e34 h34 ⊢
    refine ⟨(by decide : 5 ≤ sizeLine), fun u35 n35 => ?_⟩
    have e35 : Same G35 (upd G35 u35 (.tup [V.str "read", V.int (0), V.int (9), V.str "a", V.ref u34])) := same_new (Same.refl _) n35
    have h35 : (upd G35 u35 (.tup [V.str "read", V.int (0), V.int (9), V.str "a", V.ref u34])) u35 = some (.tup [V.str "read", V.int (0), V.int (9), V.str "a", V.ref u34]) := upd_same
    generalize (upd G35 u35 (.tup [V.str "read", V.int (0), V.int (9), V.str "a", V.ref u34])) = G36 at e35 h35 ⊢
    refine ⟨(by decide : 1 ≤ sizeLine), fun u36 n36 => ?_⟩
    have e36 : Same G36 (upd G36 u36 (.lst [V.ref u35])) := same_new (Same.refl _) n36
    have h36 : (upd G36 u36 (.lst [V.ref u35])) u36 = some (.lst [V.ref u35]) := upd_same
    generalize (upd G36 u36 (.lst [V.ref u35])) = G37 at e36 h36 ⊢
    refine ⟨u33, u36, _, _, rfl, rfl, ((e34.trans (e35.trans (e36))) _ _ h33), h36, (by decide : 3 + 1 ≤ sizeLine), fun u37 n37 => ?_⟩
    have e37 : Same G37 (upd G37 u37 (.lst ([V.ref u5, V.ref u14, V.ref u15] ++ [V.ref u35]))) := same_new (Same.refl _) n37
    have h37 : (upd G37 u37 (.lst ([V.ref u5, V.ref u14, V.ref u15] ++ [V.ref u35]))) u37 = some (.lst [V.ref u5, V.ref u14, V.ref u15, V.ref u35]) := upd_same
    generalize (upd G37 u37 (.lst ([V.ref u5, V.ref u14, V.ref u15] ++ [V.ref u35]))) = G38 at e37 h37 ⊢
    have w32 : u32 ≠ u31 := (ne_of_none h31 n32).symm
    have m32 : mk [u31] G38 u32 = some (.lst [V.ref u5]) := mk_has ((e33.trans (e34.trans (e35.trans (e36.trans (e37))))) _ _ h32) (not_one w32)
    have w33 : u33 ≠ u31 := (ne_of_none ((e32) _ _ h31) n33).symm
    have m33 : mk [u31] G38 u33 = some (.lst [V.ref u5, V.ref u14, V.ref u15]) := mk_has ((e34.trans (e35.trans (e36.trans (e37)))) _ _ h33) (not_one w33)
    have w34 : u34 ≠ u31 := (ne_of_none ((e32.trans (e33)) _ _ h31) n34).symm
    have m34 : mk [u31] G38 u34 = some (.tup [V.int (1)]) := mk_has ((e35.trans (e36.trans (e37))) _ _ h34) (not_one w34)
    have w35 : u35 ≠ u31 := (ne_of_none ((e32.trans (e33.trans (e34))) _ _ h31) n35).symm
    have m35 : mk [u31] G38 u35 = some (.tup [V.str "read", V.int (0), V.int (9), V.str "a", V.ref u34]) := mk_has ((e36.trans (e37)) _ _ h35) (not_one w35)
    have w36 : u36 ≠ u31 := (ne_of_none ((e32.trans (e33.trans (e34.trans (e35)))) _ _ h31) n36).symm
    have m36 : mk [u31] G38 u36 = some (.lst [V.ref u35]) := mk_has ((e37) _ _ h36) (not_one w36)
    have w37 : u37 ≠ u31 := (ne_of_none ((e32.trans (e33.trans (e34.trans (e35.trans (e36))))) _ _ h31) n37).symm
    have m37 : mk [u31] G38 u37 = some (.lst [V.ref u5, V.ref u14, V.ref u15, V.ref u35]) := mk_has h37 (not_one w37)
    refine ⟨u31, _, _, rfl, rfl, ((e32.trans (e33.trans (e34.trans (e35.trans (e36.trans (e37)))))) _ _ h31), (by decide : 5 < sizeLine), ?_⟩
    have xs1 : LamX.ExtN (mk [u31] G38) (mk [u31] (upd G38 u31 (.lst ([V.ref u7, V.ref u9, V.ref u12, V.ref u22, V.ref u29] ++ [V.ref u37])))) := xpu (.head _)
    have X1 : LM.Ex (TT a) G0 (upd G38 u31 (.lst ([V.ref u7, V.ref u9, V.ref u12, V.ref u22, V.ref u29] ++ [V.ref u37]))) := ex_put (X0.trans (LM.Ex.of (e32.trans (e33.trans (e34.trans (e35.trans (e36.trans (e37)))))))) frq ((e32.trans (e33.trans (e34.trans (e35.trans (e36.trans (e37)))))) _ _ h31)
    have hn1 : (upd G38 u31 (.lst ([V.ref u7, V.ref u9, V.ref u12, V.ref u22, V.ref u29] ++ [V.ref u37]))) u31 = some (.lst [V.ref u7, V.ref u9, V.ref u12, V.ref u22, V.ref u29, V.ref u37]) := upd_same
    generalize (upd G38 u31 (.lst ([V.ref u7, V.ref u9, V.ref u12, V.ref u22, V.ref u29] ++ [V.ref u37]))) = G39 at xs1 X1 hn1 ⊢
    have m0 := ((xsm (e32.trans (e33.trans (e34.trans (e35.trans (e36.trans (e37))))))).trans xs1) _ _ m0 (fun _ z => by cases z)
    have m1 := ((xsm (e32.trans (e33.trans (e34.trans (e35.trans (e36.trans (e37))))))).trans xs1) _ _ m1 (fun _ z => by cases z)
    have m2 := ((xsm (e32.trans (e33.trans (e34.trans (e35.trans (e36.trans (e37))))))).trans xs1) _ _ m2 (fun _ z => by cases z)
    have m3 := ((xsm (e32.trans (e33.trans (e34.trans (e35.trans (e36.trans (e37))))))).trans xs1) _ _ m3 (fun _ z => by cases z)
    have m4 := ((xsm (e32.trans (e33.trans (e34.trans (e35.trans (e36.trans (e37))))))).trans xs1) _ _ m4 (fun _ z => by cases z)
    have m5 := ((xsm (e32.trans (e33.trans (e34.trans (e35.trans (e36.trans (e37))))))).trans xs1) _ _ m5 (fun _ z => by cases z)
    have m6 := ((xsm (e32.trans (e33.trans (e34.trans (e35.trans (e36.trans (e37))))))).trans xs1) _ _ m6 (fun _ z => by cases z)
    have m7 := ((xsm (e32.trans (e33.trans (e34.trans (e35.trans (e36.trans (e37))))))).trans xs1) _ _ m7 (fun _ z => by cases z)
    have m8 := ((xsm (e32.trans (e33.trans (e34.trans (e35.trans (e36.trans (e37))))))).trans xs1) _ _ m8 (fun _ z => by cases z)
    have m9 := ((xsm (e32.trans (e33.trans (e34.trans (e35.trans (e36.trans (e37))))))).trans xs1) _ _ m9 (fun _ z => by cases z)
    have m10 := ((xsm (e32.trans (e33.trans (e34.trans (e35.trans (e36.trans (e37))))))).trans xs1) _ _ m10 (fun _ z => by cases z)
    have m11 := ((xsm (e32.trans (e33.trans (e34.trans (e35.trans (e36.trans (e37))))))).trans xs1) _ _ m11 (fun _ z => by cases z)
    have m12 := ((xsm (e32.trans (e33.trans (e34.trans (e35.trans (e36.trans (e37))))))).trans xs1) _ _ m12 (fun _ z => by cases z)
    have m13 := ((xsm (e32.trans (e33.trans (e34.trans (e35.trans (e36.trans (e37))))))).trans xs1) _ _ m13 (fun _ z => by cases z)
    have m14 := ((xsm (e32.trans (e33.trans (e34.trans (e35.trans (e36.trans (e37))))))).trans xs1) _ _ m14 (fun _ z => by cases z)
    have m15 := ((xsm (e32.trans (e33.trans (e34.trans (e35.trans (e36.trans (e37))))))).trans xs1) _ _ m15 (fun _ z => by cases z)
    have m16 := ((xsm (e32.trans (e33.trans (e34.trans (e35.trans (e36.trans (e37))))))).trans xs1) _ _ m16 (fun _ z => by cases z)
    have m17 := ((xsm (e32.trans (e33.trans (e34.trans (e35.trans (e36.trans (e37))))))).trans xs1) _ _ m17 (fun _ z => by cases z)
    have m18 := ((xsm (e32.trans (e33.trans (e34.trans (e35.trans (e36.trans (e37))))))).trans xs1) _ _ m18 (fun _ z => by cases z)
    have m19 := ((xsm (e32.trans (e33.trans (e34.trans (e35.trans (e36.trans (e37))))))).trans xs1) _ _ m19 (fun _ z => by cases z)
    have m20 := ((xsm (e32.trans (e33.trans (e34.trans (e35.trans (e36.trans (e37))))))).trans xs1) _ _ m20 (fun _ z => by cases z)
    have m21 := ((xsm (e32.trans (e33.trans (e34.trans (e35.trans (e36.trans (e37))))))).trans xs1) _ _ m21 (fun _ z => by cases z)
    have m22 := ((xsm (e32.trans (e33.trans (e34.trans (e35.trans (e36.trans (e37))))))).trans xs1) _ _ m22 (fun _ z => by cases z)
    have m23 := ((xsm (e32.trans (e33.trans (e34.trans (e35.trans (e36.trans (e37))))))).trans xs1) _ _ m23 (fun _ z => by cases z)
    have m24 := ((xsm (e32.trans (e33.trans (e34.trans (e35.trans (e36.trans (e37))))))).trans xs1) _ _ m24 (fun _ z => by cases z)
    have m25 := ((xsm (e32.trans (e33.trans (e34.trans (e35.trans (e36.trans (e37))))))).trans xs1) _ _ m25 (fun _ z => by cases z)
    have m26 := ((xsm (e32.trans (e33.trans (e34.trans (e35.trans (e36.trans (e37))))))).trans xs1) _ _ m26 (fun _ z => by cases z)
    have m27 := ((xsm (e32.trans (e33.trans (e34.trans (e35.trans (e36.trans (e37))))))).trans xs1) _ _ m27 (fun _ z => by cases z)
    have m28 := ((xsm (e32.trans (e33.trans (e34.trans (e35.trans (e36.trans (e37))))))).trans xs1) _ _ m28 (fun _ z => by cases z)
    have m29 := ((xsm (e32.trans (e33.trans (e34.trans (e35.trans (e36.trans (e37))))))).trans xs1) _ _ m29 (fun _ z => by cases z)
    have m30 := ((xsm (e32.trans (e33.trans (e34.trans (e35.trans (e36.trans (e37))))))).trans xs1) _ _ m30 (fun _ z => by cases z)
    have m32 := xs1 _ _ m32 (fun _ z => by cases z)
    have m33 := xs1 _ _ m33 (fun _ z => by cases z)
    have m34 := xs1 _ _ m34 (fun _ z => by cases z)
    have m35 := xs1 _ _ m35 (fun _ z => by cases z)
    have m36 := xs1 _ _ m36 (fun _ z => by cases z)
    have m37 := xs1 _ _ m37 (fun _ z => by cases z)
    have h31 := hn1
    refine ⟨_, rfl, .inl ⟨rfl, _, SqL.of h31⟩, 7, rfl, 9, rfl, 9, rfl, 3, rfl, (by decide : 3 ≤ sizeLine), fun u38 n38 => ?_⟩
    have e39 : Same G39 (upd G39 u38 (.tup [V.int (-3), V.int (0), V.int (0)])) := same_new (Same.refl _) n38
    have h38 : (upd G39 u38 (.tup [V.int (-3), V.int (0), V.int (0)])) u38 = some (.tup [V.int (-3), V.int (0), V.int (0)]) := upd_same
    generalize (upd G39 u38 (.tup [V.int (-3), V.int (0), V.int (0)])) = G40 at e39 h38 ⊢
    refine ⟨(by decide : 0 ≤ sizeLine), fun u39 n39 => ?_⟩
    have e40 : Same G40 (upd G40 u39 (.lst [])) := same_new (Same.refl _) n39
    have h39 : (upd G40 u39 (.lst [])) u39 = some (.lst []) := upd_same
    generalize (upd G40 u39 (.lst [])) = G41 at e40 h39 ⊢
    refine ⟨(by decide : 1 ≤ sizeLine), fun u40 n40 => ?_⟩
    have e41 : Same G41 (upd G41 u40 (.tup [V.int (5)])) := same_new (Same.refl _) n40
    have h40 : (upd G41 u40 (.tup [V.int (5)])) u40 = some (.tup [V.int (5)]) := upd_same
    generalize (upd G41 u40 (.tup [V.int (5)])) = G42 at e41 h40 ⊢
    refine ⟨(by decide : 2 ≤ sizeLine), fun u41 n41 => ?_⟩
    have e42 : Same G42 (upd G42 u41 (.tup [V.str "a", V.ref u40])) := same_new (Same.refl _) n41
    have h41 : (upd G42 u41 (.tup [V.str "a", V.ref u40])) u41 = some (.tup [V.str "a", V.ref u40]) := upd_same
    generalize (upd G42 u41 (.tup [V.str "a", V.ref u40])) = G43 at e42 h41 ⊢
    refine ⟨(by decide : 1 ≤ sizeLine), fun u42 n42 => ?_⟩
    have e43 : Same G43 (upd G43 u42 (.lst [V.ref u41])) := same_new (Same.refl _) n42
    have h42 : (upd G43 u42 (.lst [V.ref u41])) u42 = some (.lst [V.ref u41]) := upd_same
    generalize (upd G43 u42 (.lst [V.ref u41])) = G44 at e43 h42 ⊢
    refine ⟨(by decide : 7 ≤ sizeLine), fun u43 n43 => ?_⟩
    have e44 : Same G44 (upd G44 u43 (.tup [V.str "dealing", V.int (-7), V.int (-9), V.int (-9), V.ref u38, V.ref u39, V.ref u42])) := same_new (Same.refl _) n43
    have h43 : (upd G44 u43 (.tup [V.str "dealing", V.int (-7), V.int (-9), V.int (-9), V.ref u38, V.ref u39, V.ref u42])) u43 = some (.tup [V.str "dealing", V.int (-7), V.int (-9), V.int (-9), V.ref u38, V.ref u39, V.ref u42]) := upd_same
    generalize (upd G44 u43 (.tup [V.str "dealing", V.int (-7), V.int (-9), V.int (-9), V.ref u38, V.ref u39, V.ref u42])) = G45 at e44 h43 ⊢
    refine ⟨1, rfl, 2, rfl, (by decide : 1 ≤ sizeLine), fun u44 n44 => ?_⟩
    have e45 : Same G45 (upd G45 u44 (.tup [V.int (5)])) := same_new (Same.refl _) n44
    have h44 : (upd G45 u44 (.tup [V.int (5)])) u44 = some (.tup [V.int (5)]) := upd_same
    generalize (upd G45 u44 (.tup [V.int (5)])) = G46 at e45 h44 ⊢
    refine ⟨(by decide : 5 ≤ sizeLine), fun u45 n45 => ?_⟩
    have e46 : Same G46 (upd G46 u45 (.tup [V.str "read", V.int (-1), V.int (-2), V.str "a", V.ref u44])) := same_new (Same.refl _) n45
    have h45 : (upd G46 u45 (.tup [V.str "read", V.int (-1), V.int (-2), V.str "a", V.ref u44])) u45 = some (.tup [V.str "read", V.int (-1), V.int (-2), V.str "a", V.ref u44]) := upd_same
    generalize (upd G46 u45 (.tup [V.str "read", V.int (-1), V.int (-2), V.str "a", V.ref u44])) = G47 at e46 h45 ⊢
    refine ⟨_, rfl, (by decide : 3 ≤ sizeLine), fun u46 n46 => ?_⟩
    have e47 : Same G47 (upd G47 u46 (.lst [V.ref u43, V.ref u45, V.ref u5])) := same_new (Same.refl _) n46
    have h46 : (upd G47 u46 (.lst [V.ref u43, V.ref u45, V.ref u5])) u46 = some (.lst [V.ref u43, V.ref u45, V.ref u5]) := upd_same
    generalize (upd G47 u46 (.lst [V.ref u43, V.ref u45, V.ref u5])) = G48 at e47 h46 ⊢
    have w38 : u38 ≠ u31 := (ne_of_none h31 n38).symm
    have m38 : mk [u31] G48 u38 = some (.tup [V.int (-3), V.int (0), V.int (0)]) := mk_has ((e40.trans (e41.trans (e42.trans (e43.trans (e44.trans (e45.trans (e46.trans (e47)))))))) _ _ h38) (not_one w38)
    have w39 : u39 ≠ u31 := (ne_of_none ((e39) _ _ h31) n39).symm
    have m39 : mk [u31] G48 u39 = some (.lst []) := mk_has ((e41.trans (e42.trans (e43.trans (e44.trans (e45.trans (e46.trans (e47))))))) _ _ h39) (not_one w39)
    have w40 : u40 ≠ u31 := (ne_of_none ((e39.trans (e40)) _ _ h31) n40).symm
    have m40 : mk [u31] G48 u40 = some (.tup [V.int (5)]) := mk_has ((e42.trans (e43.trans (e44.trans (e45.trans (e46.trans (e47)))))) _ _ h40) (not_one w40)
    have w41 : u41 ≠ u31 := (ne_of_none ((e39.trans (e40.trans (e41))) _ _ h31) n41).symm
    have m41 : mk [u31] G48 u41 = some (.tup [V.str "a", V.ref u40]) := mk_has ((e43.trans (e44.trans (e45.trans (e46.trans (e47))))) _ _ h41) (not_one w41)
    have w42 : u42 ≠ u31 := (ne_of_none ((e39.trans (e40.trans (e41.trans (e42)))) _ _ h31) n42).symm
    have m42 : mk [u31] G48 u42 = some (.lst [V.ref u41]) := mk_has ((e44.trans (e45.trans (e46.trans (e47)))) _ _ h42) (not_one w42)
    have w43 : u43 ≠ u31 := (ne_of_none ((e39.trans (e40.trans (e41.trans (e42.trans (e43))))) _ _ h31) n43).symm
    have m43 : mk [u31] G48 u43 = some (.tup [V.str "dealing", V.int (-7), V.int (-9), V.int (-9), V.ref u38, V.ref u39, V.ref u42]) := mk_has ((e45.trans (e46.trans (e47))) _ _ h43) (not_one w43)
    have w44 : u44 ≠ u31 := (ne_of_none ((e39.trans (e40.trans (e41.trans (e42.trans (e43.trans (e44)))))) _ _ h31) n44).symm
    have m44 : mk [u31] G48 u44 = some (.tup [V.int (5)]) := mk_has ((e46.trans (e47)) _ _ h44) (not_one w44)
    have w45 : u45 ≠ u31 := (ne_of_none ((e39.trans (e40.trans (e41.trans (e42.trans (e43.trans (e44.trans (e45))))))) _ _ h31) n45).symm
    have m45 : mk [u31] G48 u45 = some (.tup [V.str "read", V.int (-1), V.int (-2), V.str "a", V.ref u44]) := mk_has ((e47) _ _ h45) (not_one w45)
    have w46 : u46 ≠ u31 := (ne_of_none ((e39.trans (e40.trans (e41.trans (e42.trans (e43.trans (e44.trans (e45.trans (e46)))))))) _ _ h31) n46).symm
    have m46 : mk [u31] G48 u46 = some (.lst [V.ref u43, V.ref u45, V.ref u5]) := mk_has h46 (not_one w46)
    refine ⟨u31, _, _, rfl, rfl, ((e39.trans (e40.trans (e41.trans (e42.trans (e43.trans (e44.trans (e45.trans (e46.trans (e47))))))))) _ _ h31), (by decide : 6 < sizeLine), ?_⟩
    have xs2 : LamX.ExtN (mk [u31] G48) (mk [u31] (upd G48 u31 (.lst ([V.ref u7, V.ref u9, V.ref u12, V.ref u22, V.ref u29, V.ref u37] ++ [V.ref u46])))) := xpu (.head _)
    have X2 : LM.Ex (TT a) G0 (upd G48 u31 (.lst ([V.ref u7, V.ref u9, V.ref u12, V.ref u22, V.ref u29, V.ref u37] ++ [V.ref u46]))) := ex_put (X1.trans (LM.Ex.of (e39.trans (e40.trans (e41.trans (e42.trans (e43.trans (e44.trans (e45.trans (e46.trans (e47))))))))))) frq ((e39.trans (e40.trans (e41.trans (e42.trans (e43.trans (e44.trans (e45.trans (e46.trans (e47))))))))) _ _ h31)
    have hn2 : (upd G48 u31 (.lst ([V.ref u7, V.ref u9, V.ref u12, V.ref u22, V.ref u29, V.ref u37] ++ [V.ref u46]))) u31 = some (.lst [V.ref u7, V.ref u9, V.ref u12, V.ref u22, V.ref u29, V.ref u37, V.ref u46]) := upd_same
    generalize (upd G48 u31 (.lst ([V.ref u7, V.ref u9, V.ref u12, V.ref u22, V.ref u29, V.ref u37] ++ [V.ref u46]))) = G49 at xs2 X2 hn2 ⊢
    have m0 := ((xsm (e39.trans (e40.trans (e41.trans (e42.trans (e43.trans (e44.trans (e45.trans (e46.trans (e47)))))))))).trans xs2) _ _ m0 (fun _ z => by cases z)
    have m1 := ((xsm (e39.trans (e40.trans (e41.trans (e42.trans (e43.trans (e44.trans (e45.trans (e46.trans (e47)))))))))).trans xs2) _ _ m1 (fun _ z => by cases z)
    have m2 := ((xsm (e39.trans (e40.trans (e41.trans (e42.trans (e43.trans (e44.trans (e45.trans (e46.trans (e47)))))))))).trans xs2) _ _ m2 (fun _ z => by cases z)
    have m3 := ((xsm (e39.trans (e40.trans (e41.trans (e42.trans (e43.trans (e44.trans (e45.trans (e46.trans (e47)))))))))).trans xs2) _ _ m3 (fun _ z => by cases z)
    have m4 := ((xsm (e39.trans (e40.trans (e41.trans (e42.trans (e43.trans (e44.trans (e45.trans (e46.trans (e47)))))))))).trans xs2) _ _ m4 (fun _ z => by cases z)
    have m5 := ((xsm (e39.trans (e40.trans (e41.trans (e42.trans (e43.trans (e44.trans (e45.trans (e46.trans (e47)))))))))).trans xs2) _ _ m5 (fun _ z => by cases z)
    have m6 := ((xsm (e39.trans (e40.trans (e41.trans (e42.trans (e43.trans (e44.trans (e45.trans (e46.trans (e47)))))))))).trans xs2) _ _ m6 (fun _ z => by cases z)
    have m7 := ((xsm (e39.trans (e40.trans (e41.trans (e42.trans (e43.trans (e44.trans (e45.trans (e46.trans (e47)))))))))).trans xs2) _ _ m7 (fun _ z => by cases z)
    have m8 := ((xsm (e39.trans (e40.trans (e41.trans (e42.trans (e43.trans (e44.trans (e45.trans (e46.trans (e47)))))))))).trans xs2) _ _ m8 (fun _ z => by cases z)
    have m9 := ((xsm (e39.trans (e40.trans (e41.trans (e42.trans (e43.trans (e44.trans (e45.trans (e46.trans (e47)))))))))).trans xs2) _ _ m9 (fun _ z => by cases z)
    have m10 := ((xsm (e39.trans (e40.trans (e41.trans (e42.trans (e43.trans (e44.trans (e45.trans (e46.trans (e47)))))))))).trans xs2) _ _ m10 (fun _ z => by cases z)
    have m11 := ((xsm (e39.trans (e40.trans (e41.trans (e42.trans (e43.trans (e44.trans (e45.trans (e46.trans (e47)))))))))).trans xs2) _ _ m11 (fun _ z => by cases z)
    have m12 := ((xsm (e39.trans (e40.trans (e41.trans (e42.trans (e43.trans (e44.trans (e45.trans (e46.trans (e47)))))))))).trans xs2) _ _ m12 (fun _ z => by cases z)
    have m13 := ((xsm (e39.trans (e40.trans (e41.trans (e42.trans (e43.trans (e44.trans (e45.trans (e46.trans (e47)))))))))).trans xs2) _ _ m13 (fun _ z => by cases z)
    have m14 := ((xsm (e39.trans (e40.trans (e41.trans (e42.trans (e43.trans (e44.trans (e45.trans (e46.trans (e47)))))))))).trans xs2) _ _ m14 (fun _ z => by cases z)
    have m15 := ((xsm (e39.trans (e40.trans (e41.trans (e42.trans (e43.trans (e44.trans (e45.trans (e46.trans (e47)))))))))).trans xs2) _ _ m15 (fun _ z => by cases z)
    have m16 := ((xsm (e39.trans (e40.trans (e41.trans (e42.trans (e43.trans (e44.trans (e45.trans (e46.trans (e47)))))))))).trans xs2) _ _ m16 (fun _ z => by cases z)
    have m17 := ((xsm (e39.trans (e40.trans (e41.trans (e42.trans (e43.trans (e44.trans (e45.trans (e46.trans (e47)))))))))).trans xs2) _ _ m17 (fun _ z => by cases z)
    have m18 := ((xsm (e39.trans (e40.trans (e41.trans (e42.trans (e43.trans (e44.trans (e45.trans (e46.trans (e47)))))))))).trans xs2) _ _ m18 (fun _ z => by cases z)
    have m19 := ((xsm (e39.trans (e40.trans (e41.trans (e42.trans (e43.trans (e44.trans (e45.trans (e46.trans (e47)))))))))).trans xs2) _ _ m19 (fun _ z => by cases z)
    have m20 := ((xsm (e39.trans (e40.trans (e41.trans (e42.trans (e43.trans (e44.trans (e45.trans (e46.trans (e47)))))))))).trans xs2) _ _ m20 (fun _ z => by cases z)
    have m21 := ((xsm (e39.trans (e40.trans (e41.trans (e42.trans (e43.trans (e44.trans (e45.trans (e46.trans (e47)))))))))).trans xs2) _ _ m21 (fun _ z => by cases z)
    have m22 := ((xsm (e39.trans (e40.trans (e41.trans (e42.trans (e43.trans (e44.trans (e45.trans (e46.trans (e47)))))))))).trans xs2) _ _ m22 (fun _ z => by cases z)
    have m23 := ((xsm (e39.trans (e40.trans (e41.trans (e42.trans (e43.trans (e44.trans (e45.trans (e46.trans (e47)))))))))).trans xs2) _ _ m23 (fun _ z => by cases z)
    have m24 := ((xsm (e39.trans (e40.trans (e41.trans (e42.trans (e43.trans (e44.trans (e45.trans (e46.trans (e47)))))))))).trans xs2) _ _ m24 (fun _ z => by cases z)
    have m25 := ((xsm (e39.trans (e40.trans (e41.trans (e42.trans (e43.trans (e44.trans (e45.trans (e46.trans (e47)))))))))).trans xs2) _ _ m25 (fun _ z => by cases z)
    have m26 := ((xsm (e39.trans (e40.trans (e41.trans (e42.trans (e43.trans (e44.trans (e45.trans (e46.trans (e47)))))))))).trans xs2) _ _ m26 (fun _ z => by cases z)
    have m27 := ((xsm (e39.trans (e40.trans (e41.trans (e42.trans (e43.trans (e44.trans (e45.trans (e46.trans (e47)))))))))).trans xs2) _ _ m27 (fun _ z => by cases z)
    have m28 := ((xsm (e39.trans (e40.trans (e41.trans (e42.trans (e43.trans (e44.trans (e45.trans (e46.trans (e47)))))))))).trans xs2) _ _ m28 (fun _ z => by cases z)
    have m29 := ((xsm (e39.trans (e40.trans (e41.trans (e42.trans (e43.trans (e44.trans (e45.trans (e46.trans (e47)))))))))).trans xs2) _ _ m29 (fun _ z => by cases z)
    have m30 := ((xsm (e39.trans (e40.trans (e41.trans (e42.trans (e43.trans (e44.trans (e45.trans (e46.trans (e47)))))))))).trans xs2) _ _ m30 (fun _ z => by cases z)
    have m32 := ((xsm (e39.trans (e40.trans (e41.trans (e42.trans (e43.trans (e44.trans (e45.trans (e46.trans (e47)))))))))).trans xs2) _ _ m32 (fun _ z => by cases z)
    have m33 := ((xsm (e39.trans (e40.trans (e41.trans (e42.trans (e43.trans (e44.trans (e45.trans (e46.trans (e47)))))))))).trans xs2) _ _ m33 (fun _ z => by cases z)
    have m34 := ((xsm (e39.trans (e40.trans (e41.trans (e42.trans (e43.trans (e44.trans (e45.trans (e46.trans (e47)))))))))).trans xs2) _ _ m34 (fun _ z => by cases z)
    have m35 := ((xsm (e39.trans (e40.trans (e41.trans (e42.trans (e43.trans (e44.trans (e45.trans (e46.trans (e47)))))))))).trans xs2) _ _ m35 (fun _ z => by cases z)
    have m36 := ((xsm (e39.trans (e40.trans (e41.trans (e42.trans (e43.trans (e44.trans (e45.trans (e46.trans (e47)))))))))).trans xs2) _ _ m36 (fun _ z => by cases z)
    have m37 := ((xsm (e39.trans (e40.trans (e41.trans (e42.trans (e43.trans (e44.trans (e45.trans (e46.trans (e47)))))))))).trans xs2) _ _ m37 (fun _ z => by cases z)
    have m38 := xs2 _ _ m38 (fun _ z => by cases z)
    have m39 := xs2 _ _ m39 (fun _ z => by cases z)
    have m40 := xs2 _ _ m40 (fun _ z => by cases z)
    have m41 := xs2 _ _ m41 (fun _ z => by cases z)
    have m42 := xs2 _ _ m42 (fun _ z => by cases z)
    have m43 := xs2 _ _ m43 (fun _ z => by cases z)
    have m44 := xs2 _ _ m44 (fun _ z => by cases z)
    have m45 := xs2 _ _ m45 (fun _ z => by cases z)
    have m46 := xs2 _ _ m46 (fun _ z => by cases z)
    have h31 := hn2
    have hall : DpAll K (mk [u31] G49) [V.ref u7, V.ref u9, V.ref u12, V.ref u22, V.ref u29, V.ref u37, V.ref u46] (fxs.map fxd) := (.cons (.lst (SqL.of m7) (.cons (.tup (SqT.of m5) (.cons (.str _) (.cons (.int _) (.cons (.int _) (.cons (.int _) (.cons (.tup (SqT.of m0) (.cons (.int _) (.cons (.int _) (.cons (.int _) .nil)))) (.cons (.lst (SqL.of m1) .nil) (.cons (.lst (SqL.of m4) (.cons (.tup (SqT.of m3) (.cons (.str _) (.cons (.tup (SqT.of m2) (.cons (.int _) (.cons (.int _) (.cons (.int _) .nil)))) .nil))) .nil)) .nil)))))))) (.cons (.tup (SqT.of m6) (.cons (.str _) (.cons (.int _) (.cons (.int _) (.cons (.str _) (.cons .non .nil)))))) .nil))) (.cons (.lst (SqL.of m9) (.cons (.tup (SqT.of m5) (.cons (.str _) (.cons (.int _) (.cons (.int _) (.cons (.int _) (.cons (.tup (SqT.of m0) (.cons (.int _) (.cons (.int _) (.cons (.int _) .nil)))) (.cons (.lst (SqL.of m1) .nil) (.cons (.lst (SqL.of m4) (.cons (.tup (SqT.of m3) (.cons (.str _) (.cons (.tup (SqT.of m2) (.cons (.int _) (.cons (.int _) (.cons (.int _) .nil)))) .nil))) .nil)) .nil)))))))) (.cons (.tup (SqT.of m8) (.cons (.str _) (.cons (.int _) (.cons (.int _) (.cons (.str _) (.cons .non .nil)))))) .nil))) (.cons (.lst (SqL.of m12) (.cons (.tup (SqT.of m5) (.cons (.str _) (.cons (.int _) (.cons (.int _) (.cons (.int _) (.cons (.tup (SqT.of m0) (.cons (.int _) (.cons (.int _) (.cons (.int _) .nil)))) (.cons (.lst (SqL.of m1) .nil) (.cons (.lst (SqL.of m4) (.cons (.tup (SqT.of m3) (.cons (.str _) (.cons (.tup (SqT.of m2) (.cons (.int _) (.cons (.int _) (.cons (.int _) .nil)))) .nil))) .nil)) .nil)))))))) (.cons (.tup (SqT.of m11) (.cons (.str _) (.cons (.int _) (.cons (.int _) (.cons (.str _) (.cons (.tup (SqT.of m10) (.cons (.int _) (.cons (.int _) (.cons (.int _) .nil)))) .nil)))))) .nil))) (.cons (.lst (SqL.of m22) (.cons (.tup (SqT.of m5) (.cons (.str _) (.cons (.int _) (.cons (.int _) (.cons (.int _) (.cons (.tup (SqT.of m0) (.cons (.int _) (.cons (.int _) (.cons (.int _) .nil)))) (.cons (.lst (SqL.of m1) .nil) (.cons (.lst (SqL.of m4) (.cons (.tup (SqT.of m3) (.cons (.str _) (.cons (.tup (SqT.of m2) (.cons (.int _) (.cons (.int _) (.cons (.int _) .nil)))) .nil))) .nil)) .nil)))))))) (.cons (.tup (SqT.of m14) (.cons (.str _) (.cons (.int _) (.cons (.int _) .nil)))) (.cons (.tup (SqT.of m15) (.cons (.str _) (.cons (.int _) (.cons (.int _) .nil)))) (.cons (.tup (SqT.of m20) (.cons (.str _) (.cons (.int _) (.cons (.int _) (.cons (.str _) (.cons (.tup (SqT.of m19) (.cons (.int _) (.cons (.int _) .nil))) .nil)))))) .nil))))) (.cons (.lst (SqL.of m29) (.cons (.tup (SqT.of m5) (.cons (.str _) (.cons (.int _) (.cons (.int _) (.cons (.int _) (.cons (.tup (SqT.of m0) (.cons (.int _) (.cons (.int _) (.cons (.int _) .nil)))) (.cons (.lst (SqL.of m1) .nil) (.cons (.lst (SqL.of m4) (.cons (.tup (SqT.of m3) (.cons (.str _) (.cons (.tup (SqT.of m2) (.cons (.int _) (.cons (.int _) (.cons (.int _) .nil)))) .nil))) .nil)) .nil)))))))) (.cons (.tup (SqT.of m15) (.cons (.str _) (.cons (.int _) (.cons (.int _) .nil)))) (.cons (.tup (SqT.of m14) (.cons (.str _) (.cons (.int _) (.cons (.int _) .nil)))) (.cons (.tup (SqT.of m27) (.cons (.str _) (.cons (.int _) (.cons (.int _) (.cons (.str _) (.cons (.tup (SqT.of m26) (.cons (.int _) .nil)) .nil)))))) .nil))))) (.cons (.lst (SqL.of m37) (.cons (.tup (SqT.of m5) (.cons (.str _) (.cons (.int _) (.cons (.int _) (.cons (.int _) (.cons (.tup (SqT.of m0) (.cons (.int _) (.cons (.int _) (.cons (.int _) .nil)))) (.cons (.lst (SqL.of m1) .nil) (.cons (.lst (SqL.of m4) (.cons (.tup (SqT.of m3) (.cons (.str _) (.cons (.tup (SqT.of m2) (.cons (.int _) (.cons (.int _) (.cons (.int _) .nil)))) .nil))) .nil)) .nil)))))))) (.cons (.tup (SqT.of m14) (.cons (.str _) (.cons (.int _) (.cons (.int _) .nil)))) (.cons (.tup (SqT.of m15) (.cons (.str _) (.cons (.int _) (.cons (.int _) .nil)))) (.cons (.tup (SqT.of m35) (.cons (.str _) (.cons (.int _) (.cons (.int _) (.cons (.str _) (.cons (.tup (SqT.of m34) (.cons (.int _) .nil)) .nil)))))) .nil))))) (.cons (.lst (SqL.of m46) (.cons (.tup (SqT.of m43) (.cons (.str _) (.cons (.int _) (.cons (.int _) (.cons (.int _) (.cons (.tup (SqT.of m38) (.cons (.int _) (.cons (.int _) (.cons (.int _) .nil)))) (.cons (.lst (SqL.of m39) .nil) (.cons (.lst (SqL.of m42) (.cons (.tup (SqT.of m41) (.cons (.str _) (.cons (.tup (SqT.of m40) (.cons (.int _) .nil)) .nil))) .nil)) .nil)))))))) (.cons (.tup (SqT.of m45) (.cons (.str _) (.cons (.int _) (.cons (.int _) (.cons (.str _) (.cons (.tup (SqT.of m44) (.cons (.int _) .nil)) .nil)))))) (.cons (.tup (SqT.of m5) (.cons (.str _) (.cons (.int _) (.cons (.int _) (.cons (.int _) (.cons (.tup (SqT.of m0) (.cons (.int _) (.cons (.int _) (.cons (.int _) .nil)))) (.cons (.lst (SqL.of m1) .nil) (.cons (.lst (SqL.of m4) (.cons (.tup (SqT.of m3) (.cons (.str _) (.cons (.tup (SqT.of m2) (.cons (.int _) (.cons (.int _) (.cons (.int _) .nil)))) .nil))) .nil)) .nil)))))))) .nil)))) .nil)))))))
    have gall := dpall_gd hall fx_small
    have tE := X2.tab hT
    refine ⟨_, rfl, u31, rfl, ⟨_, SqL.of h31⟩, fun D nD => ?_⟩
    refine lc_list (K := K) (a := u31) (xs := [V.ref u7, V.ref u9, V.ref u12, V.ref u22, V.ref u29, V.ref u37, V.ref u46]) (fun j H' => LM.Ex (TT a) G49 H' ∧ LamX.Tabs (TT a) H' ∧ H' D = some (.lst ((fxs.take j).map fun rs => V.bl (ordD (fxd rs))))) ⟨LM.Ex.of (same_new (Same.refl _) nD), (LM.Ex.of (same_new (Same.refl _) nD)).tab tE, upd_same⟩ (fun j H' _ z => SqL.of (z.1.lst h31)) ?_ ?_
    · rintro j v0 HA hj ⟨xA, tA, hD⟩
      obtain ⟨d', ed, hd⟩ := gall.get hj
      rw [List.getElem?_map] at ed
      cases er : fxs[j]? with
      | none => rw [er] at ed; cases ed
      | some rs =>
        rw [er] at ed
        cases ed
        have hjl := (List.getElem?_eq_some_iff.mp er).1
        have h7 : fxs.length = 7 := rfl
        refine ⟨rfl, _, rfl, v0, _, rfl, (hd.up xout).up xA.ext, fx_few rs (List.mem_of_getElem? er), tA, fun HB xB tB => ⟨_, xB.lst hD, ?_, ?_, ?_, ?_⟩⟩
        · rw [List.length_map, List.length_take]
          exact Nat.lt_of_le_of_lt (Nat.min_le_left _ _) (Nat.lt_of_lt_of_le (show j < 100 by omega) (by decide))
        · exact ex_put (xA.trans xB) (Fr.of (LamX.ExtN.of (Same.refl _)) nD) (xB.lst hD)
        · exact (ex_put (xA.trans xB) (Fr.of (LamX.ExtN.of (Same.refl _)) nD) (xB.lst hD)).tab tE
        · rw [upd_same, List.take_add_one, er, List.map_append]
          rfl
    · rintro HA ⟨xA, tA, hD⟩
      have hD : HA D = some (.lst ([false, true, true, true, true, false, true].map V.bl)) := by
        rw [hD, ← fx_vals, List.map_map]
        rfl
      refine ⟨(by decide : 7 ≤ sizeLine), fun p np => ?_⟩
      have sN : Same HA (upd HA p (.lst [.bl false, .bl true, .bl true, .bl true, .bl true, .bl false, .bl true])) := same_new (Same.refl HA) np
      have hp : (upd HA p (.lst [.bl false, .bl true, .bl true, .bl true, .bl true, .bl false, .bl true])) p = some (.lst [.bl false, .bl true, .bl true, .bl true, .bl true, .bl false, .bl true]) := upd_same
      generalize (upd HA p (.lst [.bl false, .bl true, .bl true, .bl true, .bl true, .bl false, .bl true])) = HB at sN hp ⊢
      have da : ∀ {H : Hp}, DpAll K H [.bl false, .bl true, .bl true, .bl true, .bl true, .bl false, .bl true] [.bool false, .bool true, .bool true, .bool true, .bool true, .bool false, .bool true] := .cons (.bl _) (.cons (.bl _) (.cons (.bl _) (.cons (.bl _) (.cons (.bl _) (.cons (.bl _) (.cons (.bl _) .nil))))))
      exact ⟨.list [.bool false, .bool true, .bool true, .bool true, .bool true, .bool false, .bool true], .list [.bool false, .bool true, .bool true, .bool true, .bool true, .bool false, .bool true], .lst (SqL.of (sN _ _ hD)) da, .lst (SqL.of hp) da, by decide +kernel, rfl, q HB ((X2.trans xA).trans (LM.Ex.of sN)) (tA.ext sN)⟩

theorem ok_law {P : Program} {w : World} {K : PySem.W.Frag} {mg : Str → Option Value} {base : Heap} {a : Nat → Addr} {d : Nat → FuncData} (T : Txt K mg a d) (TB : Tb base mg a) : FnG P w K mg base 9 (a 46) (d 46) ["_law_script"] (spLaw K a) := by
  refine fnG_mk T.F_law sc_law (fun vs H Q E h => ?_) (fun cdv A outer s0 H vs Q E gd hr h => ?_)
  · obtain ⟨l, ns, rfl, hS, hl, hT, q⟩ := h
    rfl
  · obtain ⟨l, ns, rfl, hS, hl, hT, q⟩ := h
    refine ⟨_, (pss_cons (ps_for PassesOwn.never rfl (pi_range1 (by rfl) T.z_range (pa_cons (pe_callB (call_max2 rfl) (by rfl) T.z_max (by decide +kernel) (pa_cons pe_int (pa_cons (pe_callB (call_min2 rfl) (by rfl) T.z_min (by decide +kernel) (pa_cons pe_int (pa_cons (pe_callB call_len_seq (by rfl) T.z_len PySem.boot_len (pa_cons (pv 0) pa_nil)) pa_nil))) pa_nil))) pa_nil)) (pg_name (i := 1) sc_law.nd rfl (.inl rfl)) (pss_cons (ps_set (i := 2) sc_law.nd rfl (Or.inl rfl) (pe_call (ok_l_begun T) (hr.mono (by decide)) (by rfl) T.g_l_begun T.F_l_begun.kp T.b_l_begun .nil pass0 (pa_cons (pv 0) (pa_cons (pv 1) pa_nil)))) (pss_cons (ps_set (i := 3) sc_law.nd rfl (Or.inl rfl) (pe_call (ok_l_history T) (hr.mono (by decide)) (by rfl) T.g_l_history T.F_l_history.kp T.b_l_history .nil pass0 (pa_cons (pv 2) pa_nil))) (pss_cons (ps_if (PW.pt (pw_or (pt_cmpR op_isnot_bl (pe_call (ok_is_ordered T TB) (hr.mono (by decide)) (by rfl) T.g_is_ordered T.F_is_ordered.kp T.b_is_ordered .nil pass0 (pa_cons (pv 3) pa_nil)) pe_bl (nomark _)) (pw_or1 (pt_not (pt_truth (pe_callG (ok_l_right T TB) gd (hr.mono (by decide)) (by rfl) T.g_l_right T.F_l_right.kp T.b_l_right pass0 (pa_cons (pv 3) pa_nil)) (by intro _; rfl)))))) (pss_one (ps_ret pe_bl)) pss_nil) (pss_one (ps_for PassesOwn.never rfl (pi_range1 (by rfl) T.z_range (pa_cons pe_int pa_nil)) (pg_name (i := 4) sc_law.nd rfl (.inl rfl)) (pss_cons (ps_set (i := 5) sc_law.nd rfl (Or.inl rfl) (pe_call (ok_l_bent T) (hr.mono (by decide)) (by rfl) T.g_l_bent T.F_l_bent.kp T.b_l_bent .nil pass0 (pa_cons (pv 2) (pa_cons (pv 3) pa_nil)))) (pss_one (ps_if (PW.pt (pw_or (pt_not (pt_truth (pe_callG (ok_l_right T TB) gd (hr.mono (by decide)) (by rfl) T.g_l_right T.F_l_right.kp T.b_l_right pass0 (pa_cons (pv 5) pa_nil)) (by intro _; rfl))) (pw_or1 (pt_not (pt_truth (pe_callG (ok_l_right T TB) gd (hr.mono (by decide)) (by rfl) T.g_l_right T.F_l_right.kp T.b_l_right pass0 (pa_cons (pe_call (ok_l_bent T) (hr.mono (by decide)) (by rfl) T.g_l_bent T.F_l_bent.kp T.b_l_bent .nil pass0 (pa_cons (pv 2) (pa_cons (pv 5) pa_nil))) pa_nil)) (by intro _; rfl)))))) (pss_one (ps_ret pe_bl)) pss_nil))))))))) (pss_one (ps_ret (pe_and (pe_cmpR op_is_bl (pe_call (ok_is_ordered T TB) (hr.mono (by decide)) (by rfl) T.g_is_ordered T.F_is_ordered.kp T.b_is_ordered .nil pass0 (pa_cons (pe_lst pa_nil) pa_nil)) pe_bl (nomark _)) (pe_one (pe_call0 (ok_l_fixed_right T TB) (hr.mono (by decide)) (by rfl) T.g_l_fixed_right T.F_l_fixed_right.kp T.b_l_fixed_right .nil pass0)))))), ?_⟩
    refine ⟨_, rfl, l, _, rfl, .inl hS, 20, _, rfl, 1, _, rfl, _, rfl, ?_, ?_, ?_⟩
    · rw [List.length_map]; (repeat' split) <;> omega
    · rw [List.length_map]; (repeat' split) <;> omega
    have hN : (if (if ((ns.map V.int).length : Int) < 20 then ((ns.map V.int).length : Int) else 20) > 1 then (if ((ns.map V.int).length : Int) < 20 then ((ns.map V.int).length : Int) else 20) else (1 : Int)).toNat ≤ 40 := by
      rw [List.length_map]; (repeat' split) <;> omega
    refine for_range (fun i σ H' => LamX.ExtN H H' ∧ LamX.Tabs (TT a) H' ∧ ∃ v1 v2 v3 v4 v5 : Option V, σ = [some (.ref l), v1, v2, v3, v4, v5]) ⟨LamX.ExtN.refl H, hT, none, none, none, none, none, rfl⟩ ?_ ?_
    · rintro i0 σ H1 hi ⟨x1, t1, v1, v2, v3, v4, v5, rfl⟩
      refine ⟨_, rfl, _, rfl, l, ns, _, rfl, SL.SqL.extN hS x1, hl, by omega, by omega, fun s H2 ns0 s2 hs2 => ?_⟩
      refine ⟨_, rfl, s, rfl, hs2, fun p bs H3 k3 np hp hb hbl hrb hok => ?_⟩
      have W3 : LW a s H H3 := (LW.of (x1.trans (LamX.ExtN.of s2)) (Fr.of x1 ns0) hs2 (t1.ext s2)).kp k3
      have ps : p ≠ s := hs2.ne_new np
      have hpm : SqL K (mk [s] H3) p (bs.map (·.1)) := SqL.of (mk_has hp (not_one ps))
      have gp : ∀ {H' : Hp}, LamX.ExtN (mk [s] H3) (mk [s] H') → GA K H' (.ref p) := fun x => ga_rows (sqL_out (SL.SqL.extN hpm x)) ((hb.ext x).ext xout).at_ (by omega) (Nat.zero_le 3) hrb
      obtain ⟨hgd, hfw⟩ := gd_rows67 hp ((hb.ext xout).at_) (by omega) (Nat.zero_le 3) hrb
      refine ⟨_, rfl, _, _, rfl, hgd, hfw, W3.tb, fun H4 x4 t4 => ?_⟩
      rw [hist_true hok (fun b hb' => hrb b hb')]
      have W4 := W3.ex x4
      refine ⟨true, true, rfl, rfl, _, rfl, iteF ?_⟩
      refine ⟨_, rfl, .ref p, rfl, gp (xex x4.ext), t4, fun H5 x5 t5 => ⟨_, rfl, iteF ?_⟩⟩
      have W5 := W4.ex x5
      have x35 : LamX.ExtN (mk [s] H3) (mk [s] H5) := (xex x4.ext).trans (xex x5.ext)
      refine ⟨_, rfl, by decide, by decide, ?_⟩
      refine for_range (fun j σ H' => LW a s H H' ∧ LamX.ExtN (mk [s] H3) (mk [s] H') ∧ ∃ w4 w5 : Option V, σ = [some (.ref l), some (.int (0 + (i0 : Int))), some (.ref s), some (.ref p), w4, w5]) ⟨W5, x35, _, _, rfl⟩ ?_ ?_
      · rintro j σ HA hj ⟨WA, xA, w4, w5, rfl⟩
        refine ⟨_, rfl, _, rfl, s, p, bs, 0, rfl, WA.st, SL.SqL.extN hpm xA, hb.ext xA, by omega, by decide, hrb, fun p2 bs2 HB kB hp2 hb2 hl2 hr2 => ?_⟩
        have WB := WA.kp kB
        have xB := xA.trans (xkp kB (.head _))
        refine ⟨_, rfl, .ref p2, rfl, ga_rows (sqL_out hp2) (hb2.ext xout).at_ (by omega) (by decide) hr2, WB.tb, fun HC xC tC => ⟨_, rfl, iteF ?_⟩⟩
        have WC := WB.ex xC
        refine ⟨_, rfl, _, rfl, s, p2, bs2, 1, rfl, WC.st, SL.SqL.extN hp2 (xex xC.ext), hb2.ext (xex xC.ext), by omega, by decide, hr2, fun p3 bs3 HD kD hp3 hb3 hl3 hr3 => ?_⟩
        have WD := WC.kp kD
        refine ⟨.ref p3, rfl, ga_rows (sqL_out hp3) (hb3.ext xout).at_ (by omega) (by decide) hr3, WD.tb, fun HE xE tE => ⟨_, rfl, iteF ?_⟩⟩
        exact ⟨WD.ex xE, (xB.trans (xex xC.ext)).trans ((xkp kD (.head _)).trans (xex xE.ext)), _, _, rfl⟩
      · rintro σ HA ⟨WA, xA, w4, w5, rfl⟩
        exact ⟨WA.ext, WA.tb, _, _, _, _, _, rfl⟩
    · rintro σ H1 ⟨x1, t1, v1, v2, v3, v4, v5, rfl⟩
      refine ⟨(by decide : 0 ≤ sizeLine), fun p np => ?_⟩
      have s2 : Same H1 (upd H1 p (.lst [])) := same_new (Same.refl H1) np
      have hp : (upd H1 p (.lst [])) p = some (.lst []) := upd_same
      generalize (upd H1 p (.lst [])) = H2 at s2 hp ⊢
      refine ⟨_, .list [], rfl, .lst (SqL.of hp) (by decide) .nil, (show 0 < 64 by decide), t1.ext s2, fun H3 x3 t3 => ?_⟩
      rw [show ordD (.list []) = true from rfl]
      refine ⟨true, true, rfl, rfl, ?_⟩
      exact ⟨_, rfl, rfl, t3, fun H4 x4 t4 => q _⟩

theorem all_mk {l : PySem.W.OpenLaw} {w : World} {K : PySem.W.Frag} {h : Heap} {mg : Str → Option Value} {fa : Addr} {f0 f1 f2 f3 f4 f5 f6 f7 f8 f9 f10 f11 f12 f13 f14 f15 f16 f17 f18 f19 f20 f21 f22 f23 f24 f25 f26 f27 f28 f29 f30 f31 f32 f33 f34 f35 f36 f37 f38 f39 f40 f41 f42 f43 f44 f45 f46 : Addr} {kc16 : Addr} {kc21 : Addr} (X : K.In h) (G : h.Ns mainGlobals mg) (hfa : mg "law" = some (.ref fa))
    {od0 od1 od2 od3 od4 od5 od6 od7 od8 od9 od10 od11 od12 od13 od14 od15 od16 od17 od18 od19 od20 od21 od22 od23 od24 od25 od26 od27 od28 od29 od30 od31 od32 od33 od34 od35 od36 od37 od38 od39 od40 od41 od42 od43 od44 od45 od46 : Option Addr} {an0 an1 an2 an3 an4 an5 an6 an7 an8 an9 an10 an11 an12 an13 an14 an15 an16 an17 an18 an19 an20 an21 an22 an23 an24 an25 an26 an27 an28 an29 an30 an31 an32 an33 an34 an35 an36 an37 an38 an39 an40 an41 an42 an43 an44 an45 an46 : Option Addr} {sl0 sl1 sl2 sl3 sl4 sl5 sl6 sl7 sl8 sl9 sl10 sl11 sl12 sl13 sl14 sl15 sl16 sl17 sl18 sl19 sl20 sl21 sl22 sl23 sl24 sl25 sl26 sl27 sl28 sl29 sl30 sl31 sl32 sl33 sl34 sl35 sl36 sl37 sl38 sl39 sl40 sl41 sl42 sl43 sl44 sl45 sl46 : Array (Option Value)} {oc0 kV0 dc0 pm0 cd0 ct0 oc1 kV1 dc1 pm1 cd1 ct1 oc2 kV2 dc2 pm2 cd2 ct2 oc3 kV3 dc3 pm3 cd3 ct3 oc4 kV4 dc4 pm4 cd4 ct4 oc5 kV5 dc5 pm5 cd5 ct5 oc6 kV6 dc6 pm6 cd6 ct6 oc7 kV7 dc7 pm7 cd7 ct7 oc8 kV8 dc8 pm8 cd8 ct8 oc9 kV9 dc9 pm9 cd9 ct9 oc10 kV10 dc10 pm10 cd10 ct10 oc11 kV11 dc11 pm11 cd11 ct11 oc12 kV12 dc12 pm12 cd12 ct12 oc13 kV13 dc13 pm13 cd13 ct13 oc14 kV14 dc14 pm14 cd14 ct14 oc15 kV15 dc15 pm15 cd15 ct15 oc16 kV16 dc16 pm16 ct16 oc17 kV17 dc17 pm17 cd17 ct17 oc18 kV18 dc18 pm18 cd18 ct18 oc19 kV19 dc19 pm19 cd19 ct19 oc20 kV20 dc20 pm20 cd20 ct20 oc21 kV21 dc21 pm21 ct21 oc22 kV22 dc22 pm22 cd22 ct22 oc23 kV23 dc23 pm23 cd23 ct23 oc24 kV24 dc24 pm24 cd24 ct24 oc25 kV25 dc25 pm25 cd25 ct25 oc26 kV26 dc26 pm26 cd26 ct26 oc27 kV27 dc27 pm27 cd27 ct27 oc28 kV28 dc28 pm28 cd28 ct28 oc29 kV29 dc29 pm29 cd29 ct29 oc30 kV30 dc30 pm30 cd30 ct30 oc31 kV31 dc31 pm31 cd31 ct31 oc32 kV32 dc32 pm32 cd32 ct32 oc33 kV33 dc33 pm33 cd33 ct33 oc34 kV34 dc34 pm34 cd34 ct34 oc35 kV35 dc35 pm35 cd35 ct35 oc36 kV36 dc36 pm36 cd36 ct36 oc37 kV37 dc37 pm37 cd37 ct37 oc38 kV38 dc38 pm38 cd38 ct38 oc39 kV39 dc39 pm39 cd39 ct39 oc40 kV40 dc40 pm40 cd40 ct40 oc41 kV41 dc41 pm41 cd41 ct41 oc42 kV42 dc42 pm42 cd42 ct42 oc43 kV43 dc43 pm43 cd43 ct43 oc44 kV44 dc44 pm44 cd44 ct44 oc45 kV45 dc45 pm45 cd45 ct45 oc46 kV46 dc46 pm46 cd46 ct46 : Value}
    {t47 : Tok}
    {t48 : Tok}
    {t49 : Tok}
    {t50 : Tok}
    {t51 : Tok}
    {t52 : Tok}
    {t53 : Tok}
    {t54 : Tok}
    {t55 : Tok}
    {t56 : Tok}
    (g47 : PySem.W.nsIn K mainGlobals "LETTERS" = some (some (.str "abcdefghijklmnopqrstuvwxyz" t47)))
    (g48 : PySem.W.nsIn K mainGlobals "MOST_LETTERS" = some (some (.int (6) t48)))
    (g49 : PySem.W.nsIn K mainGlobals "MOST_FIELDS" = some (some (.int (4) t49)))
    (g50 : PySem.W.nsIn K mainGlobals "DEALING_ROW" = some (some (.str "dealing" t50)))
    (g51 : PySem.W.nsIn K mainGlobals "FORM_ROW" = some (some (.str "form" t51)))
    (g52 : PySem.W.nsIn K mainGlobals "READ_ROW" = some (some (.str "read" t52)))
    (g53 : PySem.W.nsIn K mainGlobals "NOW_ROW" = some (some (.str "now" t53)))
    (g54 : PySem.W.nsIn K mainGlobals "DEALING_PARTS" = some (some (.int (7) t54)))
    (g55 : PySem.W.nsIn K mainGlobals "FORM_PARTS" = some (some (.int (3) t55)))
    (g56 : PySem.W.nsIn K mainGlobals "READ_PARTS" = some (some (.int (5) t56)))
    (a0 : PySem.W.nsIn K mainGlobals "is_whole" = some (some (.ref f0)))
    (l0 : K.lookup f0 = some ⟨oc0, od0, .func (PySem.W.fnOf "is_whole" "is_whole" (defArgs s_is_whole) (defBody s_is_whole) (defScope s_is_whole) .none kV0 dc0 pm0 an0 cd0 ct0), sl0⟩) (c0 : PySem.W.codeIn K cd0 "is_whole" = true) (k0 : PySem.W.keepIn K (.ref f0) = true)
    (a1 : PySem.W.nsIn K mainGlobals "is_from_to" = some (some (.ref f1)))
    (l1 : K.lookup f1 = some ⟨oc1, od1, .func (PySem.W.fnOf "is_from_to" "is_from_to" (defArgs s_is_from_to) (defBody s_is_from_to) (defScope s_is_from_to) .none kV1 dc1 pm1 an1 cd1 ct1), sl1⟩) (c1 : PySem.W.codeIn K cd1 "is_from_to" = true) (k1 : PySem.W.keepIn K (.ref f1) = true)
    (a2 : PySem.W.nsIn K mainGlobals "is_row_of_whole" = some (some (.ref f2)))
    (l2 : K.lookup f2 = some ⟨oc2, od2, .func (PySem.W.fnOf "is_row_of_whole" "is_row_of_whole" (defArgs s_is_row_of_whole) (defBody s_is_row_of_whole) (defScope s_is_row_of_whole) .none kV2 dc2 pm2 an2 cd2 ct2), sl2⟩) (c2 : PySem.W.codeIn K cd2 "is_row_of_whole" = true) (k2 : PySem.W.keepIn K (.ref f2) = true)
    (a3 : PySem.W.nsIn K mainGlobals "is_stamp" = some (some (.ref f3)))
    (l3 : K.lookup f3 = some ⟨oc3, od3, .func (PySem.W.fnOf "is_stamp" "is_stamp" (defArgs s_is_stamp) (defBody s_is_stamp) (defScope s_is_stamp) .none kV3 dc3 pm3 an3 cd3 ct3), sl3⟩) (c3 : PySem.W.codeIn K cd3 "is_stamp" = true) (k3 : PySem.W.keepIn K (.ref f3) = true)
    (a4 : PySem.W.nsIn K mainGlobals "is_key" = some (some (.ref f4)))
    (l4 : K.lookup f4 = some ⟨oc4, od4, .func (PySem.W.fnOf "is_key" "is_key" (defArgs s_is_key) (defBody s_is_key) (defScope s_is_key) .none kV4 dc4 pm4 an4 cd4 ct4), sl4⟩) (c4 : PySem.W.codeIn K cd4 "is_key" = true) (k4 : PySem.W.keepIn K (.ref f4) = true)
    (a5 : PySem.W.nsIn K mainGlobals "is_worth" = some (some (.ref f5)))
    (l5 : K.lookup f5 = some ⟨oc5, od5, .func (PySem.W.fnOf "is_worth" "is_worth" (defArgs s_is_worth) (defBody s_is_worth) (defScope s_is_worth) .none kV5 dc5 pm5 an5 cd5 ct5), sl5⟩) (c5 : PySem.W.codeIn K cd5 "is_worth" = true) (k5 : PySem.W.keepIn K (.ref f5) = true)
    (a6 : PySem.W.nsIn K mainGlobals "last_up_to" = some (some (.ref f6)))
    (l6 : K.lookup f6 = some ⟨oc6, od6, .func (PySem.W.fnOf "last_up_to" "last_up_to" (defArgs s_last_up_to) (defBody s_last_up_to) (defScope s_last_up_to) .none kV6 dc6 pm6 an6 cd6 ct6), sl6⟩) (c6 : PySem.W.codeIn K cd6 "last_up_to" = true) (k6 : PySem.W.keepIn K (.ref f6) = true)
    (a7 : PySem.W.nsIn K mainGlobals "shaped" = some (some (.ref f7)))
    (l7 : K.lookup f7 = some ⟨oc7, od7, .func (PySem.W.fnOf "shaped" "shaped" (defArgs s_shaped) (defBody s_shaped) (defScope s_shaped) .none kV7 dc7 pm7 an7 cd7 ct7), sl7⟩) (c7 : PySem.W.codeIn K cd7 "shaped" = true) (k7 : PySem.W.keepIn K (.ref f7) = true)
    (a8 : PySem.W.nsIn K mainGlobals "is_row" = some (some (.ref f8)))
    (l8 : K.lookup f8 = some ⟨oc8, od8, .func (PySem.W.fnOf "is_row" "is_row" (defArgs s_is_row) (defBody s_is_row) (defScope s_is_row) .none kV8 dc8 pm8 an8 cd8 ct8), sl8⟩) (c8 : PySem.W.codeIn K cd8 "is_row" = true) (k8 : PySem.W.keepIn K (.ref f8) = true)
    (a9 : PySem.W.nsIn K mainGlobals "is_dealing_row" = some (some (.ref f9)))
    (l9 : K.lookup f9 = some ⟨oc9, od9, .func (PySem.W.fnOf "is_dealing_row" "is_dealing_row" (defArgs s_is_dealing_row) (defBody s_is_dealing_row) (defScope s_is_dealing_row) .none kV9 dc9 pm9 an9 cd9 ct9), sl9⟩) (c9 : PySem.W.codeIn K cd9 "is_dealing_row" = true) (k9 : PySem.W.keepIn K (.ref f9) = true)
    (a10 : PySem.W.nsIn K mainGlobals "is_read_row" = some (some (.ref f10)))
    (l10 : K.lookup f10 = some ⟨oc10, od10, .func (PySem.W.fnOf "is_read_row" "is_read_row" (defArgs s_is_read_row) (defBody s_is_read_row) (defScope s_is_read_row) .none kV10 dc10 pm10 an10 cd10 ct10), sl10⟩) (c10 : PySem.W.codeIn K cd10 "is_read_row" = true) (k10 : PySem.W.keepIn K (.ref f10) = true)
    (a11 : PySem.W.nsIn K mainGlobals "is_told_worth" = some (some (.ref f11)))
    (l11 : K.lookup f11 = some ⟨oc11, od11, .func (PySem.W.fnOf "is_told_worth" "is_told_worth" (defArgs s_is_told_worth) (defBody s_is_told_worth) (defScope s_is_told_worth) .none kV11 dc11 pm11 an11 cd11 ct11), sl11⟩) (c11 : PySem.W.codeIn K cd11 "is_told_worth" = true) (k11 : PySem.W.keepIn K (.ref f11) = true)
    (a12 : PySem.W.nsIn K mainGlobals "is_list_of_pairs" = some (some (.ref f12)))
    (l12 : K.lookup f12 = some ⟨oc12, od12, .func (PySem.W.fnOf "is_list_of_pairs" "is_list_of_pairs" (defArgs s_is_list_of_pairs) (defBody s_is_list_of_pairs) (defScope s_is_list_of_pairs) .none kV12 dc12 pm12 an12 cd12 ct12), sl12⟩) (c12 : PySem.W.codeIn K cd12 "is_list_of_pairs" = true) (k12 : PySem.W.keepIn K (.ref f12) = true)
    (a13 : PySem.W.nsIn K mainGlobals "are_unlike" = some (some (.ref f13)))
    (l13 : K.lookup f13 = some ⟨oc13, od13, .func (PySem.W.fnOf "are_unlike" "are_unlike" (defArgs s_are_unlike) (defBody s_are_unlike) (defScope s_are_unlike) .none kV13 dc13 pm13 an13 cd13 ct13), sl13⟩) (c13 : PySem.W.codeIn K cd13 "are_unlike" = true) (k13 : PySem.W.keepIn K (.ref f13) = true)
    (a14 : PySem.W.nsIn K mainGlobals "have_unlike_keys" = some (some (.ref f14)))
    (l14 : K.lookup f14 = some ⟨oc14, od14, .func (PySem.W.fnOf "have_unlike_keys" "have_unlike_keys" (defArgs s_have_unlike_keys) (defBody s_have_unlike_keys) (defScope s_have_unlike_keys) .none kV14 dc14 pm14 an14 cd14 ct14), sl14⟩) (c14 : PySem.W.codeIn K cd14 "have_unlike_keys" = true) (k14 : PySem.W.keepIn K (.ref f14) = true)
    (a15 : PySem.W.nsIn K mainGlobals "of_word" = some (some (.ref f15)))
    (l15 : K.lookup f15 = some ⟨oc15, od15, .func (PySem.W.fnOf "of_word" "of_word" (defArgs s_of_word) (defBody s_of_word) (defScope s_of_word) .none kV15 dc15 pm15 an15 cd15 ct15), sl15⟩) (c15 : PySem.W.codeIn K cd15 "of_word" = true) (k15 : PySem.W.keepIn K (.ref f15) = true)
    (a16 : PySem.W.nsIn K mainGlobals "dealings_by_stamps" = some (some (.ref f16)))
    (l16 : K.lookup f16 = some ⟨oc16, od16, .func (PySem.W.fnOf "dealings_by_stamps" "dealings_by_stamps" (defArgs s_dealings_by_stamps) (defBody s_dealings_by_stamps) (defScope s_dealings_by_stamps) .none kV16 dc16 pm16 an16 (.ref kc16) ct16), sl16⟩) (c16 : PySem.W.codeIn K (.ref kc16) "dealings_by_stamps" = true) (k16 : PySem.W.keepIn K (.ref f16) = true)
    (a17 : PySem.W.nsIn K mainGlobals "are_fit" = some (some (.ref f17)))
    (l17 : K.lookup f17 = some ⟨oc17, od17, .func (PySem.W.fnOf "are_fit" "are_fit" (defArgs s_are_fit) (defBody s_are_fit) (defScope s_are_fit) .none kV17 dc17 pm17 an17 cd17 ct17), sl17⟩) (c17 : PySem.W.codeIn K cd17 "are_fit" = true) (k17 : PySem.W.keepIn K (.ref f17) = true)
    (a18 : PySem.W.nsIn K mainGlobals "go_as_true_time" = some (some (.ref f18)))
    (l18 : K.lookup f18 = some ⟨oc18, od18, .func (PySem.W.fnOf "go_as_true_time" "go_as_true_time" (defArgs s_go_as_true_time) (defBody s_go_as_true_time) (defScope s_go_as_true_time) .none kV18 dc18 pm18 an18 cd18 ct18), sl18⟩) (c18 : PySem.W.codeIn K cd18 "go_as_true_time" = true) (k18 : PySem.W.keepIn K (.ref f18) = true)
    (a19 : PySem.W.nsIn K mainGlobals "read_what_was_written" = some (some (.ref f19)))
    (l19 : K.lookup f19 = some ⟨oc19, od19, .func (PySem.W.fnOf "read_what_was_written" "read_what_was_written" (defArgs s_read_what_was_written) (defBody s_read_what_was_written) (defScope s_read_what_was_written) .none kV19 dc19 pm19 an19 cd19 ct19), sl19⟩) (c19 : PySem.W.codeIn K cd19 "read_what_was_written" = true) (k19 : PySem.W.keepIn K (.ref f19) = true)
    (a20 : PySem.W.nsIn K mainGlobals "versions_by_keys" = some (some (.ref f20)))
    (l20 : K.lookup f20 = some ⟨oc20, od20, .func (PySem.W.fnOf "versions_by_keys" "versions_by_keys" (defArgs s_versions_by_keys) (defBody s_versions_by_keys) (defScope s_versions_by_keys) .none kV20 dc20 pm20 an20 cd20 ct20), sl20⟩) (c20 : PySem.W.codeIn K cd20 "versions_by_keys" = true) (k20 : PySem.W.keepIn K (.ref f20) = true)
    (a21 : PySem.W.nsIn K mainGlobals "forms_by_times" = some (some (.ref f21)))
    (l21 : K.lookup f21 = some ⟨oc21, od21, .func (PySem.W.fnOf "forms_by_times" "forms_by_times" (defArgs s_forms_by_times) (defBody s_forms_by_times) (defScope s_forms_by_times) .none kV21 dc21 pm21 an21 (.ref kc21) ct21), sl21⟩) (c21 : PySem.W.codeIn K (.ref kc21) "forms_by_times" = true) (k21 : PySem.W.keepIn K (.ref f21) = true)
    (a22 : PySem.W.nsIn K mainGlobals "lacks_one_told" = some (some (.ref f22)))
    (l22 : K.lookup f22 = some ⟨oc22, od22, .func (PySem.W.fnOf "lacks_one_told" "lacks_one_told" (defArgs s_lacks_one_told) (defBody s_lacks_one_told) (defScope s_lacks_one_told) .none kV22 dc22 pm22 an22 cd22 ct22), sl22⟩) (c22 : PySem.W.codeIn K cd22 "lacks_one_told" = true) (k22 : PySem.W.keepIn K (.ref f22) = true)
    (a23 : PySem.W.nsIn K mainGlobals "are_reads_right" = some (some (.ref f23)))
    (l23 : K.lookup f23 = some ⟨oc23, od23, .func (PySem.W.fnOf "are_reads_right" "are_reads_right" (defArgs s_are_reads_right) (defBody s_are_reads_right) (defScope s_are_reads_right) .none kV23 dc23 pm23 an23 cd23 ct23), sl23⟩) (c23 : PySem.W.codeIn K cd23 "are_reads_right" = true) (k23 : PySem.W.keepIn K (.ref f23) = true)
    (a24 : PySem.W.nsIn K mainGlobals "is_ordered" = some (some (.ref f24)))
    (l24 : K.lookup f24 = some ⟨oc24, od24, .func (PySem.W.fnOf "is_ordered" "is_ordered" (defArgs s_is_ordered) (defBody s_is_ordered) (defScope s_is_ordered) .none kV24 dc24 pm24 an24 cd24 ct24), sl24⟩) (c24 : PySem.W.codeIn K cd24 "is_ordered" = true) (k24 : PySem.W.keepIn K (.ref f24) = true)
    (a25 : PySem.W.nsIn K mainGlobals "_law_begun" = some (some (.ref f25)))
    (l25 : K.lookup f25 = some ⟨oc25, od25, .func (PySem.W.fnOf "_law_begun" "_law_begun" (defArgs s_l_begun) (defBody s_l_begun) (defScope s_l_begun) .none kV25 dc25 pm25 an25 cd25 ct25), sl25⟩) (c25 : PySem.W.codeIn K cd25 "_law_begun" = true) (k25 : PySem.W.keepIn K (.ref f25) = true)
    (a26 : PySem.W.nsIn K mainGlobals "_law_take" = some (some (.ref f26)))
    (l26 : K.lookup f26 = some ⟨oc26, od26, .func (PySem.W.fnOf "_law_take" "_law_take" (defArgs s_l_take) (defBody s_l_take) (defScope s_l_take) .none kV26 dc26 pm26 an26 cd26 ct26), sl26⟩) (c26 : PySem.W.codeIn K cd26 "_law_take" = true) (k26 : PySem.W.keepIn K (.ref f26) = true)
    (a27 : PySem.W.nsIn K mainGlobals "_law_formed" = some (some (.ref f27)))
    (l27 : K.lookup f27 = some ⟨oc27, od27, .func (PySem.W.fnOf "_law_formed" "_law_formed" (defArgs s_l_formed) (defBody s_l_formed) (defScope s_l_formed) .none kV27 dc27 pm27 an27 cd27 ct27), sl27⟩) (c27 : PySem.W.codeIn K cd27 "_law_formed" = true) (k27 : PySem.W.keepIn K (.ref f27) = true)
    (a28 : PySem.W.nsIn K mainGlobals "_law_fields" = some (some (.ref f28)))
    (l28 : K.lookup f28 = some ⟨oc28, od28, .func (PySem.W.fnOf "_law_fields" "_law_fields" (defArgs s_l_fields) (defBody s_l_fields) (defScope s_l_fields) .none kV28 dc28 pm28 an28 cd28 ct28), sl28⟩) (c28 : PySem.W.codeIn K cd28 "_law_fields" = true) (k28 : PySem.W.keepIn K (.ref f28) = true)
    (a29 : PySem.W.nsIn K mainGlobals "_law_worth_of" = some (some (.ref f29)))
    (l29 : K.lookup f29 = some ⟨oc29, od29, .func (PySem.W.fnOf "_law_worth_of" "_law_worth_of" (defArgs s_l_worth_of) (defBody s_l_worth_of) (defScope s_l_worth_of) .none kV29 dc29 pm29 an29 cd29 ct29), sl29⟩) (c29 : PySem.W.codeIn K cd29 "_law_worth_of" = true) (k29 : PySem.W.keepIn K (.ref f29) = true)
    (a30 : PySem.W.nsIn K mainGlobals "_law_pairs" = some (some (.ref f30)))
    (l30 : K.lookup f30 = some ⟨oc30, od30, .func (PySem.W.fnOf "_law_pairs" "_law_pairs" (defArgs s_l_pairs) (defBody s_l_pairs) (defScope s_l_pairs) .none kV30 dc30 pm30 an30 cd30 ct30), sl30⟩) (c30 : PySem.W.codeIn K cd30 "_law_pairs" = true) (k30 : PySem.W.keepIn K (.ref f30) = true)
    (a31 : PySem.W.nsIn K mainGlobals "_law_made" = some (some (.ref f31)))
    (l31 : K.lookup f31 = some ⟨oc31, od31, .func (PySem.W.fnOf "_law_made" "_law_made" (defArgs s_l_made) (defBody s_l_made) (defScope s_l_made) .none kV31 dc31 pm31 an31 cd31 ct31), sl31⟩) (c31 : PySem.W.codeIn K cd31 "_law_made" = true) (k31 : PySem.W.keepIn K (.ref f31) = true)
    (a32 : PySem.W.nsIn K mainGlobals "_law_reads" = some (some (.ref f32)))
    (l32 : K.lookup f32 = some ⟨oc32, od32, .func (PySem.W.fnOf "_law_reads" "_law_reads" (defArgs s_l_reads) (defBody s_l_reads) (defScope s_l_reads) .none kV32 dc32 pm32 an32 cd32 ct32), sl32⟩) (c32 : PySem.W.codeIn K cd32 "_law_reads" = true) (k32 : PySem.W.keepIn K (.ref f32) = true)
    (a33 : PySem.W.nsIn K mainGlobals "_law_history" = some (some (.ref f33)))
    (l33 : K.lookup f33 = some ⟨oc33, od33, .func (PySem.W.fnOf "_law_history" "_law_history" (defArgs s_l_history) (defBody s_l_history) (defScope s_l_history) .none kV33 dc33 pm33 an33 cd33 ct33), sl33⟩) (c33 : PySem.W.codeIn K cd33 "_law_history" = true) (k33 : PySem.W.keepIn K (.ref f33) = true)
    (a34 : PySem.W.nsIn K mainGlobals "_law_whole" = some (some (.ref f34)))
    (l34 : K.lookup f34 = some ⟨oc34, od34, .func (PySem.W.fnOf "_law_whole" "_law_whole" (defArgs s_l_whole) (defBody s_l_whole) (defScope s_l_whole) .none kV34 dc34 pm34 an34 cd34 ct34), sl34⟩) (c34 : PySem.W.codeIn K cd34 "_law_whole" = true) (k34 : PySem.W.keepIn K (.ref f34) = true)
    (a35 : PySem.W.nsIn K mainGlobals "_law_is_worth" = some (some (.ref f35)))
    (l35 : K.lookup f35 = some ⟨oc35, od35, .func (PySem.W.fnOf "_law_is_worth" "_law_is_worth" (defArgs s_l_is_worth) (defBody s_l_is_worth) (defScope s_l_is_worth) .none kV35 dc35 pm35 an35 cd35 ct35), sl35⟩) (c35 : PySem.W.codeIn K cd35 "_law_is_worth" = true) (k35 : PySem.W.keepIn K (.ref f35) = true)
    (a36 : PySem.W.nsIn K mainGlobals "_law_is_key" = some (some (.ref f36)))
    (l36 : K.lookup f36 = some ⟨oc36, od36, .func (PySem.W.fnOf "_law_is_key" "_law_is_key" (defArgs s_l_is_key) (defBody s_l_is_key) (defScope s_l_is_key) .none kV36 dc36 pm36 an36 cd36 ct36), sl36⟩) (c36 : PySem.W.codeIn K cd36 "_law_is_key" = true) (k36 : PySem.W.keepIn K (.ref f36) = true)
    (a37 : PySem.W.nsIn K mainGlobals "_law_are_pairs" = some (some (.ref f37)))
    (l37 : K.lookup f37 = some ⟨oc37, od37, .func (PySem.W.fnOf "_law_are_pairs" "_law_are_pairs" (defArgs s_l_are_pairs) (defBody s_l_are_pairs) (defScope s_l_are_pairs) .none kV37 dc37 pm37 an37 cd37 ct37), sl37⟩) (c37 : PySem.W.codeIn K cd37 "_law_are_pairs" = true) (k37 : PySem.W.keepIn K (.ref f37) = true)
    (a38 : PySem.W.nsIn K mainGlobals "_law_is_stamp" = some (some (.ref f38)))
    (l38 : K.lookup f38 = some ⟨oc38, od38, .func (PySem.W.fnOf "_law_is_stamp" "_law_is_stamp" (defArgs s_l_is_stamp) (defBody s_l_is_stamp) (defScope s_l_is_stamp) .none kV38 dc38 pm38 an38 cd38 ct38), sl38⟩) (c38 : PySem.W.codeIn K cd38 "_law_is_stamp" = true) (k38 : PySem.W.keepIn K (.ref f38) = true)
    (a39 : PySem.W.nsIn K mainGlobals "_law_is_told" = some (some (.ref f39)))
    (l39 : K.lookup f39 = some ⟨oc39, od39, .func (PySem.W.fnOf "_law_is_told" "_law_is_told" (defArgs s_l_is_told) (defBody s_l_is_told) (defScope s_l_is_told) .none kV39 dc39 pm39 an39 cd39 ct39), sl39⟩) (c39 : PySem.W.codeIn K cd39 "_law_is_told" = true) (k39 : PySem.W.keepIn K (.ref f39) = true)
    (a40 : PySem.W.nsIn K mainGlobals "_law_reading_fits" = some (some (.ref f40)))
    (l40 : K.lookup f40 = some ⟨oc40, od40, .func (PySem.W.fnOf "_law_reading_fits" "_law_reading_fits" (defArgs s_l_reading_fits) (defBody s_l_reading_fits) (defScope s_l_reading_fits) .none kV40 dc40 pm40 an40 cd40 ct40), sl40⟩) (c40 : PySem.W.codeIn K cd40 "_law_reading_fits" = true) (k40 : PySem.W.keepIn K (.ref f40) = true)
    (a41 : PySem.W.nsIn K mainGlobals "_law_is_ordered" = some (some (.ref f41)))
    (l41 : K.lookup f41 = some ⟨oc41, od41, .func (PySem.W.fnOf "_law_is_ordered" "_law_is_ordered" (defArgs s_l_is_ordered) (defBody s_l_is_ordered) (defScope s_l_is_ordered) .none kV41 dc41 pm41 an41 cd41 ct41), sl41⟩) (c41 : PySem.W.codeIn K cd41 "_law_is_ordered" = true) (k41 : PySem.W.keepIn K (.ref f41) = true)
    (a42 : PySem.W.nsIn K mainGlobals "_law_bent_deal" = some (some (.ref f42)))
    (l42 : K.lookup f42 = some ⟨oc42, od42, .func (PySem.W.fnOf "_law_bent_deal" "_law_bent_deal" (defArgs s_l_bent_deal) (defBody s_l_bent_deal) (defScope s_l_bent_deal) .none kV42 dc42 pm42 an42 cd42 ct42), sl42⟩) (c42 : PySem.W.codeIn K cd42 "_law_bent_deal" = true) (k42 : PySem.W.keepIn K (.ref f42) = true)
    (a43 : PySem.W.nsIn K mainGlobals "_law_bent" = some (some (.ref f43)))
    (l43 : K.lookup f43 = some ⟨oc43, od43, .func (PySem.W.fnOf "_law_bent" "_law_bent" (defArgs s_l_bent) (defBody s_l_bent) (defScope s_l_bent) .none kV43 dc43 pm43 an43 cd43 ct43), sl43⟩) (c43 : PySem.W.codeIn K cd43 "_law_bent" = true) (k43 : PySem.W.keepIn K (.ref f43) = true)
    (a44 : PySem.W.nsIn K mainGlobals "_law_right" = some (some (.ref f44)))
    (l44 : K.lookup f44 = some ⟨oc44, od44, .func (PySem.W.fnOf "_law_right" "_law_right" (defArgs s_l_right) (defBody s_l_right) (defScope s_l_right) .none kV44 dc44 pm44 an44 cd44 ct44), sl44⟩) (c44 : PySem.W.codeIn K cd44 "_law_right" = true) (k44 : PySem.W.keepIn K (.ref f44) = true)
    (a45 : PySem.W.nsIn K mainGlobals "_law_fixed_right" = some (some (.ref f45)))
    (l45 : K.lookup f45 = some ⟨oc45, od45, .func (PySem.W.fnOf "_law_fixed_right" "_law_fixed_right" (defArgs s_l_fixed_right) (defBody s_l_fixed_right) (defScope s_l_fixed_right) .none kV45 dc45 pm45 an45 cd45 ct45), sl45⟩) (c45 : PySem.W.codeIn K cd45 "_law_fixed_right" = true) (k45 : PySem.W.keepIn K (.ref f45) = true)
    (a46 : PySem.W.nsIn K mainGlobals "law" = some (some (.ref f46)))
    (l46 : K.lookup f46 = some ⟨oc46, od46, .func (PySem.W.fnOf "law" "law" (defArgs s_law) (defBody s_law) (defScope s_law) .none kV46 dc46 pm46 an46 cd46 ct46), sl46⟩) (c46 : PySem.W.codeIn K cd46 "law" = true) (k46 : PySem.W.keepIn K (.ref f46) = true)
    (z_max : PySem.W.nsIn K mainGlobals "max" = some none)
    (z_min : PySem.W.nsIn K mainGlobals "min" = some none)
    (z_len : PySem.W.nsIn K mainGlobals "len" = some none)
    (z_int : PySem.W.nsIn K mainGlobals "int" = some none)
    (z_range : PySem.W.nsIn K mainGlobals "range" = some none)
    (z_isinstance : PySem.W.nsIn K mainGlobals "isinstance" = some none)
    (z_tuple : PySem.W.nsIn K mainGlobals "tuple" = some none)
    (z_repr : PySem.W.nsIn K mainGlobals "repr" = some none)
    (z_list : PySem.W.nsIn K mainGlobals "list" = some none)
    (z_str : PySem.W.nsIn K mainGlobals "str" = some none)
    (z_sorted : PySem.W.nsIn K mainGlobals "sorted" = some none)
    (z_set : PySem.W.nsIn K mainGlobals "set" = some none)
    (z_dict : PySem.W.nsIn K mainGlobals "dict" = some none)
    (z_enumerate : PySem.W.nsIn K mainGlobals "enumerate" = some none)
    (z_reversed : PySem.W.nsIn K mainGlobals "reversed" = some none)
    (z_all : PySem.W.nsIn K mainGlobals "all" = some none)
    (z_any : PySem.W.nsIn K mainGlobals "any" = some none)
    (z_bool : PySem.W.nsIn K mainGlobals "bool" = some none)
    (hc16 : PySem.W.codeHdIn K kc16 (LM.tabOf K kc16) = true) (nt16 : K.lookup (LM.tabOf K kc16) = none) (tb16 : h.get? (LM.tabOf K kc16) = some (PySem.W.tabObj #[]))
    (hc21 : PySem.W.codeHdIn K kc21 (LM.tabOf K kc21) = true) (nt21 : K.lookup (LM.tabOf K kc21) = none) (tb21 : h.get? (LM.tabOf K kc21) = some (PySem.W.tabObj #[]))
    (neT : LM.tabOf K kc16 ≠ LM.tabOf K kc21)
    : ∃ (fd : FuncData) (cs : List (Addr × Addr)) (sp : Sp), (∀ p ∈ cs, h.get? p.2 = some (PySem.W.tabObj #[])) ∧ (∀ p ∈ cs, K.lookup p.2 = none) ∧ (∀ p ∈ cs, PySem.W.CodeHd h p.1 p.2) ∧ (∀ (s : Shared) (v : Value), BindsTo s fd ⟨[v], []⟩ [("_law_script", v)]) ∧
        (∀ (H : Hp) (a : Addr) (ns : List Int), ns.length ≤ 63 → (∀ p ∈ cs, H p.2 = some (.tbl #[])) → SqL K H a (ns.map V.int) → sp [.ref a] H (fun v _ => v = .bl true) fun _ _ _ => False) ∧
        ∀ base : Heap, K.In base → base.Ns mainGlobals mg → (∀ p ∈ cs, LamX.TabB base mg p.1 p.2) → FnG l.prog w K mg base 9 fa fd ["_law_script"] sp := by
  have e := hfa.symm.trans (PySem.W.mg_of X G a46)
  cases e
  have F0 := fun_mk (st := s_is_whole) l0 c0 k0
  have b0 := F0.binds (ps := ["thing"]) fun _ _ _ _ _ _ us hl => match us, hl with | [_], _ => rfl
  have F1 := fun_mk (st := s_is_from_to) l1 c1 k1
  have b1 := F1.binds (ps := ["thing", "least", "most"]) fun _ _ _ _ _ _ us hl => match us, hl with | [_, _, _], _ => rfl
  have F2 := fun_mk (st := s_is_row_of_whole) l2 c2 k2
  have b2 := F2.binds (ps := ["thing", "least", "most"]) fun _ _ _ _ _ _ us hl => match us, hl with | [_, _, _], _ => rfl
  have F3 := fun_mk (st := s_is_stamp) l3 c3 k3
  have b3 := F3.binds (ps := ["thing"]) fun _ _ _ _ _ _ us hl => match us, hl with | [_], _ => rfl
  have F4 := fun_mk (st := s_is_key) l4 c4 k4
  have b4 := F4.binds (ps := ["thing"]) fun _ _ _ _ _ _ us hl => match us, hl with | [_], _ => rfl
  have F5 := fun_mk (st := s_is_worth) l5 c5 k5
  have b5 := F5.binds (ps := ["thing"]) fun _ _ _ _ _ _ us hl => match us, hl with | [_], _ => rfl
  have F6 := fun_mk (st := s_last_up_to) l6 c6 k6
  have b6 := F6.binds (ps := ["rows", "time", "otherwise"]) fun _ _ _ _ _ _ us hl => match us, hl with | [_, _, _], _ => rfl
  have F7 := fun_mk (st := s_shaped) l7 c7 k7
  have b7 := F7.binds (ps := ["worth", "fields"]) fun _ _ _ _ _ _ us hl => match us, hl with | [_, _], _ => rfl
  have F8 := fun_mk (st := s_is_row) l8 c8 k8
  have b8 := F8.binds (ps := ["thing"]) fun _ _ _ _ _ _ us hl => match us, hl with | [_], _ => rfl
  have F9 := fun_mk (st := s_is_dealing_row) l9 c9 k9
  have b9 := F9.binds (ps := ["row"]) fun _ _ _ _ _ _ us hl => match us, hl with | [_], _ => rfl
  have F10 := fun_mk (st := s_is_read_row) l10 c10 k10
  have b10 := F10.binds (ps := ["row"]) fun _ _ _ _ _ _ us hl => match us, hl with | [_], _ => rfl
  have F11 := fun_mk (st := s_is_told_worth) l11 c11 k11
  have b11 := F11.binds (ps := ["thing", "or_none"]) fun _ _ _ _ _ _ us hl => match us, hl with | [_, _], _ => rfl
  have F12 := fun_mk (st := s_is_list_of_pairs) l12 c12 k12
  have b12 := F12.binds (ps := ["thing", "or_none"]) fun _ _ _ _ _ _ us hl => match us, hl with | [_, _], _ => rfl
  have F13 := fun_mk (st := s_are_unlike) l13 c13 k13
  have b13 := F13.binds (ps := ["things"]) fun _ _ _ _ _ _ us hl => match us, hl with | [_], _ => rfl
  have F14 := fun_mk (st := s_have_unlike_keys) l14 c14 k14
  have b14 := F14.binds (ps := ["pairs"]) fun _ _ _ _ _ _ us hl => match us, hl with | [_], _ => rfl
  have F15 := fun_mk (st := s_of_word) l15 c15 k15
  have b15 := F15.binds (ps := ["history", "word"]) fun _ _ _ _ _ _ us hl => match us, hl with | [_, _], _ => rfl
  have F16 : LM.FunC K "dealings_by_stamps" "dealings_by_stamps" s_dealings_by_stamps f16 (PySem.W.fnOf "dealings_by_stamps" "dealings_by_stamps" (defArgs s_dealings_by_stamps) (defBody s_dealings_by_stamps) (defScope s_dealings_by_stamps) .none kV16 dc16 pm16 an16 (.ref kc16) ct16) kc16 := ⟨⟨_, _, _, _, _, _, _, _, rfl, l16, c16⟩, k16⟩
  have b16 := F16.toFun.binds (ps := ["history"]) fun _ _ _ _ _ _ us hl => match us, hl with | [_], _ => rfl
  have F17 := fun_mk (st := s_are_fit) l17 c17 k17
  have b17 := F17.binds (ps := ["dealings"]) fun _ _ _ _ _ _ us hl => match us, hl with | [_], _ => rfl
  have F18 := fun_mk (st := s_go_as_true_time) l18 c18 k18
  have b18 := F18.binds (ps := ["dealings"]) fun _ _ _ _ _ _ us hl => match us, hl with | [_], _ => rfl
  have F19 := fun_mk (st := s_read_what_was_written) l19 c19 k19
  have b19 := F19.binds (ps := ["dealings"]) fun _ _ _ _ _ _ us hl => match us, hl with | [_], _ => rfl
  have F20 := fun_mk (st := s_versions_by_keys) l20 c20 k20
  have b20 := F20.binds (ps := ["dealings"]) fun _ _ _ _ _ _ us hl => match us, hl with | [_], _ => rfl
  have F21 : LM.FunC K "forms_by_times" "forms_by_times" s_forms_by_times f21 (PySem.W.fnOf "forms_by_times" "forms_by_times" (defArgs s_forms_by_times) (defBody s_forms_by_times) (defScope s_forms_by_times) .none kV21 dc21 pm21 an21 (.ref kc21) ct21) kc21 := ⟨⟨_, _, _, _, _, _, _, _, rfl, l21, c21⟩, k21⟩
  have b21 := F21.toFun.binds (ps := ["history"]) fun _ _ _ _ _ _ us hl => match us, hl with | [_], _ => rfl
  have F22 := fun_mk (st := s_lacks_one_told) l22 c22 k22
  have b22 := F22.binds (ps := ["dealings", "asked", "time"]) fun _ _ _ _ _ _ us hl => match us, hl with | [_, _, _], _ => rfl
  have F23 := fun_mk (st := s_are_reads_right) l23 c23 k23
  have b23 := F23.binds (ps := ["history", "dealings"]) fun _ _ _ _ _ _ us hl => match us, hl with | [_, _], _ => rfl
  have F24 := fun_mk (st := s_is_ordered) l24 c24 k24
  have b24 := F24.binds (ps := ["thing"]) fun _ _ _ _ _ _ us hl => match us, hl with | [_], _ => rfl
  have F25 := fun_mk (st := s_l_begun) l25 c25 k25
  have b25 := F25.binds (ps := ["_law_script", "_law_k"]) fun _ _ _ _ _ _ us hl => match us, hl with | [_, _], _ => rfl
  have F26 := fun_mk (st := s_l_take) l26 c26 k26
  have b26 := F26.binds (ps := ["_law_state", "_law_many"]) fun _ _ _ _ _ _ us hl => match us, hl with | [_, _], _ => rfl
  have F27 := fun_mk (st := s_l_formed) l27 c27 k27
  have b27 := F27.binds (ps := ["_law_worth", "_law_fields_here"]) fun _ _ _ _ _ _ us hl => match us, hl with | [_, _], _ => rfl
  have F28 := fun_mk (st := s_l_fields) l28 c28 k28
  have b28 := F28.binds (ps := ["_law_history_here", "_law_time"]) fun _ _ _ _ _ _ us hl => match us, hl with | [_, _], _ => rfl
  have F29 := fun_mk (st := s_l_worth_of) l29 c29 k29
  have b29 := F29.binds (ps := ["_law_deals", "_law_key", "_law_most"]) fun _ _ _ _ _ _ us hl => match us, hl with | [_, _, _], _ => rfl
  have F30 := fun_mk (st := s_l_pairs) l30 c30 k30
  have b30 := F30.binds (ps := ["_law_state", "_law_some"]) fun _ _ _ _ _ _ us hl => match us, hl with | [_, _], _ => rfl
  have F31 := fun_mk (st := s_l_made) l31 c31 k31
  have b31 := F31.binds (ps := ["_law_state", "_law_size"]) fun _ _ _ _ _ _ us hl => match us, hl with | [_, _], _ => rfl
  have F32 := fun_mk (st := s_l_reads) l32 c32 k32
  have b32 := F32.binds (ps := ["_law_state", "_law_deals", "_law_history_here"]) fun _ _ _ _ _ _ us hl => match us, hl with | [_, _, _], _ => rfl
  have F33 := fun_mk (st := s_l_history) l33 c33 k33
  have b33 := F33.binds (ps := ["_law_state"]) fun _ _ _ _ _ _ us hl => match us, hl with | [_], _ => rfl
  have F34 := fun_mk (st := s_l_whole) l34 c34 k34
  have b34 := F34.binds (ps := ["_law_thing"]) fun _ _ _ _ _ _ us hl => match us, hl with | [_], _ => rfl
  have F35 := fun_mk (st := s_l_is_worth) l35 c35 k35
  have b35 := F35.binds (ps := ["_law_thing"]) fun _ _ _ _ _ _ us hl => match us, hl with | [_], _ => rfl
  have F36 := fun_mk (st := s_l_is_key) l36 c36 k36
  have b36 := F36.binds (ps := ["_law_thing"]) fun _ _ _ _ _ _ us hl => match us, hl with | [_], _ => rfl
  have F37 := fun_mk (st := s_l_are_pairs) l37 c37 k37
  have b37 := F37.binds (ps := ["_law_thing", "_law_or_none"]) fun _ _ _ _ _ _ us hl => match us, hl with | [_, _], _ => rfl
  have F38 := fun_mk (st := s_l_is_stamp) l38 c38 k38
  have b38 := F38.binds (ps := ["_law_thing"]) fun _ _ _ _ _ _ us hl => match us, hl with | [_], _ => rfl
  have F39 := fun_mk (st := s_l_is_told) l39 c39 k39
  have b39 := F39.binds (ps := ["_law_thing"]) fun _ _ _ _ _ _ us hl => match us, hl with | [_], _ => rfl
  have F40 := fun_mk (st := s_l_reading_fits) l40 c40 k40
  have b40 := F40.binds (ps := ["_law_history_here", "_law_deals", "_law_one"]) fun _ _ _ _ _ _ us hl => match us, hl with | [_, _, _], _ => rfl
  have F41 := fun_mk (st := s_l_is_ordered) l41 c41 k41
  have b41 := F41.binds (ps := ["_law_thing"]) fun _ _ _ _ _ _ us hl => match us, hl with | [_], _ => rfl
  have F42 := fun_mk (st := s_l_bent_deal) l42 c42 k42
  have b42 := F42.binds (ps := ["_law_state", "_law_one"]) fun _ _ _ _ _ _ us hl => match us, hl with | [_, _], _ => rfl
  have F43 := fun_mk (st := s_l_bent) l43 c43 k43
  have b43 := F43.binds (ps := ["_law_state", "_law_history_here"]) fun _ _ _ _ _ _ us hl => match us, hl with | [_, _], _ => rfl
  have F44 := fun_mk (st := s_l_right) l44 c44 k44
  have b44 := F44.binds (ps := ["_law_history_here"]) fun _ _ _ _ _ _ us hl => match us, hl with | [_], _ => rfl
  have F45 := fun_mk (st := s_l_fixed_right) l45 c45 k45
  have b45 := F45.binds (ps := []) fun _ _ _ _ _ _ us hl => match us, hl with | [], _ => rfl
  have F46 := fun_mk (st := s_law) l46 c46 k46
  have b46 := F46.binds (ps := ["_law_script"]) fun _ _ _ _ _ _ us hl => match us, hl with | [_], _ => rfl
  let a : Nat → Addr := fun i => match i with | 0 => f0 | 1 => f1 | 2 => f2 | 3 => f3 | 4 => f4 | 5 => f5 | 6 => f6 | 7 => f7 | 8 => f8 | 9 => f9 | 10 => f10 | 11 => f11 | 12 => f12 | 13 => f13 | 14 => f14 | 15 => f15 | 16 => f16 | 17 => f17 | 18 => f18 | 19 => f19 | 20 => f20 | 21 => f21 | 22 => f22 | 23 => f23 | 24 => f24 | 25 => f25 | 26 => f26 | 27 => f27 | 28 => f28 | 29 => f29 | 30 => f30 | 31 => f31 | 32 => f32 | 33 => f33 | 34 => f34 | 35 => f35 | 36 => f36 | 37 => f37 | 38 => f38 | 39 => f39 | 40 => f40 | 41 => f41 | 42 => f42 | 43 => f43 | 44 => f44 | 45 => f45 | 46 => fa | 90 => kc16 | 91 => LM.tabOf K kc16 | 92 => kc21 | 93 => LM.tabOf K kc21 | _ => 0
  let d : Nat → FuncData := fun i => match i with | 0 => (PySem.W.fnOf "is_whole" "is_whole" (defArgs s_is_whole) (defBody s_is_whole) (defScope s_is_whole) .none kV0 dc0 pm0 an0 cd0 ct0) | 1 => (PySem.W.fnOf "is_from_to" "is_from_to" (defArgs s_is_from_to) (defBody s_is_from_to) (defScope s_is_from_to) .none kV1 dc1 pm1 an1 cd1 ct1) | 2 => (PySem.W.fnOf "is_row_of_whole" "is_row_of_whole" (defArgs s_is_row_of_whole) (defBody s_is_row_of_whole) (defScope s_is_row_of_whole) .none kV2 dc2 pm2 an2 cd2 ct2) | 3 => (PySem.W.fnOf "is_stamp" "is_stamp" (defArgs s_is_stamp) (defBody s_is_stamp) (defScope s_is_stamp) .none kV3 dc3 pm3 an3 cd3 ct3) | 4 => (PySem.W.fnOf "is_key" "is_key" (defArgs s_is_key) (defBody s_is_key) (defScope s_is_key) .none kV4 dc4 pm4 an4 cd4 ct4) | 5 => (PySem.W.fnOf "is_worth" "is_worth" (defArgs s_is_worth) (defBody s_is_worth) (defScope s_is_worth) .none kV5 dc5 pm5 an5 cd5 ct5) | 6 => (PySem.W.fnOf "last_up_to" "last_up_to" (defArgs s_last_up_to) (defBody s_last_up_to) (defScope s_last_up_to) .none kV6 dc6 pm6 an6 cd6 ct6) | 7 => (PySem.W.fnOf "shaped" "shaped" (defArgs s_shaped) (defBody s_shaped) (defScope s_shaped) .none kV7 dc7 pm7 an7 cd7 ct7) | 8 => (PySem.W.fnOf "is_row" "is_row" (defArgs s_is_row) (defBody s_is_row) (defScope s_is_row) .none kV8 dc8 pm8 an8 cd8 ct8) | 9 => (PySem.W.fnOf "is_dealing_row" "is_dealing_row" (defArgs s_is_dealing_row) (defBody s_is_dealing_row) (defScope s_is_dealing_row) .none kV9 dc9 pm9 an9 cd9 ct9) | 10 => (PySem.W.fnOf "is_read_row" "is_read_row" (defArgs s_is_read_row) (defBody s_is_read_row) (defScope s_is_read_row) .none kV10 dc10 pm10 an10 cd10 ct10) | 11 => (PySem.W.fnOf "is_told_worth" "is_told_worth" (defArgs s_is_told_worth) (defBody s_is_told_worth) (defScope s_is_told_worth) .none kV11 dc11 pm11 an11 cd11 ct11) | 12 => (PySem.W.fnOf "is_list_of_pairs" "is_list_of_pairs" (defArgs s_is_list_of_pairs) (defBody s_is_list_of_pairs) (defScope s_is_list_of_pairs) .none kV12 dc12 pm12 an12 cd12 ct12) | 13 => (PySem.W.fnOf "are_unlike" "are_unlike" (defArgs s_are_unlike) (defBody s_are_unlike) (defScope s_are_unlike) .none kV13 dc13 pm13 an13 cd13 ct13) | 14 => (PySem.W.fnOf "have_unlike_keys" "have_unlike_keys" (defArgs s_have_unlike_keys) (defBody s_have_unlike_keys) (defScope s_have_unlike_keys) .none kV14 dc14 pm14 an14 cd14 ct14) | 15 => (PySem.W.fnOf "of_word" "of_word" (defArgs s_of_word) (defBody s_of_word) (defScope s_of_word) .none kV15 dc15 pm15 an15 cd15 ct15) | 16 => (PySem.W.fnOf "dealings_by_stamps" "dealings_by_stamps" (defArgs s_dealings_by_stamps) (defBody s_dealings_by_stamps) (defScope s_dealings_by_stamps) .none kV16 dc16 pm16 an16 (.ref kc16) ct16) | 17 => (PySem.W.fnOf "are_fit" "are_fit" (defArgs s_are_fit) (defBody s_are_fit) (defScope s_are_fit) .none kV17 dc17 pm17 an17 cd17 ct17) | 18 => (PySem.W.fnOf "go_as_true_time" "go_as_true_time" (defArgs s_go_as_true_time) (defBody s_go_as_true_time) (defScope s_go_as_true_time) .none kV18 dc18 pm18 an18 cd18 ct18) | 19 => (PySem.W.fnOf "read_what_was_written" "read_what_was_written" (defArgs s_read_what_was_written) (defBody s_read_what_was_written) (defScope s_read_what_was_written) .none kV19 dc19 pm19 an19 cd19 ct19) | 20 => (PySem.W.fnOf "versions_by_keys" "versions_by_keys" (defArgs s_versions_by_keys) (defBody s_versions_by_keys) (defScope s_versions_by_keys) .none kV20 dc20 pm20 an20 cd20 ct20) | 21 => (PySem.W.fnOf "forms_by_times" "forms_by_times" (defArgs s_forms_by_times) (defBody s_forms_by_times) (defScope s_forms_by_times) .none kV21 dc21 pm21 an21 (.ref kc21) ct21) | 22 => (PySem.W.fnOf "lacks_one_told" "lacks_one_told" (defArgs s_lacks_one_told) (defBody s_lacks_one_told) (defScope s_lacks_one_told) .none kV22 dc22 pm22 an22 cd22 ct22) | 23 => (PySem.W.fnOf "are_reads_right" "are_reads_right" (defArgs s_are_reads_right) (defBody s_are_reads_right) (defScope s_are_reads_right) .none kV23 dc23 pm23 an23 cd23 ct23) | 24 => (PySem.W.fnOf "is_ordered" "is_ordered" (defArgs s_is_ordered) (defBody s_is_ordered) (defScope s_is_ordered) .none kV24 dc24 pm24 an24 cd24 ct24) | 25 => (PySem.W.fnOf "_law_begun" "_law_begun" (defArgs s_l_begun) (defBody s_l_begun) (defScope s_l_begun) .none kV25 dc25 pm25 an25 cd25 ct25) | 26 => (PySem.W.fnOf "_law_take" "_law_take" (defArgs s_l_take) (defBody s_l_take) (defScope s_l_take) .none kV26 dc26 pm26 an26 cd26 ct26) | 27 => (PySem.W.fnOf "_law_formed" "_law_formed" (defArgs s_l_formed) (defBody s_l_formed) (defScope s_l_formed) .none kV27 dc27 pm27 an27 cd27 ct27) | 28 => (PySem.W.fnOf "_law_fields" "_law_fields" (defArgs s_l_fields) (defBody s_l_fields) (defScope s_l_fields) .none kV28 dc28 pm28 an28 cd28 ct28) | 29 => (PySem.W.fnOf "_law_worth_of" "_law_worth_of" (defArgs s_l_worth_of) (defBody s_l_worth_of) (defScope s_l_worth_of) .none kV29 dc29 pm29 an29 cd29 ct29) | 30 => (PySem.W.fnOf "_law_pairs" "_law_pairs" (defArgs s_l_pairs) (defBody s_l_pairs) (defScope s_l_pairs) .none kV30 dc30 pm30 an30 cd30 ct30) | 31 => (PySem.W.fnOf "_law_made" "_law_made" (defArgs s_l_made) (defBody s_l_made) (defScope s_l_made) .none kV31 dc31 pm31 an31 cd31 ct31) | 32 => (PySem.W.fnOf "_law_reads" "_law_reads" (defArgs s_l_reads) (defBody s_l_reads) (defScope s_l_reads) .none kV32 dc32 pm32 an32 cd32 ct32) | 33 => (PySem.W.fnOf "_law_history" "_law_history" (defArgs s_l_history) (defBody s_l_history) (defScope s_l_history) .none kV33 dc33 pm33 an33 cd33 ct33) | 34 => (PySem.W.fnOf "_law_whole" "_law_whole" (defArgs s_l_whole) (defBody s_l_whole) (defScope s_l_whole) .none kV34 dc34 pm34 an34 cd34 ct34) | 35 => (PySem.W.fnOf "_law_is_worth" "_law_is_worth" (defArgs s_l_is_worth) (defBody s_l_is_worth) (defScope s_l_is_worth) .none kV35 dc35 pm35 an35 cd35 ct35) | 36 => (PySem.W.fnOf "_law_is_key" "_law_is_key" (defArgs s_l_is_key) (defBody s_l_is_key) (defScope s_l_is_key) .none kV36 dc36 pm36 an36 cd36 ct36) | 37 => (PySem.W.fnOf "_law_are_pairs" "_law_are_pairs" (defArgs s_l_are_pairs) (defBody s_l_are_pairs) (defScope s_l_are_pairs) .none kV37 dc37 pm37 an37 cd37 ct37) | 38 => (PySem.W.fnOf "_law_is_stamp" "_law_is_stamp" (defArgs s_l_is_stamp) (defBody s_l_is_stamp) (defScope s_l_is_stamp) .none kV38 dc38 pm38 an38 cd38 ct38) | 39 => (PySem.W.fnOf "_law_is_told" "_law_is_told" (defArgs s_l_is_told) (defBody s_l_is_told) (defScope s_l_is_told) .none kV39 dc39 pm39 an39 cd39 ct39) | 40 => (PySem.W.fnOf "_law_reading_fits" "_law_reading_fits" (defArgs s_l_reading_fits) (defBody s_l_reading_fits) (defScope s_l_reading_fits) .none kV40 dc40 pm40 an40 cd40 ct40) | 41 => (PySem.W.fnOf "_law_is_ordered" "_law_is_ordered" (defArgs s_l_is_ordered) (defBody s_l_is_ordered) (defScope s_l_is_ordered) .none kV41 dc41 pm41 an41 cd41 ct41) | 42 => (PySem.W.fnOf "_law_bent_deal" "_law_bent_deal" (defArgs s_l_bent_deal) (defBody s_l_bent_deal) (defScope s_l_bent_deal) .none kV42 dc42 pm42 an42 cd42 ct42) | 43 => (PySem.W.fnOf "_law_bent" "_law_bent" (defArgs s_l_bent) (defBody s_l_bent) (defScope s_l_bent) .none kV43 dc43 pm43 an43 cd43 ct43) | 44 => (PySem.W.fnOf "_law_right" "_law_right" (defArgs s_l_right) (defBody s_l_right) (defScope s_l_right) .none kV44 dc44 pm44 an44 cd44 ct44) | 45 => (PySem.W.fnOf "_law_fixed_right" "_law_fixed_right" (defArgs s_l_fixed_right) (defBody s_l_fixed_right) (defScope s_l_fixed_right) .none kV45 dc45 pm45 an45 cd45 ct45) | 46 => (PySem.W.fnOf "law" "law" (defArgs s_law) (defBody s_law) (defScope s_law) .none kV46 dc46 pm46 an46 cd46 ct46) | _ => (PySem.W.fnOf "law" "law" (defArgs s_law) (defBody s_law) (defScope s_law) .none kV46 dc46 pm46 an46 cd46 ct46)
  have T : Txt K mg a d := ⟨PySem.W.mg_of X G a0, F0, b0, PySem.W.mg_of X G a1, F1, b1, PySem.W.mg_of X G a2, F2, b2, PySem.W.mg_of X G a3, F3, b3, PySem.W.mg_of X G a4, F4, b4, PySem.W.mg_of X G a5, F5, b5, PySem.W.mg_of X G a6, F6, b6, PySem.W.mg_of X G a7, F7, b7, PySem.W.mg_of X G a8, F8, b8, PySem.W.mg_of X G a9, F9, b9, PySem.W.mg_of X G a10, F10, b10, PySem.W.mg_of X G a11, F11, b11, PySem.W.mg_of X G a12, F12, b12, PySem.W.mg_of X G a13, F13, b13, PySem.W.mg_of X G a14, F14, b14, PySem.W.mg_of X G a15, F15, b15, PySem.W.mg_of X G a16, F16, b16, PySem.W.mg_of X G a17, F17, b17, PySem.W.mg_of X G a18, F18, b18, PySem.W.mg_of X G a19, F19, b19, PySem.W.mg_of X G a20, F20, b20, PySem.W.mg_of X G a21, F21, b21, PySem.W.mg_of X G a22, F22, b22, PySem.W.mg_of X G a23, F23, b23, PySem.W.mg_of X G a24, F24, b24, PySem.W.mg_of X G a25, F25, b25, PySem.W.mg_of X G a26, F26, b26, PySem.W.mg_of X G a27, F27, b27, PySem.W.mg_of X G a28, F28, b28, PySem.W.mg_of X G a29, F29, b29, PySem.W.mg_of X G a30, F30, b30, PySem.W.mg_of X G a31, F31, b31, PySem.W.mg_of X G a32, F32, b32, PySem.W.mg_of X G a33, F33, b33, PySem.W.mg_of X G a34, F34, b34, PySem.W.mg_of X G a35, F35, b35, PySem.W.mg_of X G a36, F36, b36, PySem.W.mg_of X G a37, F37, b37, PySem.W.mg_of X G a38, F38, b38, PySem.W.mg_of X G a39, F39, b39, PySem.W.mg_of X G a40, F40, b40, PySem.W.mg_of X G a41, F41, b41, PySem.W.mg_of X G a42, F42, b42, PySem.W.mg_of X G a43, F43, b43, PySem.W.mg_of X G a44, F44, b44, PySem.W.mg_of X G a45, F45, b45, PySem.W.mg_of X G a46, F46, b46, ⟨_, PySem.W.mg_of X G g47⟩, ⟨_, PySem.W.mg_of X G g48⟩, ⟨_, PySem.W.mg_of X G g49⟩, ⟨_, PySem.W.mg_of X G g50⟩, ⟨_, PySem.W.mg_of X G g51⟩, ⟨_, PySem.W.mg_of X G g52⟩, ⟨_, PySem.W.mg_of X G g53⟩, ⟨_, PySem.W.mg_of X G g54⟩, ⟨_, PySem.W.mg_of X G g55⟩, ⟨_, PySem.W.mg_of X G g56⟩, PySem.W.mg_none_of X G z_max, PySem.W.mg_none_of X G z_min, PySem.W.mg_none_of X G z_len, PySem.W.mg_none_of X G z_int, PySem.W.mg_none_of X G z_range, PySem.W.mg_none_of X G z_isinstance, PySem.W.mg_none_of X G z_tuple, PySem.W.mg_none_of X G z_repr, PySem.W.mg_none_of X G z_list, PySem.W.mg_none_of X G z_str, PySem.W.mg_none_of X G z_sorted, PySem.W.mg_none_of X G z_set, PySem.W.mg_none_of X G z_dict, PySem.W.mg_none_of X G z_enumerate, PySem.W.mg_none_of X G z_reversed, PySem.W.mg_none_of X G z_all, PySem.W.mg_none_of X G z_any, PySem.W.mg_none_of X G z_bool⟩
  refine ⟨(PySem.W.fnOf "law" "law" (defArgs s_law) (defBody s_law) (defScope s_law) .none kV46 dc46 pm46 an46 cd46 ct46), [(kc16, LM.tabOf K kc16), (kc21, LM.tabOf K kc21)], spLaw K a, (fun p hp => by
    rcases List.mem_cons.mp hp with rfl | hp
    · exact tb16
    · cases List.mem_singleton.mp hp
      exact tb21), (fun p hp => by
    rcases List.mem_cons.mp hp with rfl | hp
    · exact nt16
    · cases List.mem_singleton.mp hp
      exact nt21), (fun p hp => by
    rcases List.mem_cons.mp hp with rfl | hp
    · exact PySem.W.codeHd_of_K X hc16
    · cases List.mem_singleton.mp hp
      exact PySem.W.codeHd_of_K X hc21), fun s v => .of_eq rfl, fun H x ns hl hH hS => ⟨x, ns, rfl, hS, hl, (fun p hp => by
    rcases List.mem_cons.mp hp with rfl | hp
    · exact LamX.TabS.nil (hH (kc16, LM.tabOf K kc16) (by simp))
    · cases List.mem_singleton.mp hp
      exact LamX.TabS.nil (hH (kc21, LM.tabOf K kc21) (by simp))), fun _ => rfl⟩, fun base _ _ hT => ok_law T ⟨hT (kc16, LM.tabOf K kc16) (by simp), hT (kc21, LM.tabOf K kc21) (by simp), neT⟩⟩
end M

open PySem PySem.W PyProof.Rows in
set_option maxRecDepth 100000 in
set_option maxHeartbeats 0 in
theorem PySem.Challenge.cw_stampedwait_k67_histories_looked_at_holds : PySem.Challenge.rw_stampedwait_k67_histories_looked_at.Holds := by
  w_on; o_law; k_head; (case hw => w_witness2)
  k_fill
  refine LM.walkGT (l := PySem.Challenge.rw_stampedwait_k67_histories_looked_at) (n := 63) (k := 9) (x := "_law_script") rfl (by decide) rfl ⟨rfl, by decide, by decide⟩ (fun w h Y => PySem.W.km_in_of Y) ?F
  case F =>
    intro w mg fa h Y KX G hmg
    refine' M.all_mk KX G hmg ?g47 ?g48 ?g49 ?g50 ?g51 ?g52 ?g53 ?g54 ?g55 ?g56 ?a0 ?l0 ?c0 ?k0 ?a1 ?l1 ?c1 ?k1 ?a2 ?l2 ?c2 ?k2 ?a3 ?l3 ?c3 ?k3 ?a4 ?l4 ?c4 ?k4 ?a5 ?l5 ?c5 ?k5 ?a6 ?l6 ?c6 ?k6 ?a7 ?l7 ?c7 ?k7 ?a8 ?l8 ?c8 ?k8 ?a9 ?l9 ?c9 ?k9 ?a10 ?l10 ?c10 ?k10 ?a11 ?l11 ?c11 ?k11 ?a12 ?l12 ?c12 ?k12 ?a13 ?l13 ?c13 ?k13 ?a14 ?l14 ?c14 ?k14 ?a15 ?l15 ?c15 ?k15 ?a16 ?l16 ?c16 ?k16 ?a17 ?l17 ?c17 ?k17 ?a18 ?l18 ?c18 ?k18 ?a19 ?l19 ?c19 ?k19 ?a20 ?l20 ?c20 ?k20 ?a21 ?l21 ?c21 ?k21 ?a22 ?l22 ?c22 ?k22 ?a23 ?l23 ?c23 ?k23 ?a24 ?l24 ?c24 ?k24 ?a25 ?l25 ?c25 ?k25 ?a26 ?l26 ?c26 ?k26 ?a27 ?l27 ?c27 ?k27 ?a28 ?l28 ?c28 ?k28 ?a29 ?l29 ?c29 ?k29 ?a30 ?l30 ?c30 ?k30 ?a31 ?l31 ?c31 ?k31 ?a32 ?l32 ?c32 ?k32 ?a33 ?l33 ?c33 ?k33 ?a34 ?l34 ?c34 ?k34 ?a35 ?l35 ?c35 ?k35 ?a36 ?l36 ?c36 ?k36 ?a37 ?l37 ?c37 ?k37 ?a38 ?l38 ?c38 ?k38 ?a39 ?l39 ?c39 ?k39 ?a40 ?l40 ?c40 ?k40 ?a41 ?l41 ?c41 ?k41 ?a42 ?l42 ?c42 ?k42 ?a43 ?l43 ?c43 ?k43 ?a44 ?l44 ?c44 ?k44 ?a45 ?l45 ?c45 ?k45 ?a46 ?l46 ?c46 ?k46 ?z_max ?z_min ?z_len ?z_int ?z_range ?z_isinstance ?z_tuple ?z_repr ?z_list ?z_str ?z_sorted ?z_set ?z_dict ?z_enumerate ?z_reversed ?z_all ?z_any ?z_bool ?hc16 ?nt16 ?tb16 ?hc21 ?nt21 ?tb21 ?neT
    (case g47 => k_is)
    (case g48 => k_is)
    (case g49 => k_is)
    (case g50 => k_is)
    (case g51 => k_is)
    (case g52 => k_is)
    (case g53 => k_is)
    (case g54 => k_is)
    (case g55 => k_is)
    (case g56 => k_is)
    (case a0 => k_is)
    (case l0 => k_is)
    (case c0 => k_is)
    (case k0 => k_is)
    (case a1 => k_is)
    (case l1 => k_is)
    (case c1 => k_is)
    (case k1 => k_is)
    (case a2 => k_is)
    (case l2 => k_is)
    (case c2 => k_is)
    (case k2 => k_is)
    (case a3 => k_is)
    (case l3 => k_is)
    (case c3 => k_is)
    (case k3 => k_is)
    (case a4 => k_is)
    (case l4 => k_is)
    (case c4 => k_is)
    (case k4 => k_is)
    (case a5 => k_is)
    (case l5 => k_is)
    (case c5 => k_is)
    (case k5 => k_is)
    (case a6 => k_is)
    (case l6 => k_is)
    (case c6 => k_is)
    (case k6 => k_is)
    (case a7 => k_is)
    (case l7 => k_is)
    (case c7 => k_is)
    (case k7 => k_is)
    (case a8 => k_is)
    (case l8 => k_is)
    (case c8 => k_is)
    (case k8 => k_is)
    (case a9 => k_is)
    (case l9 => k_is)
    (case c9 => k_is)
    (case k9 => k_is)
    (case a10 => k_is)
    (case l10 => k_is)
    (case c10 => k_is)
    (case k10 => k_is)
    (case a11 => k_is)
    (case l11 => k_is)
    (case c11 => k_is)
    (case k11 => k_is)
    (case a12 => k_is)
    (case l12 => k_is)
    (case c12 => k_is)
    (case k12 => k_is)
    (case a13 => k_is)
    (case l13 => k_is)
    (case c13 => k_is)
    (case k13 => k_is)
    (case a14 => k_is)
    (case l14 => k_is)
    (case c14 => k_is)
    (case k14 => k_is)
    (case a15 => k_is)
    (case l15 => k_is)
    (case c15 => k_is)
    (case k15 => k_is)
    (case a16 => k_is)
    (case l16 => k_is)
    (case c16 => k_is)
    (case k16 => k_is)
    (case a17 => k_is)
    (case l17 => k_is)
    (case c17 => k_is)
    (case k17 => k_is)
    (case a18 => k_is)
    (case l18 => k_is)
    (case c18 => k_is)
    (case k18 => k_is)
    (case a19 => k_is)
    (case l19 => k_is)
    (case c19 => k_is)
    (case k19 => k_is)
    (case a20 => k_is)
    (case l20 => k_is)
    (case c20 => k_is)
    (case k20 => k_is)
    (case a21 => k_is)
    (case l21 => k_is)
    (case c21 => k_is)
    (case k21 => k_is)
    (case a22 => k_is)
    (case l22 => k_is)
    (case c22 => k_is)
    (case k22 => k_is)
    (case a23 => k_is)
    (case l23 => k_is)
    (case c23 => k_is)
    (case k23 => k_is)
    (case a24 => k_is)
    (case l24 => k_is)
    (case c24 => k_is)
    (case k24 => k_is)
    (case a25 => k_is)
    (case l25 => k_is)
    (case c25 => k_is)
    (case k25 => k_is)
    (case a26 => k_is)
    (case l26 => k_is)
    (case c26 => k_is)
    (case k26 => k_is)
    (case a27 => k_is)
    (case l27 => k_is)
    (case c27 => k_is)
    (case k27 => k_is)
    (case a28 => k_is)
    (case l28 => k_is)
    (case c28 => k_is)
    (case k28 => k_is)
    (case a29 => k_is)
    (case l29 => k_is)
    (case c29 => k_is)
    (case k29 => k_is)
    (case a30 => k_is)
    (case l30 => k_is)
    (case c30 => k_is)
    (case k30 => k_is)
    (case a31 => k_is)
    (case l31 => k_is)
    (case c31 => k_is)
    (case k31 => k_is)
    (case a32 => k_is)
    (case l32 => k_is)
    (case c32 => k_is)
    (case k32 => k_is)
    (case a33 => k_is)
    (case l33 => k_is)
    (case c33 => k_is)
    (case k33 => k_is)
    (case a34 => k_is)
    (case l34 => k_is)
    (case c34 => k_is)
    (case k34 => k_is)
    (case a35 => k_is)
    (case l35 => k_is)
    (case c35 => k_is)
    (case k35 => k_is)
    (case a36 => k_is)
    (case l36 => k_is)
    (case c36 => k_is)
    (case k36 => k_is)
    (case a37 => k_is)
    (case l37 => k_is)
    (case c37 => k_is)
    (case k37 => k_is)
    (case a38 => k_is)
    (case l38 => k_is)
    (case c38 => k_is)
    (case k38 => k_is)
    (case a39 => k_is)
    (case l39 => k_is)
    (case c39 => k_is)
    (case k39 => k_is)
    (case a40 => k_is)
    (case l40 => k_is)
    (case c40 => k_is)
    (case k40 => k_is)
    (case a41 => k_is)
    (case l41 => k_is)
    (case c41 => k_is)
    (case k41 => k_is)
    (case a42 => k_is)
    (case l42 => k_is)
    (case c42 => k_is)
    (case k42 => k_is)
    (case a43 => k_is)
    (case l43 => k_is)
    (case c43 => k_is)
    (case k43 => k_is)
    (case a44 => k_is)
    (case l44 => k_is)
    (case c44 => k_is)
    (case k44 => k_is)
    (case a45 => k_is)
    (case l45 => k_is)
    (case c45 => k_is)
    (case k45 => k_is)
    (case a46 => k_is)
    (case l46 => k_is)
    (case c46 => k_is)
    (case k46 => k_is)
    (case z_max => k_is)
    (case z_min => k_is)
    (case z_len => k_is)
    (case z_int => k_is)
    (case z_range => k_is)
    (case z_isinstance => k_is)
    (case z_tuple => k_is)
    (case z_repr => k_is)
    (case z_list => k_is)
    (case z_str => k_is)
    (case z_sorted => k_is)
    (case z_set => k_is)
    (case z_dict => k_is)
    (case z_enumerate => k_is)
    (case z_reversed => k_is)
    (case z_all => k_is)
    (case z_any => k_is)
    (case z_bool => k_is)
    (case hc16 => kernel_rfl)
    (case nt16 => kernel_rfl)
    (case tb16 => exact PySem.W.km_tabs_of Y _ (List.mem_of_elem_eq_true (by kernel_rfl)))
    (case hc21 => kernel_rfl)
    (case nt21 => kernel_rfl)
    (case tb21 => exact PySem.W.km_tabs_of Y _ (List.mem_of_elem_eq_true (by kernel_rfl)))
    (case neT => exact Nat.ne_of_beq_eq_false (by kernel_rfl))
