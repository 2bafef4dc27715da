import PyProof.Rows.All
import Wide.All
import OpenK.AllK
import Wide.FinOn
import HandS.ForMost
import HandS.ForExc
import HandS.Wide
import HandS.IsInst
import HandS.Defaults
import HandS.Flow
import HandS.TupLe
import HandS.OwnEq
import HandS.More
import HandS.Small
import HandS.EndBits
import HandS.RaiseMore
import HandS.Walk
import HandS.Conv
import HandS.DictComp
import HandS.TupMul
import HandS.TupAny
import HandS.StrMore
import HandS.TupSets
import HandS.Strs
import HandS.Set
import HandS.SetKeys
import KE.SortData
import KE.DataMinMax
import HandS.Lambda
import HandS.EndTab
import HandS.NestedK
import HandS.Style
import HandS.Flt
import KE.KNestM
import KE.SortKeyHeap
import HandS.SortInts
import PyProof.InstSpecial
import PyProof.ReprRoads
import PyProof.WalksMore
import PyProof.ReprLen
import PySem.Challenge.RW_stampedwait_k34_where_keys_are
import HandS.Evl
set_option Elab.async false
set_option linter.all false
set_option maxRecDepth 100000
set_option maxHeartbeats 4000000

section
open PySem PySem.Spec PyProof.Rows L2
/-- the promise of a def that is only called where no object is being shown -/
structure FnG (P : Program) (w : World) (K : PySem.W.Frag) (mg : Str → Option Value) (base : Heap) (k : Nat) (f : Addr) (fd : FuncData) (ps : List Str) (sp : Sp) : Prop where
  size : ∀ vs H Q E, sp vs H Q E → vs.length = ps.length
  go : ∀ (A : Around) (outer : List Env) (s : Shared) (H : Hp) (us : List Value) (vs : List V) (Q : VK) (E : XK) (args : Args), A.guards = some [] → Room k A → Env0 P w K mg base A outer s H →
    BindsTo s fd args (ps.zip us) → Vals vs us → sp vs H Q E → codeAny (model P w) A (.call (.ref f) args) (CR CX0 outer P w H s Q E) s
theorem room66 {A : Around} {k : Nat} (hr : Room k A) : A.units + 66 < cLine := by
  have := hr.un
  omega
theorem guards_deeper (A : Around) (e : Env) : (A.deeper e).guards = A.guards := rfl
section
variable {P : Program} {w : World} {K : PySem.W.Frag} {mg : Str → Option Value} {base : Heap} {x qual : Str} {st : Stmt} {f : Addr} {fd : FuncData} {N ps : List Str} {k : Nat} {sp : Sp}
theorem fnG_mk (F : Fun K x qual st f fd) (S : FnScope N ps (defScope st)) (size : ∀ vs H Q E, sp vs H Q E → vs.length = ps.length)
    (body : ∀ (cdv : Value) (A : Around) (outer : List Env) (s : Shared) (H : Hp) (vs : List V) (Q : VK) (E : XK), (A.deeper (envOfC qual (defScope st) s.heap.objs.size f cdv)).guards = some [] →
      Room k (A.deeper (envOfC qual (defScope st) s.heap.objs.size f cdv)) → sp vs H Q E →
      ∃ t, PSs (cxOf CX0 P w K mg base N qual (defScope st) f cdv A outer s H E).nox (defBody st) t ∧ t { nx := fun _ H' => Q .non H', rt := Q } (start N vs) H) :
    FnG P w K mg base (k + 1) f fd ps sp := by
  obtain ⟨oc, od, kV, doc, pm, an, cdv, ct, osl, rfl, lk, hcd⟩ := F.ex
  refine ⟨size, ?_⟩
  intro A outer s H us vs Q E args gd hr e0 hb r hsp
  have old : ∀ b o, base.get? b = some o → s.heap.get? b = some o := fun b o z => (e0.bs b o z).1
  have kin := e0.mod.kin.keeps old
  have hkind : ∀ y ∈ ps.zip us, (defScope st).names.lookup y.1 = some .local ∨ ((defScope st).names.lookup y.1 = some .cell ∧ ((cellsFrom (s.heap.objs.size + 1) (defScope st).names []).lookup y.1).isSome = true) := by
    rintro ⟨n, v⟩ hy
    have := S.par n (List.of_mem_zip hy).1
    rcases this with z | z
    · exact .inl z
    · exact .inr ⟨z, PySem.W.cellsFrom_some _ _ _ (.inl z)⟩
  obtain ⟨t, ht, hq⟩ := body cdv A outer s H vs Q E gd (hr.deeper _) hsp
  refine codeAny_call_function hr.depth (kin _ _ lk) rfl S.co S.gen rfl (PySem.W.codeRec_of kin hcd) ?_
  refine hb _ _ _ _ (wpAny_newFunctionEnv_cells S.kind hkind ?_)
  rintro env rfl s1 y
  refine ⟨(e0.mod.nolimit.keeps old).keeps y.toInCall.keep, codeAny_func ?_⟩
  have I0 := inv_start (CX := CX0) (E := E) (cd := cdv) (f := f) (qual := qual) S hr.hd e0 (size _ _ _ _ hsp) r y
  refine wpAny_mono (ht.nox.run [] s1 _ H _ I0 hq) ?_ (fun _ _ z => z)
  intro fl s' hs
  cases fl with
  | ret u =>
    obtain ⟨v, σ', H', J, rv, z⟩ := hs
    exact ⟨v, H', J.os, J.bare, J.base, J.hok, rv, z⟩
  | next =>
    obtain ⟨σ', H', J, z⟩ := hs
    exact ⟨V.non, H', J.os, J.bare, J.base, J.hok, rfl, z⟩
  | brk => exact hs.elim fun _ h => h.elim fun _ h => h.2.elim
  | cont => exact hs.elim fun _ h => h.elim fun _ h => h.2.elim
end
section
variable {X : Cx} {k : Nat} {f : Addr} {fd : FuncData} {ps : List Str} {sp : Sp} {x : Str} {p pos : Pos} {e : Expr} {es : List Expr} {t : TA}
theorem pe_callG (F : FnG X.prog X.w X.K X.mg X.base k f fd ps sp) (gd : X.A.guards = some []) (hr : Room k X.A) (hg : Gl X x) (hm : X.mg x = some (.ref f)) (hk : PySem.W.keepIn X.K (.ref f) = true) (hb : Binds X.K fd ps [])
    (hx : Passes CX0 X E0) (ha : PA X (e :: es) t) (hdb : (x == ("__debug__" : Str)) = false := by decide) (he : starEach (e :: es) X.env = (false, eval e X.env) :: starEach es X.env := by rfl) (hpl : (backTo pos (starEach es X.env)).any (·.1) = false := by rfl) :
    PE X (.Call (.Name x p) (e :: es) [] pos) (tCall sp [] E0 t) := by
  constructor
  intro pins s σ H Q I h
  apply wpAny_Call_Name_kw
  refine ld_glob I hg hm ?_ hdb
  refine PySem.W.callWith_K (h₀ := X.base) I.ok.mod.kin hk (thn (ha.run pos pins s σ H _ I h) ?_) he hpl
  rintro us s1 ⟨vs, H1, I1, r, q⟩
  refine ⟨I1.kIn, ?_⟩
  rw [List.append_nil] at q
  have hl : us.length = ps.length := r.length.symm.trans (F.size _ _ _ _ q)
  have b := hb s1 us I1.kIn (by rw [List.append_nil]; exact hl)
  rw [List.append_nil] at b
  refine wpAny_call (codeAny_mono (F.go X.A X.stack s1 H1 us vs Q E0 ⟨us, []⟩ gd hr I1.env0 b r q) ?_)
  intro res s' hq
  cases res with
  | error e => exact hx pins σ H1 s1 e s' I1 hq
  | ok fl => cases fl <;> first | exact I1.after hq | exact False.elim hq
/-- repr of data -/
theorem call_reprD (gd : X.A.guards = some []) (hu : X.A.units + 66 < cLine) : CallR X (.builtin "repr") (fun xs H Q => ∃ (a : Addr) (d : PyData), xs = [.ref a] ∧ Dp X.K H (.ref a) d ∧ d.showable = true ∧ d.hasDict = false ∧ d.depth ≤ 64 ∧ d.shown.length ≤ sizeLine ∧ Q (.str d.shown) H) := by
  intro pins s σ H xs us Q I r h
  obtain ⟨a, d, rfl, hd, sh, nd, dp, sz, q⟩ := h
  cases r with
  | cons r1 r2 =>
    cases r2
    obtain ⟨as, rd⟩ := Dp.reads I d _ _ hd r1
    cases r1
    exact repr_of_reads' rd sh (fun z => by rw [nd] at z; cases z) gd (by omega) (fun _ _ z => z) (fun h' u tk z => ⟨.str d.shown, H, I.kept z, ⟨_, rfl⟩, q⟩) sz
end
/-- the law's call -/
theorem law_callG {P : Program} {w : World} {K : PySem.W.Frag} {mg mb : Str → Option Value} {k : Nat} {fa sa : Addr} {fd : FuncData} {x : Str} {sp : Sp} {s₁ : Shared} {vs : List Value} {ns : List Int}
    (KX : K.In s₁.heap) (hns : s₁.heap.Ns mainGlobals mg) (hb : s₁.heap.Ns builtinsNs mb) (hbb : ∀ x : Str, x ≠ "__name__" → mb x = bootBuiltins x) (hlim : s₁.heap.NoLimit) (hg : s₁.gens = #[])
    (ho : s₁.heap.get? sa = some { cls := .type "list", data := .seq vs.toArray }) (hi : IntsAre vs ns) (hl : ns.length ≤ sizeLine) (hr : Room k callerA)
    (F : ∀ base : Heap, K.In base → base.Ns mainGlobals mg → FnG P w K mg base k fa fd [x] sp) (hbind : ∀ (s : Shared) (u : Value), BindsTo s fd ⟨[u], []⟩ [(x, u)])
    (hsp : ∀ H : Hp, Only H → SqL K H sa (ns.map V.int) → sp [.ref sa] H (fun v _ => v = .bl true) fun _ _ _ => False) :
    codeAny (model P w) callerA (.call (.ref fa) ⟨[.ref sa], []⟩) (fun r s' => r = .ok (.ret (.bool true)) ∧ OldK s₁.heap s'.heap ∧ s'.os = s₁.os ∧ AllBare s'.gens) s₁ := by
  -- H tracks the script or nothing
  suffices main : ∀ H : Hp, Only H → SqL K H sa (ns.map V.int) → HOk P w H s₁.heap → (∀ b, H b ≠ none → b = sa) → (H sa ≠ none → K.lookup sa = none) →
      codeAny (model P w) callerA (.call (.ref fa) ⟨[.ref sa], []⟩) (fun r s' => r = .ok (.ret (.bool true)) ∧ OldK s₁.heap s'.heap ∧ s'.os = s₁.os ∧ AllBare s'.gens) s₁ by
    have rv := vals_ints hi
    cases hk : K.lookup sa with
    | none =>
      let H : Hp := fun b => if b = sa then some (.frz { cls := .type "list", data := .seq vs.toArray } (.lst (ns.map V.int))) else none
      have hH : H sa = some (.frz { cls := .type "list", data := .seq vs.toArray } (.lst (ns.map V.int))) := if_pos rfl
      have hN : ∀ b, b ≠ sa → H b = none := fun b z => if_neg z
      refine main H (fun b => ?_) (.inl (.inr ⟨_, hH⟩)) (fun b u z => ?_) (fun b z => ?_) fun _ => hk
      · by_cases c : b = sa
        · exact .inr ⟨_, _, by rw [c]; exact hH⟩
        · exact .inl (hN b c)
      · by_cases c : b = sa
        · subst c
          rw [hH] at z
          cases z
          exact ⟨ho, by rw [List.length_map]; exact hl, vs, _, rv, ho⟩
        · rw [hN b c] at z
          cases z
      · by_cases c : b = sa
        · exact c
        · exact absurd (hN b c) z
    | some o =>
      have z := KX sa o hk
      rw [ho] at z
      cases z
      exact main (fun _ => none) (fun _ => .inl rfl) (.inr ⟨_, vs.toArray, _, hk, rfl, rfl, rfl, by rw [List.size_toArray, hi.length]; exact hl, by simpa using rv⟩) (fun b u y => by cases y) (fun b y => absurd rfl y) fun y => absurd rfl y
  intro H hO hS hok hA hK
  have free : ∀ {b : Addr}, b ≠ sa → H b = none := fun {b} c => by
    cases z : H b with
    | none => rfl
    | some u => exact absurd (hA b (by rw [z]; simp)) c
  have dictFree : ∀ {b : Addr} {o : Obj} {es : Array DictEntry} {ep : Nat}, s₁.heap.get? b = some o → o.data = .dict es ep → H b = none := fun {b o es ep} e d => free fun c => by
    subst c
    rw [ho] at e
    cases e
    cases d
  have ns2 : ∀ {b : Addr} {m : Str → Option Value}, s₁.heap.Ns b m → (hidT s₁.heap H).Ns b m := by
    rintro b m ⟨o, es, ep, e, d, r⟩
    exact ⟨o, es, ep, hidT_get e (dictFree e d), d, r⟩
  have kin2 : K.In (hidT s₁.heap H) := by
    intro b o e
    refine hidT_get (KX b o e) ?_
    by_cases c : b = sa
    · subst c
      cases z : H b with
      | none => rfl
      | some u =>
        rw [hK (by rw [z]; simp)] at e
        cases e
    · exact free c
  have lim2 : (hidT s₁.heap H).NoLimit := by
    obtain ⟨mc, h1, h2⟩ := hlim
    exact ⟨mc, ns2 h1, h2⟩
  have env : Env0 P w K mg (hidT s₁.heap H) callerA [] s₁ H :=
    { frames := rfl, mod := ⟨kin2, ns2 hns, ⟨mb, ns2 hb, hbb⟩, lim2⟩, bs := fun b o e => of_hidT e, bsz := Nat.le_of_eq (hidT_size _ _), funs := trivial, frf := fun b z => by simp [frs] at z, hok := hok, bare := .of_eq hg }
  refine codeAny_mono ((F _ kin2 (ns2 hns)).go callerA [] s₁ H [.ref sa] [.ref sa] _ _ ⟨[.ref sa], []⟩ rfl hr env (hbind s₁ (.ref sa)) (.cons rfl .nil) (hsp H hO hS)) ?_
  intro res s' hres
  cases res with
  | error e => exact hres.elim
  | ok fl =>
    cases fl with
    | ret u =>
      obtain ⟨v, H', os, bare, un, hok', rv, qv⟩ := hres
      cases (show v = .bl true from qv)
      cases (show u = Value.bool true from rv)
      refine ⟨rfl, OldK.of_keep fun b o e => ?_, os, bare⟩
      rcases hO b with z | ⟨ob, xs, z⟩
      · exact un.keep b o e z (by simp [frs]) (by simp)
      · have z2 := un.frzs b ob _ z
        have e1 := (hok b _ z).1
        have e2 := (hok' b _ z2).1
        rw [e] at e1
        cases e1
        exact e2
    | next => exact hres.elim
    | brk => exact hres.elim
    | cont => exact hres.elim
theorem walkG {l : PySem.W.OpenLaw} {n k : Nat} {q : Program} {loose : List Str} {XP : (Str → Option Value) → Heap → Prop} {YP : World → Heap → Prop} {d : DefRec} {K : Params → PySem.W.Frag} {sp : World → Sp} {x : Str}
    (hn : l.most = some n) (hn2 : n ≤ sizeLine) (hdf : d.params.defaults = []) (hr : Room k callerA) (hY : ∀ (w : World) (h : Heap), YP w h → (K w.params).In h)
    (F : ∀ (w : World) (mg : Str → Option Value) (fa : Addr) (h : Heap), (K w.params).In h → h.Ns mainGlobals mg → mg d.name = some (.ref fa) →
      ∃ fd : FuncData, (∀ (s : Shared) (u : Value), BindsTo s fd ⟨[u], []⟩ [(x, u)]) ∧ ∀ base : Heap, (K w.params).In base → base.Ns mainGlobals mg → FnG l.prog w (K w.params) mg base k fa fd [x] (sp w))
    (hsp : ∀ (w : World) (H : Hp) (a : Addr) (ns : List Int), ns.length ≤ n → (∀ z ∈ ns, Builtin.Int.intBits z ≤ 1048576) → Only H → SqL (K w.params) H a (ns.map V.int) → sp w [.ref a] H (fun v _ => v = .bl true) fun _ _ _ => False) :
    PySem.W.WalkO q loose XP YP l.row.toRowW d [] (fun f vs => PySem.call f vs) := by
  apply Att.attach_callB hn hdf
  intro w s₀ s₁ mg mb fa o pm cd doc sa vs ns G Y ho hd hcd hmg hobj hints hlen hbits hg
  obtain ⟨fd, hb, hF⟩ := F w mg fa _ (hY w _ Y) G.T.g hmg
  exact law_callG (hY w _ Y) G.T.g G.T.b G.T.builtins G.T.nolimit hg hobj hints (Nat.le_trans hlen hn2) hr hF hb (fun H hO hS => hsp w H sa ns hlen hbits hO hS)
end

section
open PySem PySem.Spec PyProof.Rows L2
/-- data, or an empty dict -/
inductive An (K : PySem.W.Frag) (H : Hp) : V → PyData → Prop
  | dp {v : V} {d : PyData} (h : Dp K H v d) : An K H v d
  | dict {p : Addr} (e : H p = some (.dK [])) : An K H (.ref p) (.dict [])
mutual
theorem dp_up {K : PySem.W.Frag} {H H' : Hp} (k : Same H H') : ∀ {v : V} {d : PyData}, Dp K H v d → Dp K H' v d
  | _, _, .non => .non
  | _, _, .bl b => .bl b
  | _, _, .int i => .int i
  | _, _, .str x => .str x
  | _, _, .lst h hs => .lst (k.seq h) (dpall_up k hs)
  | _, _, .tup h hs => .tup (by
      rcases h with (h | ⟨u, h⟩) | h
      · exact .inl (.inl (k _ _ h))
      · exact .inl (.inr ⟨u, k _ _ h⟩)
      · exact .inr h) (dpall_up k hs)
theorem dpall_up {K : PySem.W.Frag} {H H' : Hp} (k : Same H H') : ∀ {vs : List V} {ds : List PyData}, DpAll K H vs ds → DpAll K H' vs ds
  | _, _, .nil => .nil
  | _, _, .cons h hs => .cons (dp_up k h) (dpall_up k hs)
end
mutual
theorem dp_nodict {K : PySem.W.Frag} {H : Hp} : ∀ {v : V} {d : PyData}, Dp K H v d → d.hasDict = false
  | _, _, .non => rfl
  | _, _, .bl b => rfl
  | _, _, .int i => rfl
  | _, _, .str x => rfl
  | _, _, .lst _ hs => by simp only [PyData.hasDict]; exact dpall_nodict hs
  | _, _, .tup _ hs => by simp only [PyData.hasDict]; exact dpall_nodict hs
theorem dpall_nodict {K : PySem.W.Frag} {H : Hp} : ∀ {vs : List V} {ds : List PyData}, DpAll K H vs ds → PyData.hasDictAll ds = false
  | _, _, .nil => rfl
  | _, _, .cons h hs => by simp only [PyData.hasDictAll, dp_nodict h, dpall_nodict hs, Bool.or_self]
end
theorem dpall_len {K : PySem.W.Frag} {H : Hp} : ∀ {vs : List V} {ds : List PyData}, DpAll K H vs ds → vs.length = ds.length
  | _, _, .nil => rfl
  | _, _, .cons _ hs => congrArg Nat.succ (dpall_len hs)
theorem dpall_get {K : PySem.W.Frag} {H : Hp} : ∀ {vs : List V} {ds : List PyData}, DpAll K H vs ds → ∀ {i : Nat} {v : V}, vs[i]? = some v → ∃ d, ds[i]? = some d ∧ Dp K H v d
  | _, _, .nil, i, v, e => by simp at e
  | _, _, .cons h hs, 0, v, e => by
    simp at e
    subst e
    exact ⟨_, rfl, h⟩
  | _, _, .cons h hs, i + 1, v, e => dpall_get hs (i := i) (by simpa using e)
theorem An.up {K : PySem.W.Frag} {H H' : Hp} (k : Same H H') {v : V} {d : PyData} (h : An K H v d) : An K H' v d := by
  cases h with
  | dp h => exact .dp (dp_up k h)
  | dict e => exact .dict (k _ _ e)
def wholeD : PyData → Bool
  | .int _ => true
  | _ => false
def isTup : PyData → Bool
  | .tuple _ => true
  | _ => false
theorem sql_ty {K : PySem.W.Frag} {H : Hp} {p : Addr} {xs : List V} (h : SqL K H p xs) : TyX K H (.ref p) (.type "list") := by
  rcases h with (h | ⟨u, h⟩) | ⟨o, its, n, h1, h2, _⟩
  · exact .base (.lst h)
  · exact .base (.frz h)
  · exact .kList h1 h2
theorem sqt_tyA {K : PySem.W.Frag} {H : Hp} {p : Addr} {xs : List V} (h : SqT K H p xs) : TyX K H (.ref p) (.type "tuple") := by
  rcases h with (h | ⟨u, h⟩) | ⟨o, its, n, h1, h2, _⟩
  · exact .base (.tup h)
  · exact .fTuple h
  · exact .kTuple h1 h2
/-- what isinstance says -/
theorem An.is {K : PySem.W.Frag} {H : Hp} {v : V} {d : PyData} (h : An K H v d) : ∃ (t : Value) (i b c : Bool), TyX K H v t ∧ PySem.W.kitOne K t (.type "int") = some i ∧ PySem.W.kitOne K t (.type "bool") = some b ∧ PySem.W.kitOne K t (.type "tuple") = some c ∧ (i && !b) = wholeD d ∧ c = isTup d := by
  cases h with
  | dict e => exact ⟨_, false, false, false, .base (.dK e), kit_ty (by decide +kernel), kit_ty (by decide +kernel), kit_ty (by decide +kernel), rfl, rfl⟩
  | dp h =>
    cases h with
    | non => exact ⟨_, false, false, false, .base .non, kit_ty (by decide +kernel), kit_ty (by decide +kernel), kit_ty (by decide +kernel), rfl, rfl⟩
    | bl b => exact ⟨_, true, true, false, .base (.bl b), kit_ty (by decide +kernel), kit_ty (by decide +kernel), kit_ty (by decide +kernel), rfl, rfl⟩
    | int i => exact ⟨_, true, false, false, .base (.int i), kit_ty (by decide +kernel), kit_ty (by decide +kernel), kit_ty (by decide +kernel), rfl, rfl⟩
    | str x => exact ⟨_, false, false, false, .base (.str x), kit_ty (by decide +kernel), kit_ty (by decide +kernel), kit_ty (by decide +kernel), rfl, rfl⟩
    | lst h _ => exact ⟨_, false, false, false, sql_ty h, kit_ty (by decide +kernel), kit_ty (by decide +kernel), kit_ty (by decide +kernel), rfl, rfl⟩
    | tup h _ => exact ⟨_, false, false, true, sqt_tyA h, kit_ty (by decide +kernel), kit_ty (by decide +kernel), kit_ty (by decide +kernel), rfl, rfl⟩
/-- a tuple of data -/
theorem An.tup {K : PySem.W.Frag} {H : Hp} {v : V} {ds : List PyData} (h : An K H v (.tuple ds)) : ∃ p xs, v = .ref p ∧ SqT K H p xs ∧ DpAll K H xs ds := by
  cases h with
  | dp h =>
    cases h with
    | tup h hs => exact ⟨_, _, rfl, h, hs⟩
section
variable {X : Cx}
/-- repr of any of these -/
theorem call_reprA (gd : X.A.guards = some []) (hu : X.A.units + 66 < cLine) : CallR X (.builtin "repr") (fun xs H Q => ∃ (x : V) (d : PyData), xs = [x] ∧ An X.K H x d ∧ d.showable = true ∧ d.depth ≤ 64 ∧ d.shown.length ≤ sizeLine ∧ Q (.str d.shown) H) := by
  intro pins s σ H xs us Q I r h
  obtain ⟨x, d, rfl, ha, sh, dp, sz, q⟩ := h
  cases r with
  | cons r1 r2 =>
    cases r2
    cases ha with
    | dict e =>
      cases r1
      obtain ⟨hz, hS, vs, r, o, es, ep, h1, h2, h3, h4⟩ := (show ObjOk X.prog X.w H s.heap _ (.dK []) from I.hok _ _ e)
      cases r
      have hes : es.toList = [] := by
        have z := h4.2.1
        generalize es.toList = l at z
        cases z
        rfl
      have rd : Reads s.heap (.ref _) (.dict []) (_ :: [] ++ []) := Reads.dict (kvs := []) (as := []) (bs := []) h1 h2.1 h3 (by rw [hes]; exact .nil) (by rw [hes]; exact .nil)
      refine repr_of_reads' rd rfl (fun _ z => ?_) gd (by show X.A.units + (1 + 1) < cLine; omega) (fun _ _ z => z) (fun h' u tk z => ⟨.str _, H, I.kept z, ⟨_, rfl⟩, q⟩) sz
      simp at z
      simp [z] at hS
    | dp hd =>
      cases hd with
      | non =>
        cases r1
        exact PySem.P.repr_of_none ⟨.str _, H, I.tok _, ⟨_, rfl⟩, q⟩
      | bl b =>
        cases r1
        exact PySem.P.repr_of_bool ⟨.str _, H, I.tok _, ⟨_, rfl⟩, q⟩
      | int i =>
        obtain ⟨t, rfl⟩ := r1
        exact PySem.P.repr_of_int (of_decide_eq_true sh) ⟨.str _, H, I.tok _, ⟨_, rfl⟩, q⟩
      | str z =>
        obtain ⟨t, rfl⟩ := r1
        exact PySem.P.repr_of_str ⟨.str _, H, I.tok _, ⟨_, rfl⟩, q⟩ sz
      | lst h hs =>
        obtain ⟨as, rd⟩ := Dp.reads I _ _ _ (.lst h hs) r1
        cases r1
        exact repr_of_reads' rd sh (fun z => by rw [dp_nodict (.lst h hs)] at z; cases z) gd (by omega) (fun _ _ z => z) (fun h' u tk z => ⟨.str _, H, I.kept z, ⟨_, rfl⟩, q⟩) sz
      | tup h hs =>
        obtain ⟨as, rd⟩ := Dp.reads I _ _ _ (.tup h hs) r1
        cases r1
        exact repr_of_reads' rd sh (fun z => by rw [dp_nodict (.tup h hs)] at z; cases z) gd (by omega) (fun _ _ z => z) (fun h' u tk z => ⟨.str _, H, I.kept z, ⟨_, rfl⟩, q⟩) sz
/-- min of a tuple of ints -/
theorem cr_minT (hc : X.calm = true) : CallR X (.builtin "min") (fun vs H Q => ∃ (a : Addr) (ns : List Int), vs = [V.ref a] ∧ SqT X.K H a (ns.map V.int) ∧ 0 < ns.length ∧ ∀ m, m ∈ ns → (∀ y, y ∈ ns → m ≤ y) → Q (.int m) H) := by
  intro pins s σ H vs us Q I r h
  obtain ⟨a, ns, rfl, hs, hne, q⟩ := h
  obtain ⟨its, rv, ht, _⟩ := I.tuple hs
  rw [Vals.ref1 r]
  have hi : IntsAre its ns := rv.ints
  obtain ⟨xs, e⟩ := hi.allInts.items
  have hn : numsOf (intItems xs).toList = ns := by rw [← e]; exact hi.numsOf
  rw [nums_intItems] at hn
  subst hn
  rw [e] at ht
  have hsz : 0 < xs.size := by simpa using hne
  have ht' : s.heap.IsTuple a (intItems xs) := ht
  have hlt : a < s.heap.objs.size := by
    obtain ⟨_, z, _⟩ := ht'
    exact Heap.lt_size z
  have hsz1 : ∀ o, (s.heap.push o).objs.size = s.heap.objs.size + 1 := fun o => Heap.size_push ..
  refine call_min_walk (wpAny_pyIter_tuple ht' ⟨_, _, _, _, _, _, _, rfl, Walks.tuple (A := X.A.in1) (I.ok.hd hc) _ a (Nat.ne_of_lt hlt) (intItems xs), ⟨⟨_, Heap.get?_push_size _ rfl, rfl, rfl⟩, ?_⟩, ?_, by simpa [intItems] using hsz, CmpOf.ints_lt (numAt xs) (fun _ _ => intItems_at), ?_⟩)
  · obtain ⟨o, z1, z2⟩ := ht'
    exact ⟨o, Heap.get?_push_of_some _ z1, z2⟩
  · intro b hb
    show b < (s.heap.push _).objs.size
    rw [hsz1]
    rcases List.mem_cons.mp hb with rfl | hb
    · exact Nat.lt_succ_self _
    · rcases List.mem_cons.mp hb with rfl | hb
      · exact Nat.lt_succ_of_lt hlt
      · cases hb
  · intro v h' tk hP hk
    have hv : (intItems xs)[argBest (fun i j => decide (numAt xs i < numAt xs j)) (xs.size - 1)]? = some v := by simpa [intItems] using hP
    obtain ⟨t, rfl⟩ := intItems_at hv
    obtain ⟨h1, h2⟩ := argBest_lt (numAt xs) (xs.size - 1)
    have kept : ∀ b o, s.heap.get? b = some o → h'.get? b = some o := fun b o z => hk b o (by simpa using Nat.ne_of_lt (Heap.lt_size z)) (Heap.get?_push_of_some _ z)
    refine ⟨.int _, H, I.kept kept, ⟨_, rfl⟩, q _ ?_ ?_⟩
    · rw [numAt_eq]; exact PySem.getD_mem (by rw [List.length_map, Array.length_toList]; omega)
    · intro z hz
      obtain ⟨j, hj, rfl⟩ := mem_getD hz
      rw [List.length_map, Array.length_toList] at hj
      rw [← numAt_eq]; exact h2 j (by omega)
end
end
section
open PySem PySem.Spec PyProof.Rows L2
/-- t > u, t >= u of tuples of ints -/
def rCmpT (K : PySem.W.Frag) (r : Int → Int → Bool) (z : Nat → Nat → Bool) : R2 := fun x y H Q => ∃ (a b : Addr) (ns ms : List Int), x = .ref a ∧ y = .ref b ∧ SqT K H a (ns.map V.int) ∧ SqT K H b (ms.map V.int) ∧
  Q (.bl (Ob.lexAt (fun j => decide (ns.getD j 0 = ms.getD j 0)) (fun j => r (ns.getD j 0) (ms.getD j 0)) (z ns.length ms.length) 0 (min ns.length ms.length))) H
theorem vals_at : ∀ {ns : List Int} {us : List Value}, Vals (ns.map V.int) us → ns.length = us.length ∧ ∀ j (h : j < us.length), ∃ t, us[j] = .int (ns.getD j 0) t
  | [], _, .nil => ⟨rfl, fun j h => absurd h (Nat.not_lt_zero j)⟩
  | n :: r, _, .cons ⟨t, e⟩ q => by
    obtain ⟨l, f⟩ := vals_at (ns := r) q
    refine ⟨congrArg Nat.succ l, fun j h => ?_⟩
    cases j with
    | zero => exact ⟨t, e⟩
    | succ j => exact f j (Nat.lt_of_succ_lt_succ h)
/-- an order of tuples of ints out of the order of their items: tup lifts it, one is that of two ints -/
theorem op_cmpT {X : Cx} {op : CmpOp} {rr : Int → Int → Bool} {zz : Nat → Nat → Bool} (rich : ∀ v u, compareOp op v u = richCompare op v u)
    (tup : ∀ {s : Shared} {l b : Addr} {is js : Array Value} {e r : Nat → Bool}, s.heap.IsTuple l is → s.heap.IsTuple b js → (∀ j (h1 : j < is.size) (h2 : j < js.size), SeqAt.EqAt X.A.in1 s is[j] js[j] (e j)) →
      (∀ j (h1 : j < is.size) (h2 : j < js.size), e j = false → Ob.RcOp op X.A.in1 s is[j] js[j] (r j)) → Ob.RcOp op X.A s (.ref l) (.ref b) (Ob.lexAt e r (zz is.size js.size) 0 (min is.size js.size)))
    (one : ∀ {s : Shared} (a b : Int) (t u : Tok), Ob.RcOp op X.A.in1 s (.int a t) (.int b u) (rr a b)) : OpR X (compareOp op) (rCmpT X.K rr zz) := by
  rintro pins s σ H x y v u Q I rx ry ⟨a, b, ns, ms, rfl, rfl, ha, hb, q⟩
  cases rx
  cases ry
  obtain ⟨us, ru, tu, _⟩ := I.tuple ha
  obtain ⟨ws, rw', tw, _⟩ := I.tuple hb
  obtain ⟨lu, fu⟩ := vals_at ru
  obtain ⟨lw, fw⟩ := vals_at rw'
  have go := tup (e := fun j => decide (ns.getD j 0 = ms.getD j 0)) (r := fun j => rr (ns.getD j 0) (ms.getD j 0)) tu tw
    (fun j h1 h2 => by
      obtain ⟨t, et⟩ := fu j (by simpa using h1)
      obtain ⟨t', et'⟩ := fw j (by simpa using h2)
      have key : SeqAt.EqAt X.A.in1 s (.int (ns.getD j 0) t) (.int (ms.getD j 0) t') (ns.getD j 0 == ms.getD j 0) := SeqAt.EqAt.int_int _ _ _ _
      have same : (ns.getD j 0 == ms.getD j 0) = decide (ns.getD j 0 = ms.getD j 0) := rfl
      rw [same, ← et, ← et'] at key
      exact key)
    (fun j h1 h2 _ => by
      obtain ⟨t, et⟩ := fu j (by simpa using h1)
      obtain ⟨t', et'⟩ := fw j (by simpa using h2)
      have key := one (s := s) (ns.getD j 0) (ms.getD j 0) t t'
      rw [← et, ← et'] at key
      exact key)
  rw [List.size_toArray, List.size_toArray, ← lu, ← lw] at go
  rw [rich]
  exact go X.prog X.w X.xe _ ⟨.bl _, H, I, rfl, q⟩
theorem op_gtT {X : Cx} (hu : X.A.units < cLine) : OpR X (compareOp .Gt) (rCmpT X.K (fun a b => decide (b < a)) (fun n m => decide (n > m))) :=
  op_cmpT (fun _ _ => rfl) (fun h1 h2 he hr => Ob.RcOp.tuples_gt h1 h2 hu he hr) (fun a b t u => Ob.RcOp.gt_int a b t u)
theorem op_geT {X : Cx} (hu : X.A.units < cLine) : OpR X (compareOp .GtE) (rCmpT X.K (fun a b => decide (b ≤ a)) (fun n m => decide (n ≥ m))) :=
  op_cmpT (fun _ _ => rfl) (fun h1 h2 he hr => Ob.RcOp.tuples_ge h1 h2 hu he hr) (fun a b t u => Ob.RcOp.ge_int a b t u)
/-- len(x) by an own __len__, the built-in's own body -/
theorem len_body {P : Program} {w : World} {A : Around} {E : Value → Shared → Prop} {s : Shared} {K : PySem.W.Frag} {x C f : Addr} {ox : Obj} {od : Option Obj} {Q : Value → Shared → Prop} (X : K.In s.heap) (I : PySem.W.InstAt s.heap x ox C od)
    (hs : PySem.W.findIn K (.ref C) "__len__" = some (some (.ref f))) (hf : PySem.W.isFn K (.ref f) = true)
    (hcall : wpAny (model P w) A (call (.ref f) [.ref x]) (fun r s' => ∃ n u, r = .int n u ∧ 0 ≤ n ∧ n < 2 ^ 63 ∧ Q (.int n s'.toks) { s' with toks := s'.toks + 1 }) E s) :
    wpAny (model P w) A (Builtin.«len» ⟨[.ref x], []⟩) (fun fin s' => ∃ r, fin = .done (.ret r) ∧ Q r s') E s := by
  unfold Builtin.«len»
  refine wpAny_bind (m := oneArg "len" _) (wpAny_pure ?_)
  refine wpAny_bind (m := callSpecial? (.ref x) (Str.ofString "__len__")) (PySem.W.special_fn X I hs (beq_iff_eq.mp hf) (wpAny_mono hcall (fun r s' hr => ?_) fun _ _ y => y))
  obtain ⟨n, u, rfl, h0, h1, hq⟩ := hr
  refine wpAny_bind (wpAny_holding (wpAny_pure ?_))
  refine wpAny_bind (wpAny_letGo ?_)
  show wpAny _ _ (if n < 0 then _ else _) _ _ _
  rw [if_neg (by omega)]
  show wpAny _ _ (if n ≥ 2 ^ 63 then _ else _) _ _ _
  rw [if_neg (by omega)]
  exact wpAny_bind (wpAny_mkInt (wpAny_pure ⟨_, rfl, hq⟩))
/-- the truth of x by an own __len__ -/
theorem truthy_len {P : Program} {w : World} {A : Around} {E : Value → Shared → Prop} {s : Shared} {K : PySem.W.Frag} {x C f : Addr} {ox : Obj} {od : Option Obj} {Q : Bool → Shared → Prop} (X : K.In s.heap) (I : PySem.W.InstAt s.heap x ox C od)
    (hb : PySem.W.findIn K (.ref C) "__bool__" = some none) (hs : PySem.W.findIn K (.ref C) "__len__" = some (some (.ref f))) (hf : PySem.W.isFn K (.ref f) = true)
    (hcall : wpAny (model P w) A.in1 (call (.ref f) [.ref x]) (fun r s' => ∃ n u, r = .int n u ∧ 0 ≤ n ∧ n < 2 ^ 63 ∧ Q (n != 0) { s' with toks := s'.toks + 1 }) E s) :
    wpAny (model P w) A (truthy (.ref x)) Q E s := by
  have key : wpAny (model P w) A (runValue (.builtin "len" ⟨[.ref x], []⟩)) (fun r s' => ∃ n u, r = .int n u ∧ Q (n != 0) s') E s := by
    refine wpAny_runValue (codeAny_builtin entry_len ?_)
    rw [Around.under_plainId plain_len _]
    exact wpAny_mono (len_body (Q := fun r s' => ∃ n u, r = .int n u ∧ Q (n != 0) s') X I hs hf (wpAny_mono hcall (fun r s' hr => by
      obtain ⟨n, u, rfl, h0, h1, q⟩ := hr
      exact ⟨n, u, rfl, h0, h1, n, _, rfl, q⟩) fun _ _ e => e))
      (fun fin s' h' => by obtain ⟨r, rfl, hq⟩ := h'; exact hq) fun _ _ e => e
  unfold truthy
  refine wpAny_bind (m := callSpecial? (.ref x) (Str.ofString "__bool__")) (wpAny_bind (wpAny_bind (I.type.here ((PySem.W.looks_findIn X hb).here (wpAny_pure ?_)))))
  refine wpAny_bind (wpAny_bind (I.type.here ((PySem.W.looks_findIn X hs).here ?_)))
  exact wpAny_bind (wpAny_mono key (fun r s' h' => by obtain ⟨n, u, rfl, hq⟩ := h'; exact wpAny_pure hq) fun _ _ e => e)
section
variable {X : Cx} {CX : CXT} {n : Nat} {C f : Addr} {fd : FuncData} {ps : List Str} {sp : Sp} {E : XK}
/-- what the own __len__ must give -/
def lenQ (Q : Nat → Hp → Prop) : VK := fun v H' => ∃ k : Nat, v = .int k ∧ k < 1000000 ∧ Q k H'
theorem len_run (F : FnOk X.prog X.w X.K X.mg X.base CX n f fd ps sp) (hb : Binds X.K fd ps []) (hx : Passes CX X E) {A : Around} {pins : List (Addr × Obj)} {s : Shared} {σ : L2.St} {H : Hp} {a : Addr} {Q : Nat → Hp → Prop} {R : Value → Shared → Prop} (hA : Room n A) (fr : A.frames = X.A.frames) (I : Inv X pins σ H s)
    (hsp : sp [.ref a] H (lenQ Q) E) (hq : ∀ (k : Nat) (u : Tok) (s' : Shared) (H' : Hp), k < 1000000 → Inv X pins σ H' s' → Q k H' → R (.int k u) s') : wpAny (model X.prog X.w) A (call (.ref f) [.ref a]) R X.xe s := by
  have hl := F.len _ _ _ _ hsp
  have e0 : Env0 X.prog X.w X.K X.mg X.base A X.stack s H := by
    have e := I.env0
    exact ⟨by rw [fr]; exact e.frames, e.mod, e.bs, e.bsz, e.funs, e.frf, e.hok, e.bare⟩
  have bd := hb s [.ref a] I.kIn (by simpa using hl)
  rw [List.append_nil] at bd
  refine wpAny_call (codeAny_mono (F.run A X.stack s H ⟨[.ref a], []⟩ [.ref a] [.ref a] _ E hA e0 bd (.cons rfl .nil) hsp) ?_)
  intro r s' z
  cases r with
  | error e => exact hx pins σ H s e s' I z
  | ok fl =>
    cases fl with
    | ret u =>
      obtain ⟨v, H', I', rv, k, rfl, hk, q⟩ := I.after z
      obtain ⟨t, rfl⟩ := rv
      exact hq k t s' H' hk I' q
    | next => exact False.elim z
    | brk => exact False.elim z
    | cont => exact False.elim z
theorem call_lenOwn (F : FnOk X.prog X.w X.K X.mg X.base CX n f fd ps sp) (hr : Room n X.A.in1) (hs : PySem.W.findIn X.K (.ref C) "__len__" = some (some (.ref f))) (hf : PySem.W.isFn X.K (.ref f) = true) (hb : Binds X.K fd ps []) (hx : Passes CX X E) :
    CallR X (.builtin "len") (fun xs H Q => ∃ (a dx : Addr) (fs : List (Str × V)), xs = [.ref a] ∧ H a = some (.ins C dx fs) ∧ sp [.ref a] H (lenQ fun k H' => Q (.int k) H') E) := by
  intro pins s σ H xs us Q I r h
  obtain ⟨a, dx, fs, rfl, ha, hsp⟩ := h
  rw [Vals.ref1 r]
  obtain ⟨mA, J, _⟩ := ins_get I.hok ha
  obtain ⟨od, J, _⟩ := J.look
  refine Calls.call_function_entry kind_len plain_len entry_len (args_len1 _) ?_
  refine wpAny_mono (len_body (Q := fun v s' => EP X pins σ Q v s') I.kIn J hs hf (len_run F hb hx hr rfl I hsp fun k u s' H' hk I' q => ⟨k, u, rfl, by omega, by omega, .int k, H', I'.tok _, ⟨_, rfl⟩, q⟩)) (fun fin s' z => ?_) fun _ _ z => z
  obtain ⟨v, rfl, q⟩ := z
  exact ⟨v, rfl, q⟩
theorem tru_lenA (F : FnOk X.prog X.w X.K X.mg X.base CX n f fd ps sp) {A : Around} (hr : Room n A.in1) (fr : A.in1.frames = X.A.frames) (hn : PySem.W.findIn X.K (.ref C) "__bool__" = some none) (hs : PySem.W.findIn X.K (.ref C) "__len__" = some (some (.ref f))) (hf : PySem.W.isFn X.K (.ref f) = true) (hb : Binds X.K fd ps []) (hx : Passes CX X E)
    {pins : List (Addr × Obj)} {s : Shared} {σ : L2.St} {H : Hp} {a dx : Addr} {fs : List (Str × V)} {Q : Bool → Hp → Prop} (I : Inv X pins σ H s) (ha : H a = some (.ins C dx fs)) (hsp : sp [.ref a] H (lenQ fun k H' => Q (decide (k ≠ 0)) H') E) :
    wpAny (model X.prog X.w) A (truthy (.ref a)) (TP X pins σ Q) X.xe s := by
  obtain ⟨mA, J, _⟩ := ins_get I.hok ha
  obtain ⟨od, J, _⟩ := J.look
  refine truthy_len I.kIn J hn hs hf (len_run F hb hx hr fr I hsp fun k u s' H' hk I' q => ⟨k, u, rfl, by omega, by omega, H', I'.tok _, ?_⟩)
  have e : ((k : Int) != 0) = decide (k ≠ 0) := by
    by_cases z : k = 0
    · subst z; rfl
    · rw [decide_eq_true z]
      exact bne_iff_ne.mpr (by omega)
  rw [e]
  exact q
theorem tru_len (F : FnOk X.prog X.w X.K X.mg X.base CX n f fd ps sp) (hr : Room n X.A.in1) (hn : PySem.W.findIn X.K (.ref C) "__bool__" = some none) (hs : PySem.W.findIn X.K (.ref C) "__len__" = some (some (.ref f))) (hf : PySem.W.isFn X.K (.ref f) = true) (hb : Binds X.K fd ps []) (hx : Passes CX X E) :
    TruR X (fun x H Q => ∃ (a dx : Addr) (fs : List (Str × V)), x = .ref a ∧ H a = some (.ins C dx fs) ∧ sp [.ref a] H (lenQ fun k H' => Q (decide (k ≠ 0)) H') E) := by
  intro pins s σ H x v Q I rx h
  obtain ⟨a, dx, fs, rfl, ha, hsp⟩ := h
  cases rx
  exact tru_lenA F hr rfl hn hs hf hb hx I ha hsp
theorem meets_bool_own {prog : Program} {w : World} (x : Addr) : MeetsIn prog w (Builtin.«bool.__new__» ⟨[.type "bool", .ref x], []⟩) (fun A R s => wpAny (model prog w) A.in1 (truthy (.ref x)) (fun b s' => R (.ok (.ret (.bool b))) s') (fun e s' => R (.error e) s') s) := by
  intro A R s hs
  obtain ⟨hp, g, d, tk, os⟩ := s
  have f1 := PySem.F.conv_sub_bool
  repeat (any_goals (first | assumption | (with_reducible refine wpAny_mono hs (fun b s' z => ?_) (fun _ _ z => z)) | wp_step))
/-- bool(o) -/
theorem call_boolLen (F : FnOk X.prog X.w X.K X.mg X.base CX n f fd ps sp) (hr : Room n X.A.in1.in1.in1) (hn : PySem.W.findIn X.K (.ref C) "__bool__" = some none) (hs : PySem.W.findIn X.K (.ref C) "__len__" = some (some (.ref f))) (hf : PySem.W.isFn X.K (.ref f) = true) (hb : Binds X.K fd ps []) (hx : Passes CX X E) :
    CallR X (.type "bool") (fun xs H Q => ∃ (a dx : Addr) (fs : List (Str × V)), xs = [.ref a] ∧ H a = some (.ins C dx fs) ∧ sp [.ref a] H (lenQ fun k H' => Q (.bl (decide (k ≠ 0))) H') E) := by
  intro pins s σ H xs us Q I r h
  obtain ⟨a, dx, fs, rfl, ha, hsp⟩ := h
  rw [Vals.ref1 r]
  refine callType_newIn PySem.F.called_bool PySem.F.newNe_bool (PySem.F.typeCall_bool_1 _) (PySem.F.newCall_bool_1 _) (fun obj => PySem.F.args_object_init_2 obj _) PySem.F.entry_bool_new (meets_bool_own a) ?_
  refine wpAny_mono (tru_lenA F hr rfl hn hs hf hb hx (Q := fun b H' => Q (.bl b) H') I ha hsp) (fun b s' z => ?_) fun _ _ z => z
  obtain ⟨H', I', q⟩ := z
  exact ⟨rfl, .bl b, H', I', rfl, q⟩
/-- not o -/
theorem pe_notLen {a : Expr} {ta : TE} {pos : Pos} {r : V → Hp → (Bool → Hp → Prop) → Prop} (tr : TruR X r) (ha : PE X a ta) : PE X (.UnaryOp .Not a pos) (fun σ H Q => ta σ H fun x H1 => r x H1 fun k H2 => Q (.bl (!k)) H2) := by
  refine ⟨fun pins s σ H Q I h => ?_⟩
  refine UnaryOp_ (thn (ha.run pins s σ H _ I h) fun v s1 ⟨x, H1, I1, r1, q1⟩ => ?_)
  exact not_of (thn (tr pins s1 σ H1 x v (fun c H2 => Q (.bl (!c)) H2) I1 r1 q1) fun c s2 ⟨H2, I2, q2⟩ => ⟨.bl (!c), H2, I2, rfl, q2⟩)
end
end
section
open PySem PySem.Spec PyProof.Rows L2
def isStr : PyData → Bool
  | .str _ => true
  | _ => false
theorem An.isS {K : PySem.W.Frag} {H : Hp} {v : V} {d : PyData} (h : An K H v d) : ∃ (t : Value) (b : Bool), TyX K H v t ∧ PySem.W.kitOne K t (.type "str") = some b ∧ b = isStr d := by
  cases h with
  | dict e => exact ⟨_, false, .base (.dK e), kit_ty (by decide +kernel), rfl⟩
  | dp h =>
    cases h with
    | non => exact ⟨_, false, .base .non, kit_ty (by decide +kernel), rfl⟩
    | bl b => exact ⟨_, false, .base (.bl b), kit_ty (by decide +kernel), rfl⟩
    | int i => exact ⟨_, false, .base (.int i), kit_ty (by decide +kernel), rfl⟩
    | str x => exact ⟨_, true, .base (.str x), kit_ty (by decide +kernel), rfl⟩
    | lst h _ => exact ⟨_, false, sql_ty h, kit_ty (by decide +kernel), rfl⟩
    | tup h _ => exact ⟨_, false, sqt_tyA h, kit_ty (by decide +kernel), rfl⟩
theorem An.str {K : PySem.W.Frag} {H : Hp} {v : V} {z : Str} (h : An K H v (.str z)) : v = .str z := by
  cases h with
  | dp h =>
    cases h with
    | str x => rfl
theorem nostr {d : PyData} (h : isStr d = false) : ∀ z, d ≠ .str z := fun z e => by
  subst e
  cases h
theorem isstr {d : PyData} (h : isStr d = true) : ∃ z, d = .str z := by
  cases d <;> first | exact ⟨_, rfl⟩ | (exact absurd h (by simp [isStr]))
end
namespace SPL
section
open PySem
variable {prog : Program} {w : World} {K : Type} [DecidableEq K] {knd : KeyKind prog w K} {A : Around} {E : Value → Shared → Prop} {s : Shared}
theorem wpAny_dictPut_pairs {d : Addr} {kvs : List (K × Value)} {k : K} {key v : Value} {Q : Unit → Shared → Prop} (hkey : knd.is k key = true) (hm : s.heap.DictOf knd d kvs)
    (hQ : ∀ h', h'.DictOf knd d (stored kvs k v) → Heap.SameBut d s.heap h' → Q () { s with heap := h' })
    (hsz : kvs.length ≤ sizeLine) :
    wpAny (model prog w) A (dictPut d (knd.hash k) key v) Q E s := by
  obtain ⟨o, es, ep, ho, hc, hd, hk, hp, hn⟩ := hm
  have hes : es.size ≤ sizeLine := by have e1 := hp.length; have e2 : es.toList.length = es.size := by simp
                                      omega
  unfold dictPut
  refine wpAny_bind (wpAny_dictFind_of hkey ho hd hk ?_)
  have hidx : (es.findIdx? fun e => knd.is k e.key) = kvs.findIdx? fun kv => decide (kv.1 = k) := by
    rw [← hp.findIdx k]; obtain ⟨l⟩ := es; simp
  cases hi : es.findIdx? fun e => knd.is k e.key with
  | some i =>
    refine wpAny_updateDict ho hd (hQ _ ⟨_, _, ep, Heap.get?_update_self _ ho (Obj.isFreed_of_dict (Obj.data_mapDict hd _)),
      hc.mapDict _, Obj.data_mapDict hd _, hk.modify _ _, ?_, ?_⟩ (Heap.SameBut.update ..))
    · rw [stored, if_pos (any_of_findIdx_some (hidx ▸ hi))]
      have hl : (es.toList.findIdx? fun e => knd.is k e.key) = some i := by rw [← hi]; obtain ⟨l⟩ := es; simp
      have := hp.modify hn hl v
      obtain ⟨l⟩ := es
      simpa using this
    · rw [stored, if_pos (any_of_findIdx_some (hidx ▸ hi)), keys_map_store]; exact hn
  | none =>
    have hnot : k ∉ kvs.map (·.1) := not_mem_of_findIdx_none (hidx ▸ hi)
    have hany : ¬ (kvs.any fun kv => decide (kv.1 = k)) = true := by
      rw [List.any_eq_true]; rintro ⟨kv, hkv, he⟩
      exact hnot (List.mem_map.mpr ⟨kv, hkv, of_decide_eq_true he⟩)
    refine wpAny_updateDictKeys (hz := hes) ho hd (hQ _ ⟨_, _, ep + 1, Heap.get?_update_self _ ho (Obj.isFreed_of_dict (Obj.data_mapDictKeys hd _)),
      hc.mapDictKeys _, Obj.data_mapDictKeys hd _, hk.push hkey _, ?_, ?_⟩ (Heap.SameBut.update ..))
    · rw [stored, if_neg hany]
      have := hp.append hkey (knd.hash k) v
      obtain ⟨l⟩ := es
      simpa using this
    · rw [stored, if_neg hany, List.map_append, List.nodup_append]
      refine ⟨hn, by simp, ?_⟩
      intro a ha b hb
      simp only [List.map_cons, List.map_nil, List.mem_singleton] at hb
      subst hb
      exact fun e => hnot (e ▸ ha)
/-- what is merged into a dict from a plain one -/
theorem wpAny_mergeMapping {d a : Addr} {kvs more : List (K × Value)} {Q : Unit → Shared → Prop} (hda : d ≠ a) (haS : (a == sysModules) = false)
    (hnr : ∀ k x, knd.is k x = true → ∀ b, x ≠ .ref b)
    (hd : s.heap.DictOf knd d kvs) (ho : s.heap.DictOf knd a more)
    (hQ : ∀ h', h'.DictOf knd d (merged kvs more) → Heap.SameBut d s.heap h' → Q () { s with heap := h' })
    (hsz : kvs.length + more.length ≤ sizeLine) :
    wpAny (model prog w) A (mergeMapping d (.ref a) false) Q E s := by
  obtain ⟨od, esd, epd, hod, hcd, hdd, hkd, hpd, hnd⟩ := id hd
  have hT : s.TypeIs (.ref a) "dict" := ho.typeIs
  obtain ⟨oo, eso, epo, hoo, hco, hdo', hko, hpo, hno⟩ := id ho
  have hlen : more.length = eso.size := by rw [← hpo.length]; simp
  unfold mergeMapping
  have loop : wpAny (model prog w) A (do
      let l ← dictEntries a
      let epoch ← dictEpoch a
      forIn (List.range l.size) PUnit.unit fun i (_ : PUnit) => (do
          let l' ← dictEntries a
          match l'[i]? with
            | some e => do
              holding [e.key, e.val] (dictPut d e.hash e.key e.val)
              let ep' ← dictEpoch a
              if (ep' != epoch) = true then do
                  (unsupported "dict.changed-during-merge" : Sem PUnit)
                  pure (ForInStep.yield PUnit.unit)
                else pure (ForInStep.yield PUnit.unit)
            | _ => do
              (unsupported "dict.changed-during-merge" : Sem PUnit)
              pure (ForInStep.yield PUnit.unit) : Sem (ForInStep PUnit))
      pure ()) Q E s := by
    refine wpAny_bind (wpAny_dictEntries hoo hdo' ?_)
    refine wpAny_bind (wpAny_dictEpoch hoo hdo' ?_)
    refine wpAny_bind ?_
    rw [List.range_eq_range']
    refine wpAny_forIn_list _
      (fun rest _ s' => ∃ h' i, s' = { s with heap := h' } ∧ rest = List.range' i (eso.size - i) ∧ i ≤ eso.size ∧ h'.DictOf knd d (merged kvs (more.take i)) ∧ h'.get? a = some oo ∧ Heap.SameBut d s.heap h')
      _ ?_ ?_ _ _ ⟨s.heap, 0, rfl, by simp, Nat.zero_le _, by simpa [merged] using hd, hoo, Heap.SameBut.refl _ _⟩
    · rintro x rest b s' ⟨h', i, rfl, hr, hi, hd', hoo', hs'⟩
      have hlt : i < eso.size := by
        rcases Nat.lt_or_ge i eso.size with h | h
        · exact h
        · rw [Nat.sub_eq_zero_of_le h] at hr; simp at hr
      obtain ⟨rfl, hrest⟩ : x = i ∧ rest = List.range' (i + 1) (eso.size - (i + 1)) := by
        have e : eso.size - i = (eso.size - (i + 1)) + 1 := by omega
        rw [e, List.range'_succ] at hr
        injection hr with h1 h2
        exact ⟨h1, h2⟩
      refine wpAny_bind (wpAny_dictEntries hoo' hdo' ?_)
      rw [Array.getElem?_eq_getElem hlt]
      obtain ⟨kv, hkv⟩ : ∃ kv, more[x]? = some kv := ⟨more[x]'(by rw [hlen]; exact hlt), List.getElem?_eq_getElem _⟩
      obtain ⟨k, v⟩ := kv
      obtain ⟨hkey, hval⟩ := hpo.get? (e := eso[x]) (by simp [hlt]) hkv
      obtain ⟨k', hkey', hhash⟩ := hko eso[x] (Array.getElem_mem hlt)
      obtain rfl : k' = k := knd.inj _ _ _ hkey' hkey
      show wpAny _ _ (holding [eso[x].key, eso[x].val] (dictPut d eso[x].hash eso[x].key eso[x].val) >>= _) _ _ _
      rw [hhash, hval]
      have hmx : (merged kvs (more.take x)).length ≤ sizeLine := by
        have e1 := merged_length_le kvs (more.take x)
        have e2 : (more.take x).length ≤ more.length := by rw [List.length_take]; omega
        omega
      refine wpAny_bind (wpAny_holding (wpAny_dictPut_pairs (hsz := hmx) hkey hd' fun h'' hd'' hs'' => ?_))
      have hoo'' : h''.get? a = some oo := (hs''.2 a (Ne.symm hda)).trans hoo'
      refine wpAny_bind (wpAny_dictEpoch hoo'' hdo' ?_)
      rw [if_neg (by simp)]
      exact wpAny_pure ⟨h'', x + 1, rfl, hrest, hlt, by rw [merged_take_succ kvs more x (k', v) hkv]; exact hd'', hoo'', hs'.trans hs''⟩
    · rintro b s' ⟨h', i, rfl, hr, hi, hd', hoo', hs'⟩
      have hin : i = eso.size := by
        rcases Nat.lt_or_ge i eso.size with h | h
        · have e : eso.size - i = (eso.size - (i + 1)) + 1 := by omega
          rw [e, List.range'_succ] at hr; exact nomatch hr
        · exact Nat.le_antisymm hi h
      refine wpAny_pure (hQ h' ?_ hs')
      rw [hin, ← hlen, List.take_length] at hd'; exact hd'
  refine wpAny_bind (wpAny_isInstance hT PySem.F.sub_dict_dict ?_)
  dsimp only
  rw [if_pos rfl]
  refine wpAny_bind (wpAny_specialOf hT PySem.F.slot_dict_iter.lookup ?_)
  refine wpAny_bind (wpAny_pure ?_)
  rw [show (some (Value.builtin "dict.__iter__") == some (Value.builtin "dict.__iter__")) = true from by decide]
  dsimp only
  rw [if_neg (show ¬ (a == sysModules) = true by rw [haS]; decide)]
  refine wpAny_bind (wpAny_dictEntries hod hdd ?_)
  split
  · refine wpAny_bind (wpAny_dictEntries hoo hdo' ?_)
    refine wpAny_bind ?_
    rw [← Array.forIn_toList]
    refine wpAny_forIn_list _ (fun rest _ s' => s' = s ∧ ∀ e ∈ rest, ∃ k, knd.is k e.key = true) _ ?_ ?_ _ _ ⟨rfl, fun e he => ?_⟩
    · rintro e rest b s' ⟨rfl, he⟩
      obtain ⟨k, hk⟩ := he e (.head _)
      cases hv : e.key with
      | ref b2 => exact absurd hv (hnr k _ hk b2)
      | _ => exact wpAny_pure ⟨rfl, fun e' h' => he e' (.tail _ h')⟩
    · rintro b s' ⟨rfl, _⟩
      exact loop
    · obtain ⟨k, h1, _⟩ := hko e (by simpa using he)
      exact ⟨k, h1⟩
  · exact loop
theorem wpAny_Dict_splat {e k v : Expr} {env : Env} {pos : Pos} {Q : Value → Shared → Prop} (hnr : ∀ k x, knd.is k x = true → ∀ b, x ≠ .ref b)
    (h : wpAny (model prog w) A (eval e env) (fun m s1 => ∃ a more, m = .ref a ∧ s.heap.objs.size ≠ a ∧ (a == sysModules) = false ∧ s1.heap.DictOf knd s.heap.objs.size [] ∧ s1.heap.DictOf knd a more ∧ more.length ≤ sizeLine ∧
      ∀ h1, h1.DictOf knd s.heap.objs.size (merged [] more) → Heap.SameBut s.heap.objs.size s1.heap h1 →
        wpAny (model prog w) A (eval k env) (fun kv s2 => wpAny (model prog w) A (eval v env) (fun vv s3 => ∃ key kvs, knd.is key kv = true ∧ s.heap.objs.size ≠ h1.objs.size ∧ (h1.objs.size == sysModules) = false ∧ s3.heap.DictOf knd h1.objs.size [] ∧ s3.heap.DictOf knd s.heap.objs.size kvs ∧ kvs.length + 1 ≤ sizeLine ∧
          ∀ h4 h5, h4.DictOf knd h1.objs.size [(key, vv)] → Heap.SameBut h1.objs.size s3.heap h4 → h5.DictOf knd s.heap.objs.size (merged kvs [(key, vv)]) → Heap.SameBut s.heap.objs.size h4 h5 → Q (.ref s.heap.objs.size) { s3 with heap := h5, toks := s3.toks + 1 }) E s2) E { s1 with heap := h1.push { cls := .type "dict", data := .dict #[] } }) E { s with heap := s.heap.push { cls := .type "dict", data := .dict #[] } }) :
    wpAny (model prog w) A (eval (.Dict [none, some k] [e, v] pos) env) Q E s := by
  rw [arm_eval_Dict]
  refine wpAny_bind (wpAny_standAt ?_)
  show wpAny (model prog w) A (dictDisplay [(none, (do let x ← eval e env; standAt pos; pure x)), (some (eval k env), (do let x ← eval v env; standAt pos; pure x))]) Q E s
  unfold dictDisplay
  dsimp only
  rw [List.forIn_cons]
  refine wpAny_bind (wpAny_bind (wpAny_bind ?_))
  rw [if_pos (show ([] : List (Sem Value × Sem Value)).isEmpty = true from rfl)]
  refine wpAny_pure ?_
  dsimp only
  refine wpAny_bind (wpAny_alloc ?_)
  refine wpAny_bind (wpAny_holding (wpAny_bind (wpAny_mono h (fun m s1 h1 => wpAny_bind (wpAny_standAt (wpAny_pure ?_))) fun _ _ e => e)))
  obtain ⟨a, more, rfl, hda, haS, hd, ho, hsz, h⟩ := h1
  refine wpAny_bind (wpAny_onRaise (wpAny_tryCatch (wpAny_onRaise (wpAny_holding (wpAny_mergeMapping hda haS hnr hd ho (fun h' hd' hs' => ?_) (by rw [List.length_nil]; omega))))))
  have h2 := h h' hd' hs'
  refine wpAny_pure ?_
  dsimp only
  rw [List.forIn_cons]
  dsimp only
  have hne : ∀ p : Sem Value × Sem Value, (([] ++ [p]).length == 17) = false := fun _ => rfl
  have hne2 : ∀ p : Sem Value × Sem Value, ([] ++ [p]).isEmpty = false := fun _ => rfl
  simp only [hne, Bool.false_eq_true, if_false]
  refine wpAny_bind ?_
  refine wpAny_pure ?_
  dsimp only
  rw [List.forIn_nil]
  refine wpAny_pure ?_
  dsimp only
  simp only [hne2, Bool.false_eq_true, if_false]
  refine wpAny_bind (wpAny_bind (wpAny_holding (wpAny_subDict (knd := knd) (Nat.le_trans (Nat.le_refl 1) (by decide)) ?_)))
  refine evalPairs_cons (wpAny_mono h2 (fun kv s2 h3 => wpAny_bind (wpAny_mono h3 (fun vv s3 h4 => wpAny_bind (wpAny_standAt (wpAny_pure (evalPairs_nil ?_)))) fun _ _ e => e)) fun _ _ e => e)
  obtain ⟨key, kvs, hkey, hdq, hqS, hq, hd3, hsz3, h5⟩ := h4
  refine ⟨[(key, vv)], ⟨hkey, rfl, trivial⟩, hq, fun h6 hd6 hs6 => ?_⟩
  have hd6 : h6.DictOf knd h'.objs.size [(key, vv)] := hd6
  refine wpAny_bind (wpAny_onRaise (wpAny_holding (wpAny_mergeMapping hdq hqS hnr (hd3.sameBut hs6 hdq) hd6 (fun h7 hd7 hs7 => ?_) hsz3)))
  refine wpAny_pure (wpAny_pure ?_)
  exact h5 h6 h7 hd6 hs6 hd7 hs7
end
section
open PySem PySem.Spec PyProof.Rows L2
theorem mix_nref {P : Program} {w : World} (k : Key) (x : Value) (h : (mixKind P w).is k x = true) : ∀ b, x ≠ .ref b := fun b e => by
  subst e
  cases k <;> cases (show false = true from h)
/-- {**e, k: v}: the dict of e with one more -/
def tSplat (te tk tv : TE) : TE := fun σ H Q => ∀ p, H p = none → te σ (upd H p (.dK [])) fun x H1 => ∃ (a : Addr) (more : List (Key × V)), x = .ref a ∧ p ≠ a ∧ H1 p = some (.dK []) ∧ H1 a = some (.dK more) ∧ (more.map (·.1)).Nodup ∧ more.length < sizeLine ∧
  ∀ q, (upd H1 p (.dK more)) q = none → tk σ (upd (upd H1 p (.dK more)) q (.dK [])) fun y H3 => tv σ H3 fun z H4 => ∃ key : Key, y = kV key ∧ H4 q = some (.dK []) ∧ H4 p = some (.dK more) ∧ Q (.ref p) (upd (upd H4 q (.dK [(key, z)])) p (.dK (putK more key z)))
theorem mergeK_nil : ∀ {more : List (Key × V)}, (more.map (·.1)).Nodup → mergeK [] more = more := by
  have h : ∀ (more acc : List (Key × V)), ((acc ++ more).map (·.1)).Nodup → mergeK acc more = acc ++ more := by
    intro more
    induction more with
    | nil => intro acc _; rw [List.append_nil]; rfl
    | cons p r ih =>
      intro acc hn
      have e : putK acc p.1 p.2 = acc ++ [p] := by
        unfold putK
        rw [if_neg]
        rw [List.any_eq_true]
        rintro ⟨x, hx, he⟩
        rw [List.map_append, List.map_cons, List.nodup_append] at hn
        exact hn.2.2 x.1 (List.mem_map.mpr ⟨x, hx, rfl⟩) p.1 List.mem_cons_self (by simpa using he)
      show mergeK (putK acc p.1 p.2) r = _
      rw [e, ih (acc ++ [p]) (by rw [List.append_assoc]; exact hn), List.append_assoc]
      rfl
  intro more hn
  exact h more [] (by simpa using hn)
theorem pe_splat {X : Cx} {pos : Pos} {e k v : Expr} {te tk tv : TE} (he : PE X e te) (hk : PE X k tk) (hv : PE X v tv) : PE X (.Dict [none, some k] [e, v] pos) (tSplat te tk tv) := by
  refine ⟨fun pins s σ H Q I h => ?_⟩
  have hn := I.hok.fresh (Nat.le_refl s.heap.objs.size)
  have I1 := I.laid (a := s.heap.objs.size) (o := .dK []) (h' := s.heap.push { cls := .type "dict", data := .dict #[] }) (t' := s.toks) (fun _ _ q => Heap.get?_push_of_some _ q) (Nat.le_refl _) (dk_empty s.heap I.big)
  refine wpAny_Dict_splat (knd := mixKind X.prog X.w) mix_nref (thn (he.run pins _ σ _ _ I1 (h _ hn)) fun u s1 ⟨x, H1, I1, rx, a, more, ex, hda, hp, ha, hnd, hsz, q⟩ => ?_)
  subst ex
  obtain rfl : u = Value.ref a := rx
  obtain ⟨z1, lo1, vs0, r0, dd1⟩ := dk_of I1.hok hp
  cases r0
  obtain ⟨z2, lo2, rs, rel2, dd2⟩ := dk_of I1.hok ha
  refine ⟨a, rs, rfl, hda, lo2, dd1, dd2, by rw [← rel2.length]; omega, fun h1 hd1 hs1 => ?_⟩
  have hz' : (mergeK [] more).length ≤ sizeLine := by rw [mergeK_nil hnd]; omega
  have he1 : ∃ q, h1.get? s.heap.objs.size = some q := let ⟨q, _, _, hq, _⟩ := hd1; ⟨q, hq⟩
  have I2 := d_write (t' := s1.toks) I1 (by rw [hp]; exact True.intro) hs1 he1 (dk_new hz' lo1 (rel2.merge .nil) hd1)
  rw [mergeK_nil hnd] at I2
  have hn2 := I2.hok.fresh (Nat.le_refl h1.objs.size)
  have I3 := I2.laid (a := h1.objs.size) (o := .dK []) (h' := h1.push { cls := .type "dict", data := .dict #[] }) (t' := s1.toks) (fun _ _ q => Heap.get?_push_of_some _ q) (Nat.le_refl _) (dk_empty h1 I2.big)
  refine thn (hk.run pins _ σ _ _ I3 (q _ hn2)) fun kv s2 ⟨y, H3, I4, ry, q2⟩ => thn (hv.run pins s2 σ H3 _ I4 q2) fun vv s3 ⟨z, H4, I5, rz, key, ey, hq, hp4, q3⟩ => ?_
  subst ey
  obtain ⟨z5, lo5, vs5, r5, dd5⟩ := dk_of I5.hok hq
  cases r5
  obtain ⟨z6, lo6, ws, r6, dd6⟩ := dk_of I5.hok hp4
  have hpq : s.heap.objs.size ≠ h1.objs.size := fun e => by
    rw [← e, upd_same] at hn2
    cases hn2
  refine ⟨key, ws, kV_is ry, hpq, lo5, dd5, dd6, by rw [← r6.length]; exact hsz, fun h4 h5 hd4 hs4 hd5 hs5 => ?_⟩
  have he4 : ∃ q, h4.get? h1.objs.size = some q := let ⟨q, _, _, hq, _⟩ := hd4; ⟨q, hq⟩
  have I6 := d_write (t' := s3.toks) (ob := .dK [(key, z)]) I5 (by rw [hq]; exact True.intro) hs4 he4 (dk_new (Nat.le_trans (Nat.le_refl 1) (by decide)) lo5 (.cons ⟨rfl, rz⟩ .nil) hd4)
  have he5 : ∃ q, h5.get? s.heap.objs.size = some q := let ⟨q, _, _, hq, _⟩ := hd5; ⟨q, hq⟩
  have lk := length_putK more key z
  have I7 := d_write (t' := s3.toks + 1) (ob := .dK (putK more key z)) I6 (by rw [upd_ne hpq, hp4]; exact True.intro) hs5 he5 (dk_new (by omega) lo1 (r6.put key rz) hd5)
  exact ⟨.ref s.heap.objs.size, _, I7, rfl, q3⟩
end
end SPL

section
open PySem PySem.Spec PyProof.Rows L2
/-- o.f = .. as one of several targets -/
def gFld (K : PySem.W.Frag) (to : TE) (f : Str) : TG := fun v σ H Q => to σ H fun x H1 => ∃ a C dx fs, x = .ref a ∧ H1 a = some (.ins C dx fs) ∧ Cls K C ∧ NoAttr K C f ∧ fs.length < 1000 ∧ Q σ (upd H1 a (.ins C dx (putF f v fs)))
theorem pg_fld {X : Cx} {o : Expr} {f : Str} {pos : Pos} {to : TE} (ho : PE X o to) : PG X (.Attribute o f pos) (gFld X.K to f) := by
  refine ⟨fun pins s σ H v u Q I r h => ?_⟩
  rw [PySem.assign_Attribute]
  refine wpAny_bind (wpAny_holding (thn (ho.run pins s σ H _ I h) fun ov s1 ⟨x, H1, I1, rx, a, C, dx, fs, ex, ea, c, n, l, q⟩ => ?_))
  subst ex
  obtain rfl : ov = Value.ref a := rx
  refine wpAny_bind (wpAny_standAt (wpAny_bind (wpAny_holding (setattr_ok I1 ea c n l r fun s2 I2 => ?_))))
  exact wpAny_release ⟨σ, _, I2, q⟩
end
/-! sorted(xs, key=lambda row: row[i]) -/
namespace SL
open PySem PySem.Spec PyProof.Rows L2 LamX PySem.W
/-- a key: a whole number, or a tuple of whole numbers -/
def KeyV (K : PySem.W.Frag) (H : Hp) (v : V) (d : PyData) : Prop :=
  (∃ n, v = .int n ∧ d = .int n) ∨ ∃ (c : Addr) (ns : List Int), v = .ref c ∧ SqT K H c (ns.map V.int) ∧ d = .tuple (ns.map PyData.int)
theorem depthAll_ints : ∀ ns : List Int, PyData.depthAll (ns.map PyData.int) = 0
  | [] => by simp [PyData.depthAll]
  | n :: ns => by simp [PyData.depthAll, PyData.depth, depthAll_ints ns]
theorem KeyV.depth {K : PySem.W.Frag} {H : Hp} {v : V} {d : PyData} (k : KeyV K H v d) : d.depth ≤ 1 := by
  rcases k with ⟨n, _, rfl⟩ | ⟨c, ns, _, _, rfl⟩
  · simp [PyData.depth]
  · simp [PyData.depth, depthAll_ints]
theorem reads_ints (h : Heap) : ∀ (ns : List Int) (vs : List Value), Vals (ns.map V.int) vs → ReadsAll h vs (ns.map PyData.int) [] := by
  intro ns
  induction ns with
  | nil =>
    intro vs r
    cases r
    exact .nil
  | cons n ns ih =>
    intro vs r
    obtain ⟨u, us, rfl, ru, rr⟩ : ∃ u us, vs = u :: us ∧ RelV (.int n) u ∧ Vals (ns.map V.int) us := by
      cases r with
      | cons a b => exact ⟨_, _, rfl, a, b⟩
    obtain ⟨t, rfl⟩ := ru
    exact .cons (as := []) (bs := []) (.int n t) (ih us rr)
section
variable {X : Cx} {pins : List (Addr × Obj)} {σ : L2.St} {H : Hp} {s : Shared}
theorem KeyV.reads {v : V} {d : PyData} {u : Value} (I : Inv X pins σ H s) (k : KeyV X.K H v d) (r : RelV v u) : Reads s.heap u d [] := by
  rcases k with ⟨n, rfl, rfl⟩ | ⟨c, ns, rfl, hs, rfl⟩
  · obtain ⟨t, rfl⟩ := r
    exact .int n t
  · obtain rfl : u = Value.ref c := r
    obtain ⟨its, rv, ⟨o, ho, hc, n, hd⟩, _⟩ := I.tuple hs
    exact .tuple ho hc hd (by simpa using reads_ints _ ns its rv)
end
section
variable {prog : Program} {w : World} {A : Around} {s : Shared}
/-- one turn of the key: the lambda gives the row's item, and keeps the heap -/
theorem lam_turn {f c' t : Addr} {x q : Str} {params : Arguments} {scope : Scope} {pm ctv : Value} {i : Int} {kd j : Nat} {p1 p2 p3 : Pos} {items : Array Value} {u : Value} {k : PyData}
    (hf : s.heap.get? f = some (PySem.W.kla_obj "<lambda>" q params (.Subscript (.Name x p1) (.Constant (.int i) kd p2) p3) scope [] pm c' ctv)) (hcode : s.heap.CodeRec (.ref c') q) (hlim : s.heap.NoLimit) (hroom : A.depth < recursionLimit)
    (hbind : ∀ v : Value, bindArgs (PySem.W.kla_fn "<lambda>" q params (.Subscript (.Name x p1) (.Constant (.int i) kd p2) p3) scope [] pm (.ref c') ctv) ⟨[v], []⟩ = pure [(x, v)])
    (hk : scope.kind = .function) (hco : scope.isCoroutine = false) (hgen : scope.isGenerator = false) (hcell : ∀ y ∈ scope.names, y.2 ≠ .cell) (hloc : scope.names.lookup x = some .local) (hdb : (x == ("__debug__" : Str)) = false)
    (ht : IsTup s.heap t items) (h0 : -(2 ^ 63) ≤ i) (h1 : i < 2 ^ 63) (hj : seqIndex? i items.size = some j) (hi : items[j]? = some u) (hr : Reads s.heap u k []) :
    wpAny (model prog w) A (call (.ref f) [.ref t]) (PySem.W.KeyPure k s) (fun _ _ => False) s := by
  refine wpAny_call (PySem.W.kla_callFunE hroom hf rfl hco hgen rfl hcode ?_)
  rw [hbind]
  refine wpAny_pure (wpAny_newFunctionEnv hcell (fun y hy => by
    rcases List.mem_singleton.mp hy with rfl
    exact hloc) (fun h₁ hns hsb => ⟨hlim.fresh _ hsb, ?_⟩) hk)
  have kp : ∀ b o, s.heap.get? b = some o → h₁.get? b = some o := fun b o e => hsb.extBut b o (Nat.ne_of_lt (Heap.lt_size e)) (Heap.get?_push_of_some _ e)
  refine PySem.W.kla_codeExpr (wpAny_Subscript_Constant_late ?_)
  refine wpAny_Name (wpAny_loadName_local (m := fun y => [(x, Value.ref t)].reverse.lookup y) (v := .ref t) hk hloc hns (by simp [List.lookup]) ?_) hdb
  refine wpAny_Constant_int ⟨"tuple", _, slot_tuple_getitem.lookup, (ht.keeps kp).typeIs, ?_⟩
  exact getItem_tuple (j := j) (ht.keeps kp) h0 h1 hj hi ⟨_, _, rfl, fun b o e => kp b o e, PyProof.Rows.Reads.keeps kp hr⟩
end
/-- what each row is: its text as a value, its key -/
def RowV (K : PySem.W.Frag) (H : Hp) (i : Int) (b : V × PyData) : Prop := ∃ t xs kv, b.1 = V.ref t ∧ SqT K H t xs ∧ atI xs i = some kv ∧ KeyV K H kv b.2
def tSortLam (K : PySem.W.Frag) (T : List (Addr × Str)) (i : Int) (te : TE) : TE := fun σ H Q => te σ H fun x H1 => ∃ (l : Addr) (bs : List (V × PyData)), x = .ref l ∧ SqL K H1 l (bs.map (·.1)) ∧ AllAlike (bs.map (·.2)) ∧ Sortable (bs.map (·.2)) ∧
  (∀ b ∈ bs, RowV K H1 i b) ∧ Tabs T H1 ∧ ∀ H2 p, ExtN H1 H2 → Tabs T H2 → H2 p = none → Q (.ref p) (upd H2 p (.lst ((bs.mergeSort (PySem.W.dataLe false (·.2))).map (·.1))))
section
variable {X : Cx}
theorem SqT.extN {K : PySem.W.Frag} {H H' : Hp} {a : Addr} {xs : List V} (h : SqT K H a xs) (e : ExtN H H') : SqT K H' a xs :=
  h.elim (fun r => .inl (r.elim (fun r => .inl (e _ _ r fun ps z => by cases z)) fun ⟨o, r⟩ => .inr ⟨o, e _ _ r fun ps z => by cases z⟩)) .inr
theorem SqL.extN {K : PySem.W.Frag} {H H' : Hp} {a : Addr} {xs : List V} (h : SqL K H a xs) (e : ExtN H H') : SqL K H' a xs :=
  h.elim (fun r => .inl (r.elim (fun r => .inl (e _ _ r fun ps z => by cases z)) fun ⟨o, r⟩ => .inr ⟨o, e _ _ r fun ps z => by cases z⟩)) .inr
theorem KeyV.extN {K : PySem.W.Frag} {H H' : Hp} {v : V} {d : PyData} (k : KeyV K H v d) (e : ExtN H H') : KeyV K H' v d :=
  k.elim .inl fun ⟨c, ns, a, b, z⟩ => .inr ⟨c, ns, a, SqT.extN b e, z⟩
theorem RowV.extN {K : PySem.W.Frag} {H H' : Hp} {i : Int} {b : V × PyData} (r : RowV K H i b) (e : ExtN H H') : RowV K H' i b := by
  obtain ⟨t, xs, kv, a, b, c, d⟩ := r
  exact ⟨t, xs, kv, a, SqT.extN b e, c, d.extN e⟩
theorem eachIs_vals {H : Hp} {R : Value → V × PyData → Prop} : ∀ (bs : List (V × PyData)) (us : List Value), Vals (bs.map (·.1)) us → (∀ b ∈ bs, ∀ u, RelV b.1 u → R u b) → PySem.W.EachIs R us bs := by
  intro bs
  induction bs with
  | nil =>
    intro us r _
    cases r
    exact .nil
  | cons b bs ih =>
    intro us r h
    obtain ⟨u, vs, rfl, ru, rr⟩ : ∃ u vs, us = u :: vs ∧ RelV b.1 u ∧ Vals (bs.map (·.1)) vs := by
      cases r with
      | cons a b => exact ⟨_, _, rfl, a, b⟩
    exact .cons (h b (.head _) u ru) (ih vs rr fun c hc => h c (.tail _ hc))
theorem vals_eachIs {R : Value → V × PyData → Prop} (h : ∀ u b, R u b → RelV b.1 u) : ∀ {us : List Value} {bs : List (V × PyData)}, PySem.W.EachIs R us bs → Vals (bs.map (·.1)) us := by
  intro us bs e
  induction e with
  | nil => exact .nil
  | cons a _ ih => exact .cons (h _ _ a) ih
/-- sorted(e, key=lambda y: y[i]) -/
theorem pe_sortLam {T : List (Addr × Str)} {y : Str} {c P : Addr} {k kd : Nat} {params : Arguments} {scope : Scope} {e : Expr} {te : TE} {i : Int} {p p1 p2 p3 lpos kpos pos : Pos}
    (hg : Gl X "sorted") (hm : X.mg "sorted" = none) (ha : PE X e te) (TB : TabB X.base X.mg c P) (hcode : X.env.code = .ref c) (hmT : (P, X.env.qual ++ "<lambda>") ∈ T) (hu : ∀ p ∈ T, p.1 = P → p.2 = X.env.qual ++ "<lambda>") (hr : Room k X.A)
    (hdef : defaultsOf params X.env = ([], [])) (hfree : ∀ y ∈ scope.names, y.2 ≠ .free) (hcell : ∀ y ∈ scope.names, y.2 ≠ .cell)
    (hbind : ∀ (q : Str) (b : Expr) (pm cv ctv v : Value), bindArgs (PySem.W.kla_fn "<lambda>" q params b scope [] pm cv ctv) ⟨[v], []⟩ = pure [(y, v)])
    (hk : scope.kind = .function) (hco : scope.isCoroutine = false) (hgen : scope.isGenerator = false) (hloc : scope.names.lookup y = some .local) (h0 : -(2 ^ 63) ≤ i) (h1 : i < 2 ^ 63) (hclo : cloFrom X.env.cells scope.names [] = [] := by rfl)
    (hdb : (y == ("__debug__" : Str)) = false := by decide) (hst : starEach [e] X.env = (false, eval e X.env) :: starEach [] X.env := by rfl)
    (he : backTo pos (starEach [e] X.env) = (false, eval e X.env) :: backTo pos (starEach [] X.env) := by rfl) (hpl : (backTo pos (starEach [e] X.env)).any (·.1) = false := by rfl) :
    PE X (.Call (.Name "sorted" p) [e] [⟨some "key", .Lambda params (.Subscript (.Name y p1) (.Constant (.int i) kd p2) p3) scope lpos, kpos⟩] pos) (tSortLam X.K T i te) := by
  refine ⟨fun pins s σ H Q I h => ?_⟩
  refine wpAny_Call_Name_kw (ld_blt (u := .builtin "sorted") I hg hm (by decide +kernel) ?_)
  refine PyProof.Rows.callWith_kw ?_ he hpl rfl rfl
  refine thn ((pa_cons ha pa_nil hst).run pos pins s σ H (fun xs H1 => match xs with
    | [x] => ∃ (l : Addr) (bs : List (V × PyData)), x = .ref l ∧ SqL X.K H1 l (bs.map (·.1)) ∧ AllAlike (bs.map (·.2)) ∧ Sortable (bs.map (·.2)) ∧
      (∀ b ∈ bs, RowV X.K H1 i b) ∧ Tabs T H1 ∧ ∀ H2 p, ExtN H1 H2 → Tabs T H2 → H2 p = none → Q (.ref p) (upd H2 p (.lst ((bs.mergeSort (PySem.W.dataLe false (·.2))).map (·.1))))
    | _ => False) I h) fun us s1 ⟨vs, H1, I1, r1, q1⟩ => ?_
  obtain ⟨x, rfl⟩ : ∃ x, vs = [x] := by
    match vs, q1 with
    | [x], _ => exact ⟨x, rfl⟩
  obtain ⟨l, bs, rfl, hs, hal, hsk, hrow, hT, q⟩ := q1
  obtain rfl := Vals.ref1 r1
  show wpAny _ _ (evalAll ((do let v ← eval (.Lambda params (.Subscript (.Name y p1) (.Constant (.int i) kd p2) p3) scope lpos) X.env; standAt pos; pure v) :: [])) _ _ s1
  refine wpAny_evalAll_cons (wpAny_bind (lam_make2 I1 TB hcode hmT hu hT hdef (fun y hy z => absurd z (hfree y hy)) fun f c' pm ctv H2 s2 I2 eN T2 hf hfn hfr hcO => wpAny_bind (wpAny_standAt (wpAny_pure (wpAny_evalAll_nil ?_)))))
  rw [hclo] at hf
  have hs2 := SqL.extN hs eN
  obtain ⟨its, rv, hl, hz⟩ := I2.list hs2
  rw [List.length_map] at hz
  obtain ⟨⟨oc, ws, t, hoc, hdc, hvc⟩, _, _⟩ := I2.hok c' _ hcO
  refine PySem.W.sorted_key_data (b := false) (R := fun u (b : V × PyData) => RelV b.1 u) (bs := bs) (fun b => b.2) hl.isList (eachIs_vals (H := H2) bs its rv fun b _ u r => r) hal hsk hz (fun b hb => ?_) (ksk_s1 _ _) (fun _ => ksk_l1 _ _) (fun _ => ksk_t1 _ _)
    (fun v b hR hb h tk kp => ?_) fun out c3 h' tk kp hnone hnew hlen eo => ?_
  · obtain ⟨_, _, kv, _, _, _, hkv⟩ := hrow b hb
    have := hkv.depth
    have := hr.un
    omega
  · obtain ⟨t', xs, kv, e1, e2, e3, e4⟩ := (hrow b hb).extN eN
    rw [e1] at hR
    obtain rfl : v = Value.ref t' := hR
    have I3 : Inv X pins σ H2 { s2 with heap := h, toks := tk } := I2.kept kp
    obtain ⟨us, ru, ht, _⟩ := I3.tuple e2
    obtain ⟨j, a1, a2, a3, _, _⟩ := atI_get e3
    obtain ⟨w, ew, rw'⟩ := ru.get a2
    exact lam_turn (i := i) (items := us.toArray) (u := w) (j := j) (kp _ _ hf) ⟨c', oc, ws, t, rfl, kp _ _ hoc, hdc, hvc⟩ I3.nolimit (by show X.A.depth < _; exact hr.depth) (fun v => hbind _ _ _ _ _ v) hk hco hgen hcell hloc hdb
      ht h0 h1 (by rw [List.size_toArray, ← ru.length]; exact a1) (by simpa using ew) (KeyV.reads I3 e4 rw')
  · refine ⟨.ref _, upd H2 (s2.heap.objs.size + 1) (.lst ((bs.mergeSort (PySem.W.dataLe false (·.2))).map (·.1))), I2.laid (t' := tk) kp (Nat.le_succ _) ⟨?_, out, c3, vals_eachIs (fun _ _ r => r) eo, hnew⟩, rfl, q _ _ eN T2 (I2.hok.fresh (Nat.le_succ _))⟩
    rw [List.length_map, List.length_mergeSort]
    exact hz
end
end SL
/-! sets made of a list of ints or texts, with doubles: len(set(xs)), sorted(set(xs)) of texts; len(set(xs)) of tuples of ints -/
namespace SM
open PySem PySem.Spec PyProof.Rows L2
def keyM (v : Value) : Key := match v with | .int k _ => .inl k | .str x _ => .inr x | _ => .inl 0
def GoodM (P : Program) (w : World) (e : Int × Value) : Prop := ∃ k : Key, RelV (kV k) e.2 ∧ e.1 = (mixKind P w).hash k
theorem keyM_of {k : Key} {v : Value} (r : RelV (kV k) v) : keyM v = k := by
  cases k with
  | inl i =>
    obtain ⟨t, rfl⟩ := r
    rfl
  | inr x =>
    obtain ⟨t, rfl⟩ := r
    rfl
/-- the set of keys at a, that can be walked -/
def SetM (P : Program) (w : World) (h : Heap) (a : Addr) (S : Key → Bool) (n : Nat) : Prop :=
  ∃ o es ep t, h.get? a = some o ∧ o.ExactSet ∧ o.data = .set es ep t ∧ (∀ e ∈ es.toList, GoodM P w e) ∧ (es.toList.map fun e => keyM e.2).Nodup ∧ (∀ k, S k = true ↔ k ∈ es.toList.map fun e => keyM e.2) ∧
    es.size < scanBound ∧ t.fits es.size = true ∧ es.size = n ∧ Ris t.place.toList ∧ (w.params.followText "set-order" = true ∨ t.led = true)
section
variable {P : Program} {w : World} {h h' : Heap} {a : Addr} {S : Key → Bool} {n : Nat}
theorem SetM.at (R : SetM P w h a S n) (k : ∀ o, h.get? a = some o → h'.get? a = some o) : SetM P w h' a S n := by
  obtain ⟨o, es, ep, t, ho, r⟩ := R
  exact ⟨o, es, ep, t, k o ho, r⟩
theorem goodM_elems {l : List (Int × Value)} (g : ∀ e ∈ l, GoodM P w e) : ElemsOf (mixKind P w) l := fun e he => by
  obtain ⟨k, h1, h2⟩ := g e he
  exact ⟨⟨k, kV_is h1, h2⟩, key_scan h1⟩
theorem goodM_is {e : Int × Value} (g : GoodM P w e) (k : Key) : (mixKind P w).is k e.2 = true ↔ keyM e.2 = k := by
  obtain ⟨k0, h1, _⟩ := g
  rw [keyM_of h1]
  constructor
  · intro q
    exact (mixKind P w).inj _ _ _ (kV_is h1) q
  · rintro rfl
    exact kV_is h1
theorem goodM_mem {l : List (Int × Value)} (g : ∀ e ∈ l, GoodM P w e) (k : Key) : (k ∈ l.map fun e => keyM e.2) ↔ ∃ e ∈ l, (mixKind P w).is k e.2 = true := by
  rw [List.mem_map]
  constructor
  · rintro ⟨e, he, q⟩
    exact ⟨e, he, (goodM_is (g e he) k).2 q⟩
  · rintro ⟨e, he, q⟩
    exact ⟨e, he, (goodM_is (g e he) k).1 q⟩
end
section
variable {P : Program} {w : World} {A : Around} {E : Value → Shared → Prop} {s : Shared} {a : Addr} {S : Key → Bool} {n : Nat}
theorem setM_add_tail {g : Bool → Sem Unit} (hg : ∀ (b : Bool) (s₁ : Shared) (Q' : Unit → Shared → Prop), Q' () s₁ → wpAny (model P w) A (g b) Q' E s₁)
    {o : Obj} {es : Array (Int × Value)} {ep : Nat} {t : SetTable} (ho : s.heap.get? a = some o) (hex : o.ExactSet) (hd : o.data = .set es ep t)
    {es1 : Array (Int × Value)} {t2 : SetTable} {S' : Key → Bool} (g1 : ∀ e ∈ es1.toList, GoodM P w e) (nd1 : (es1.toList.map fun e => keyM e.2).Nodup) (m1 : ∀ k, S' k = true ↔ k ∈ es1.toList.map fun e => keyM e.2)
    (hb1 : es1.size < scanBound) (hf2 : t2.fits es1.size = true) (hr : Ris t2.place.toList) (hl : w.params.followText "set-order" = true ∨ t2.led = true) {wasDummy : Bool} {R : Option Bool → Shared → Prop}
    (hR : ∀ h', Heap.SameBut a s.heap h' → SetM P w h' a S' es1.size → R (some true) { s with heap := h' }) :
    wpAny (model P w) A (do
        storeSet a es1 t2
        if (!wasDummy && t2.tooFull) = true then do
            g (relayAll t2 es1 (SetTable.grown es1.size)).2.2
            storeSet a (relayAll t2 es1 (SetTable.grown es1.size)).1 (relayAll t2 es1 (SetTable.grown es1.size)).2.1
            pure (some true)
          else pure (some true)) R E s := by
  refine wpAny_bind (wpAny_storeSet_of ho hd ?_ (fits_of_scanBound hb1))
  have ho1 := store_at (es' := es1) (t' := t2) ho hd
  have sb1 := Heap.SameBut.update s.heap a (Obj.putSet es1 t2)
  split
  · have pm := relayAll_perm t2 es1 (SetTable.grown es1.size)
    have hf3 := relayAll_fits t2 es1 (SetTable.grown es1.size)
    have hr3 := relayAll_ris t2 es1 (SetTable.grown es1.size)
    have hl3 := relayAll_led t2 es1 (SetTable.grown es1.size)
    generalize relayAll t2 es1 (SetTable.grown es1.size) = Z at pm hf3 hr3 hl3 ⊢
    obtain ⟨es2, t3, gave⟩ := Z
    dsimp only at pm hf3 hr3 hl3 ⊢
    have hsz : es2.size = es1.size := by rw [← Array.length_toList, pm.length_eq, Array.length_toList]
    have hb2 : es2.size < scanBound := by rw [hsz]; exact hb1
    refine wpAny_bind (hg _ _ _ ?_)
    refine wpAny_bind (wpAny_storeSet_of ho1 rfl ?_ (fits_of_scanBound hb2))
    have ho2 := store_at (es' := es2) (t' := t3) ho1 rfl
    refine wpAny_pure (hR _ (sb1.trans (Heap.SameBut.update _ a _)) ?_)
    exact ⟨_, es2, _, t3, ho2, hex, rfl, fun e he => g1 e (pm.mem_iff.mp he), (pm.map fun e => keyM e.2).nodup_iff.mpr nd1, fun k => (m1 k).trans (pm.map fun e => keyM e.2).mem_iff.symm, hb2, hf3, hsz, hr3,
      hl.imp id fun z => by rw [hl3]; exact z⟩
  · exact wpAny_pure (hR _ sb1 ⟨_, es1, _, t2, ho1, hex, rfl, g1, nd1, m1, hb1, hf2, rfl, hr, hl⟩)
theorem setM_add_hashed {k : Key} {u : Value} {Q : Bool → Shared → Prop} (ru : RelV (kV k) u) (R : SetM P w s.heap a S n) (room : n + 1 < scanBound)
    (hQ : ∀ h', Heap.SameBut a s.heap h' → SetM P w h' a (fun j => S j || decide (j = k)) (if S k = true then n else n + 1) → Q (!S k) { s with heap := h' }) :
    wpAny (model P w) A (setAddHashed a u ((mixKind P w).hash k)) Q E s := by
  obtain ⟨o, es, ep, t, ho, hex, hd, g, nd, hm, hb, hf, hn, hr, hl⟩ := R
  have hkey : (mixKind P w).is k u = true := kV_is ru
  have hsc : u.scannable = true := key_scan ru
  have hel : ElemsOf (mixKind P w) es.toList := goodM_elems g
  unfold setAddHashed setAddHashedIn
  refine wpAny_holding (wpAny_bind (wpAny_setState_of ho hd hf ?_))
  dsimp only
  rw [byScan_of hsc hb hel]
  simp only [↓reduceIte]
  unfold setAddByScan
  refine wpAny_bind ?_
  refine wpAny_bind (wpAny_rule ?_)
  refine wpAny_bind (wpAny_setScan_of hkey ho hd hf hel ?_)
  cases hfi : List.findIdx? (fun e => (mixKind P w).is k e.2) es.toList with
  | some j =>
    dsimp only
    obtain ⟨hj, pj, _⟩ := List.findIdx?_eq_some_iff_getElem.mp hfi
    have hSk : S k = true := (hm k).2 ((goodM_mem (P := P) (w := w) g k).2 ⟨es.toList[j], List.getElem_mem hj, pj⟩)
    refine wpAny_pure (wpAny_pure ?_)
    have q := hQ s.heap (Heap.SameBut.refl a s.heap) ⟨o, es, ep, t, ho, hex, hd, g, nd, fun i => by
      rw [Bool.or_eq_true, decide_eq_true_eq, ← hm i]
      exact ⟨fun z => z.elim id (fun e => e ▸ hSk), .inl⟩, hb, hf, by rw [if_pos hSk]; exact hn, hr, hl⟩
    rw [hSk] at q
    exact q
  | none =>
    dsimp only
    have hnk : ¬ (k ∈ es.toList.map fun e => keyM e.2) := fun z => by
      obtain ⟨e, he, q⟩ := (goodM_mem (P := P) (w := w) g k).1 z
      have c := List.findIdx?_eq_none_iff.mp hfi e he
      rw [q] at c
      cases c
    have hSk : S k = false := by
      cases q : S k with
      | false => rfl
      | true => exact absurd ((hm k).1 q) hnk
    have hgw : ∀ (b : Bool) {s₁ : Shared} {Q' : Unit → Shared → Prop}, Q' () s₁ → wpAny (model P w) A (match b with | true => rule "set.scan.the-table-gave-way" | false => pure ()) Q' E s₁ :=
      fun b s₁ Q' q => by cases b <;> first | exact wpAny_pure q | exact wpAny_rule q
    have pm := layNew_perm t es ((mixKind P w).hash k) u
    have hf1 := layNew_fits t es ((mixKind P w).hash k) u
    have hr1 := layNew_ris t es ((mixKind P w).hash k) u hr
    have hl1 := layNew_led t es ((mixKind P w).hash k) u
    generalize layNew t es ((mixKind P w).hash k) u = Z at pm hf1 hr1 hl1 ⊢
    obtain ⟨es1, t1, wasDummy, gave⟩ := Z
    dsimp only at pm hf1 hr1 hl1 ⊢
    rw [Array.toList_push] at pm
    have pc : es1.toList.Perm (((mixKind P w).hash k, u) :: es.toList) := pm.trans (List.perm_append_singleton _ _)
    have pk : (es1.toList.map fun e => keyM e.2).Perm (k :: es.toList.map fun e => keyM e.2) := by
      have q := pc.map fun e => keyM e.2
      rw [List.map_cons] at q
      rw [show keyM ((mixKind P w).hash k, u).2 = k from keyM_of ru] at q
      exact q
    have g1 : ∀ e ∈ es1.toList, GoodM P w e := fun e he => by
      rcases List.mem_cons.mp (pc.mem_iff.mp he) with z | z
      · rw [z]; exact ⟨k, ru, rfl⟩
      · exact g e z
    have nd1 : (es1.toList.map fun e => keyM e.2).Nodup := pk.nodup_iff.mpr (List.nodup_cons.mpr ⟨hnk, nd⟩)
    have m1 : ∀ i, (S i || decide (i = k)) = true ↔ i ∈ es1.toList.map fun e => keyM e.2 := fun i => by
      rw [Bool.or_eq_true, decide_eq_true_eq, hm i, pk.mem_iff, List.mem_cons]
      exact Or.comm
    have hsz : es1.size = n + 1 := by rw [← Array.length_toList, pc.length_eq, List.length_cons, Array.length_toList, hn]
    have hb1 : es1.size < scanBound := by rw [hsz]; exact room
    have hled : w.params.followText "set-order" = true ∨ t1.led = true := hl.imp id fun z => by rw [hl1]; exact z
    have fin : ∀ h', Heap.SameBut a s.heap h' → SetM P w h' a (fun j => S j || decide (j = k)) es1.size → Q true { s with heap := h' } := fun h' sb r => by
      have q := hQ h' sb
      rw [hSk] at q
      rw [hsz] at r
      exact q r
    refine wpAny_bind (hgw _ ?_)
    split
    · refine wpAny_bind ?_
      rw [hashByValue_scannable 8 hsc]
      refine wpAny_pure ?_
      refine setM_add_tail ?_ ho hex hd g1 nd1 m1 hb1 ?_ ?_ ?_ ?_
      · intro b s₁ Q' q; cases b <;> first | exact wpAny_pure q | exact wpAny_rule q
      · first | (split <;> first | exact hf1 | exact SetTable.fits_plain_off hf1) | exact hf1
      · first | (split <;> exact hr1) | exact hr1
      · first | (split <;> exact hled) | exact hled
      · intro h' sb r; dsimp only; exact wpAny_pure (fin h' sb r)
    · refine wpAny_bind (wpAny_pure ?_)
      simp only [↓reduceIte]
      refine setM_add_tail ?_ ho hex hd g1 nd1 m1 hb1 hf1 hr1 hled ?_
      · intro b s₁ Q' q; cases b <;> first | exact wpAny_pure q | exact wpAny_rule q
      · intro h' sb r; dsimp only; exact wpAny_pure (fin h' sb r)
end
/-- what a set has got of the first i keys: members, number -/
structure GotM (ks : List Key) (i : Nat) (S : Key → Bool) (n : Nat) : Prop where
  mem : ∀ k, S k = true ↔ k ∈ ks.take i
  le : n ≤ i
  nd : n = i ↔ (ks.take i).Nodup
theorem GotM.zero (ks : List Key) : GotM ks 0 (fun _ => false) 0 := ⟨fun k => by simp, Nat.le_refl _, by simp⟩
theorem GotM.next {ks : List Key} {i n : Nat} {S : Key → Bool} {k : Key} (g : GotM ks i S n) (h : ks[i]? = some k) : GotM ks (i + 1) (fun j => S j || decide (j = k)) (if S k = true then n else n + 1) := by
  have e : ks.take (i + 1) = ks.take i ++ [k] := by rw [List.take_add_one, h]; rfl
  have nda : (ks.take (i + 1)).Nodup ↔ (ks.take i).Nodup ∧ k ∉ ks.take i := by
    rw [e, List.nodup_append]
    constructor
    · rintro ⟨a, _, c⟩
      exact ⟨a, fun m => c k m k (List.mem_singleton.mpr rfl) rfl⟩
    · rintro ⟨a, b⟩
      exact ⟨a, by simp, fun x hx y hy q => b (by rw [← List.mem_singleton.mp hy, ← q]; exact hx)⟩
  refine ⟨fun j => ?_, ?_, ?_⟩
  · rw [e, Bool.or_eq_true, decide_eq_true_eq, g.mem j, List.mem_append, List.mem_singleton]
  · have := g.le
    split <;> omega
  · rw [nda]
    have l := g.le
    by_cases c : S k = true
    · rw [if_pos c]
      exact ⟨fun z => absurd z (by omega), fun z => absurd ((g.mem k).mp c) z.2⟩
    · rw [if_neg c]
      have c2 : k ∉ ks.take i := fun z => c ((g.mem k).mpr z)
      exact ⟨fun z => ⟨g.nd.mp (by omega), c2⟩, fun z => by have := g.nd.mpr z.1; omega⟩
section
variable {P : Program} {w : World} {A : Around} {R : Result → Shared → Prop} {I : Addr} {fp wr : List Addr} {G : Array GenState → Array GenState → Prop} {n : Nat} {Pv : Nat → Value → Prop} {St : Nat → Shared → Prop}
theorem loopM (W : WalksS P w A.in1 I fp wr G n Pv St) (D : Addr) (hSf : D ∉ fp) (ks : List Key) (hsz : ks.length = n) (hb : n + 1 < scanBound)
    (hval : ∀ i v, Pv i v → ∃ k, ks[i]? = some k ∧ RelV (kV k) v) :
    ∀ (k i : Nat) (s : Shared) (S : Key → Bool) (m : Nat), n - i = k → i ≤ n → St i s → SetM P w s.heap D S m → GotM ks i S m →
      (∀ s' S' m', Moved (D :: wr) G s s' → SetM P w s'.heap D S' m' → GotM ks n S' m' → R (.ok (.ret .none)) s') →
      codeAny (model P w) A (.builtin "set.update.loop" ⟨[.ref D, .ref I], []⟩) R s := by
  have hSw : D ∉ wr := fun h => hSf (W.sub _ h)
  have hsub : ∀ b ∈ wr, b ∈ D :: wr := fun b hb => List.mem_cons_of_mem _ hb
  intro k
  induction k with
  | zero =>
    intro i s S m hk hi hst hS g hR
    have hin : i = n := by omega
    subst hin
    refine codeAny_builtin PyProof.Rows.F.entry_set_update_loop ?_
    rw [Around.under_plainId PyProof.Rows.F.plain_set_update_loop _]
    show wpAny _ A.in1 (pyNext (.ref I) >>= _) _ _ s
    refine wpAny_bind (W.done s _ _ hst fun s' hm => ?_)
    show wpAny _ A.in1 (ret Value.none) _ _ s'
    exact wpAny_pure (hR s' S m (hm.mono hsub) (hS.at fun o e => hm.heap D _ hSw e) g)
  | succ k ih =>
    intro i s S m hk hi hst hS g hR
    have hlt : i < n := by omega
    refine codeAny_builtin PyProof.Rows.F.entry_set_update_loop ?_
    rw [Around.under_plainId PyProof.Rows.F.plain_set_update_loop _]
    show wpAny _ A.in1 (pyNext (.ref I) >>= _) _ _ s
    refine wpAny_bind (W.item i s _ _ hlt hst fun v s' hP hst' hm => ?_)
    obtain ⟨x, hx, rx⟩ := hval i v hP
    have hS' : SetM P w s'.heap D S m := hS.at fun o e => hm.heap D _ hSw e
    have hroom : m + 1 < scanBound := by have := g.le; omega
    show wpAny _ A.in1 (holding [v] (setAdd D v) >>= _) _ _ s'
    refine wpAny_bind (wpAny_holding ?_)
    unfold setAdd
    refine wpAny_holding ?_
    refine wpAny_bind ((mixKind P w).pyHash (k := x) (kV_is rx) ?_)
    refine setM_add_hashed (s := { s' with toks := s'.toks + 1 }) rx hS' hroom fun h' hsb hS2 => ?_
    refine wpAny_pure ⟨plainId_quiet PyProof.Rows.F.plain_set_update_loop _, ih (i + 1) _ _ _ (by omega) hlt (W.frame _ s' _ _ hst' (Nat.le_succ _) fun b hb o e => ?_) hS2 (g.next hx) fun s'' S'' m'' hm'' hS'' g'' => ?_⟩
    · rw [hsb.2 b (fun h : b = D => hSf (by rw [← h]; exact hb))]; exact e
    · refine hR s'' S'' m'' (Moved.trans W.gtrans ((hm.mono hsub).then_heap (Nat.le_succ _) fun b o hb e => ?_) hm'') hS'' g''
      rw [hsb.2 b (fun h : b = D => hb (by rw [h]; exact List.mem_cons_self))]; exact e
end
section
variable {P : Program} {w : World} {A : Around} {E : Value → Shared → Prop} {s : Shared}
theorem code_set_new_led (a : Value) {Q₁ : Value → Shared → Prop}
    (h : Q₁ (.ref s.heap.objs.size) { s with heap := s.heap.push { cls := .type "set", dict := none, data := .set #[] 0 (.fresh 0 0 (!w.params.followText "set-order")) } }) :
    codeAny (model P w) A (.call (.builtin "set.__new__") ⟨[.type "set", a], []⟩) (wants Q₁ E) s := by
  refine codeAny_of_tree ?_
  show wpAny _ A.in1 (do checkBuiltinCall "set.__new__" ⟨[.type "set", a], []⟩; again (.builtin "set.__new__" ⟨[.type "set", a], []⟩)) _ _ s
  refine wpAny_bind (wpAny_of_eq (PySem.F.newCall_set_1 a) (wpAny_pure ⟨plainId_quiet PySem.F.plain_set_new _, codeAny_builtin PySem.F.entry_set_new ?_⟩))
  rw [Around.under_plainId PySem.F.plain_set_new _]
  unfold Builtin.«set.__new__» Builtin.Frozenset.newClass
  have hsub := sub_set_self
  obtain ⟨hp, g, d, tk, os⟩ := s
  dsimp only
  wp_walk
  refine wpAny_askSetting (wpAny_pure ?_)
  dsimp only
  simp only [newObj]
  refine wpAny_bind (wpAny_alloc (wpAny_pure ?_))
  exact wpAny_pure h
theorem setM_fresh {h : Heap} (P : Program) (w : World) {a : Addr} (ha : h.get? a = some { cls := .type "set", dict := none, data := .set #[] 0 (.fresh 0 0 (!w.params.followText "set-order")) }) : SetM P w h a (fun _ => false) 0 :=
  ⟨_, #[], 0, _, ha, ⟨rfl, rfl, rfl⟩, rfl, (fun e he => by simp at he), (by simp), (fun k => by simp), (by decide), (by rfl), rfl, List.Pairwise.nil, by
    show _ ∨ (!w.params.followText "set-order") = true
    cases w.params.followText "set-order"
    · exact .inr rfl
    · exact .inl rfl⟩
set_option maxHeartbeats 6400000 in
theorem call_set_listM {l : Addr} {items : Array Value} {ks : List Key} {Q : Value → Shared → Prop}
    (hh : A.handled = none) (hl : s.heap.IsList l items) (hi : Vals (ks.map kV) items.toList) (hb : items.size + 1 < scanBound)
    (h : ∀ (h' : Heap) (tk : Nat) (S : Key → Bool) (m : Nat), SetM P w h' s.heap.objs.size S m → GotM ks ks.length S m →
      (∀ b o, b < s.heap.objs.size → s.heap.get? b = some o → h'.get? b = some o) → Q (.ref s.heap.objs.size) { s with heap := h', toks := tk }) :
    wpAny (model P w) A (call (.type "set") [.ref l]) Q E s := by
  obtain ⟨c, tl, hmro⟩ := PySem.F.called_set.mro
  have hmade := PySem.F.called_set.made
  have hsub := PySem.F.called_set.sub
  refine wpAny_call (codeAny_of_tree ?_)
  show wpAny _ _ (callAny (.type "set") _) _ _ _
  refine wpAny_pure ⟨Code.quiet_builtin _ (by decide +kernel), codeAny_builtin PySem.F.entry_type_call ?_⟩
  rw [Around.under_plain (weight_type_call_type "set" [.ref l] []) rfl]
  have h1 := PySem.F.called_set.notType
  have h2 := PySem.F.called_set.canCreate
  have hct := PySem.F.typeCall_set_1 (.ref l)
  repeat (any_goals (first | assumption | wp_step))
  refine codeAny_mono (code_set_new_led (.ref l) (E := E) (Q₁ := fun obj s₁ => obj = .ref s.heap.objs.size ∧ s₁ = { s with heap := s.heap.push { cls := .type "set", dict := none, data := .set #[] 0 (.fresh 0 0 (!w.params.followText "set-order")) } }) ⟨rfl, rfl⟩) fun r s₁ hr => ?_
  cases r with
  | error e => exact hr
  | ok fl =>
    cases fl with
    | ret obj =>
      obtain ⟨rfl, rfl⟩ := hr
      have hS : (s.heap.push { cls := .type "set", dict := none, data := .set #[] 0 (.fresh 0 0 (!w.params.followText "set-order")) }).get? s.heap.objs.size = some { cls := .type "set", dict := none, data := .set #[] 0 (.fresh 0 0 (!w.params.followText "set-order")) } := Heap.get?_push_size _ rfl
      have hT : Shared.TypeIs { s with heap := s.heap.push { cls := .type "set", dict := none, data := .set #[] 0 (.fresh 0 0 (!w.params.followText "set-order")) } } (.ref s.heap.objs.size) "set" := ⟨_, hS, rfl⟩
      have hli := PySem.F.called_set.init.lookup
      have hbi := PySem.F.called_set.init.bind (.ref s.heap.objs.size)
      repeat (any_goals (first | assumption | wp_step))
      refine codeAny_mono (codeAny_call_builtin (R := wants (fun r s₂ => r = .none ∧ ∃ h' tk S m, s₂ = { s with heap := h', toks := tk } ∧ SetM P w h' s.heap.objs.size S m ∧ GotM ks ks.length S m ∧
          (∀ b o, b < s.heap.objs.size → s.heap.get? b = some o → h'.get? b = some o)) E) PySem.F.called_set.init.plain PySem.F.entry_set_init (check_set_init_1 hT ?_)) fun r₂ s₂ hr₂ => ?_
      · obtain ⟨ol, hol, hcl, nl, hdl⟩ := hl
        obtain ⟨ocls, odict, odata, oslots⟩ := ol
        simp only at hcl hdl
        subst hcl; subst hdl
        have hol' : (s.heap.push { cls := .type "set", dict := none, data := .set #[] 0 (.fresh 0 0 (!w.params.followText "set-order")) }).get? l = some { cls := .type "list", dict := odict, data := .seq items nl, slots := oslots } := Heap.get?_push_of_some _ hol
        have hsls := PySem.F.sub_list_set
        have hslf := PySem.F.sub_list_frozenset
        have hne : (Value.type "list" == Value.type "dict") = false := by decide
        have hl1 : (s.heap.push { cls := .type "set", dict := none, data := .set #[] 0 (.fresh 0 0 (!w.params.followText "set-order")) }).IsList l items := ⟨_, hol', rfl, nl, rfl⟩
        unfold Builtin.«set.__init__» noKeywords Builtin.Frozenset.updateFrom
        generalize hPI : pyIter = PI
        wp_walk
        subst hPI
        refine wpAny_pyIter_list hl1 ?_
        refine wpAny_bind (wpAny_runValue ?_)
        have hlS : l < s.heap.objs.size := Heap.lt_size hol
        have hh3 : A.in1.in1.in1.handled = none := by simp [hh]
        have hneI : l ≠ (s.heap.push { cls := .type "set", dict := none, data := .set #[] 0 (.fresh 0 0 (!w.params.followText "set-order")) }).objs.size := by
          rw [Heap.size_push]; exact Nat.ne_of_lt (Nat.lt_succ_of_lt hlS)
        have hSf : s.heap.objs.size ∉ [(s.heap.push { cls := .type "set", dict := none, data := .set #[] 0 (.fresh 0 0 (!w.params.followText "set-order")) }).objs.size, l] := by
          rw [Heap.size_push]; simp only [List.mem_cons, List.mem_singleton, List.not_mem_nil, or_false, not_or]
          exact ⟨Nat.ne_of_lt (Nat.lt_succ_self _), Nat.ne_of_gt hlS⟩
        have hsz : ks.length = items.size := by rw [← Array.length_toList, ← hi.length, List.length_map]
        have hval : ∀ (i : Nat) (v : Value), items[i]? = some v → ∃ k, ks[i]? = some k ∧ RelV (kV k) v := fun i v hv => by
          have hlt : i < ks.length := by rw [hsz]; exact (Array.getElem?_eq_some_iff.mp hv).1
          obtain ⟨u, hu, r⟩ := hi.get (i := i) (x := kV ks[i]) (by rw [List.getElem?_map, List.getElem?_eq_getElem hlt]; rfl)
          rw [Array.getElem?_toList, hv] at hu
          cases hu
          exact ⟨_, List.getElem?_eq_getElem hlt, r⟩
        refine loopM ((Walks.list hh3 _ l hneI items).toS) s.heap.objs.size hSf ks hsz hb hval (items.size - 0) 0 _ (fun _ => false) 0 rfl (Nat.zero_le _)
          ⟨⟨_, Heap.get?_push_size _ rfl, rfl, rfl⟩, (hl1.push _)⟩ ?hS0 (GotM.zero ks) ?hR
        case hS0 => exact setM_fresh P w (Heap.get?_push_of_some _ hS)
        case hR =>
          intro s' S' m' hm hS' g'
          obtain ⟨h', g'', d', tk', os'⟩ := s'
          have eg : g'' = s.gens := hm.gens
          have ed : d' = s.drawn := hm.drawn
          have eo : os' = s.os := hm.os
          subst eg; subst ed; subst eo
          show wpAny _ _ _ _ _ _
          refine wpAny_pure ?_
          show wpAny _ _ (ret Value.none) _ _ _
          refine wpAny_pure ⟨rfl, h', tk', S', m', rfl, hS', by rw [hsz]; exact g', fun b o hb e => ?_⟩
          have hb1 : b ≠ s.heap.objs.size := Nat.ne_of_lt hb
          have hb2 : b ≠ (s.heap.push { cls := .type "set", dict := none, data := .set #[] 0 (.fresh 0 0 (!w.params.followText "set-order")) }).objs.size := by
            rw [Heap.size_push]; exact Nat.ne_of_lt (Nat.lt_succ_of_lt hb)
          exact hm.heap b o (by simp only [List.mem_cons, List.mem_singleton, List.not_mem_nil, or_false, not_or]; exact ⟨hb1, hb2⟩) (Heap.get?_push_of_some _ (Heap.get?_push_of_some _ e))
      · cases r₂ with
        | error e => exact hr₂
        | ok fl₂ =>
          cases fl₂ with
          | ret r =>
            obtain ⟨rfl, h', tk, S', m', rfl, hS', g', hk'⟩ := hr₂
            repeat (any_goals (first | assumption | wp_step))
            exact h _ _ _ _ hS' g' hk'
          | _ => exact hr₂.elim
    | _ => exact hr.elim
end
end SM
section
open PySem PySem.Spec PyProof.Rows L2
theorem takes_no {X : Cx} : Takes X (fun _ _ _ _ => False) := fun _ _ h => by
  obtain ⟨a, B, sI, pins, σ, H, cls, d, e, I, nb, up, sky, na, os, ag, w⟩ := h
  exact w.elim
end
/-! xs == [], xs != [], t == (): whatever the items are -/
namespace EN
section
open PySem PySem.Spec PyProof.Rows L2
variable {X : Cx}
def Nil2 (K : PySem.W.Frag) (H : Hp) (x y : V) (xs : List V) : Prop := ∃ p q, x = .ref p ∧ y = .ref q ∧ ((SqL K H p xs ∧ SqL K H q []) ∨ (SqT K H p xs ∧ SqT K H q []))
def rEqE (K : PySem.W.Frag) : R2 := fun x y H Q => ∃ xs, Nil2 K H x y xs ∧ Q (.bl xs.isEmpty) H
def rNeE (K : PySem.W.Frag) : R2 := fun x y H Q => ∃ xs, Nil2 K H x y xs ∧ Q (.bl (!xs.isEmpty)) H
theorem op_eqE (hu : X.A.units + 64 < cLine) : OpR X (compareOp .Eq) (rEqE X.K) := by
  intro pins s σ H x y v u Q I rx ry h
  obtain ⟨xs, ⟨p, q, rfl, rfl, h⟩, q1⟩ := h
  cases rx
  cases ry
  rcases h with ⟨h1, h2⟩ | ⟨h1, h2⟩
  · obtain ⟨its, r1, pl, _⟩ := I.list h1
    obtain ⟨its2, r2, pl2, _⟩ := I.list h2
    cases r2
    cases xs with
    | nil =>
      cases r1
      exact SeqAt.eq_listAt (e := fun _ => true) pl.isList pl2.isList rfl (by omega) (fun j h1 _ => absurd h1 (by simp)) ⟨.bl true, H, I, rfl, q1⟩
    | cons x r =>
      cases r1
      exact SeqAt.eq_list_lengthsAt pl.isList pl2.isList (by simp) (by omega) ⟨.bl false, H, I, rfl, q1⟩
  · obtain ⟨its, r1, pl, _⟩ := I.tuple h1
    obtain ⟨its2, r2, pl2, _⟩ := I.tuple h2
    cases r2
    refine SeqAt.eq_tupleAt (e := fun _ => true) pl pl2 (by omega) (fun j _ h2 => absurd h2 (by simp)) ?_
    cases xs with
    | nil =>
      cases r1
      exact ⟨.bl true, H, I, rfl, q1⟩
    | cons x r =>
      cases r1
      exact ⟨.bl false, H, I, by simp; exact rfl, q1⟩
theorem op_neE (hu : X.A.units + 64 < cLine) : OpR X (compareOp .NotEq) (rNeE X.K) := by
  intro pins s σ H x y v u Q I rx ry h
  obtain ⟨xs, ⟨p, q, rfl, rfl, h⟩, q1⟩ := h
  cases rx
  cases ry
  rcases h with ⟨h1, h2⟩ | ⟨h1, h2⟩
  · obtain ⟨its, r1, pl, _⟩ := I.list h1
    obtain ⟨its2, r2, pl2, _⟩ := I.list h2
    cases r2
    cases xs with
    | nil =>
      cases r1
      exact SeqAt.RcNeAt.lists (e := fun _ => true) pl.isList pl2.isList rfl (by omega) (fun j h1 _ => absurd h1 (by simp)) _ _ _ _ ⟨.bl false, H, I, rfl, q1⟩
    | cons x r =>
      cases r1
      exact SeqAt.RcNeAt.lists_lengths pl.isList pl2.isList (by simp) (by omega) _ _ _ _ ⟨.bl true, H, I, rfl, q1⟩
  · obtain ⟨its, r1, pl, _⟩ := I.tuple h1
    obtain ⟨its2, r2, pl2, _⟩ := I.tuple h2
    cases r2
    refine SeqAt.RcNeAt.tuples (e := fun _ => true) pl pl2 (by omega) (fun j _ h2 => absurd h2 (by simp)) _ _ _ _ ?_
    cases xs with
    | nil =>
      cases r1
      exact ⟨.bl false, H, I, rfl, q1⟩
    | cons x r =>
      cases r1
      exact ⟨.bl true, H, I, by simp; exact rfl, q1⟩
end
end EN
namespace SM
open PySem PySem.Spec PyProof.Rows L2
theorem strs_keys {xs : List Str} {ks : List Key} (h : ∀ k ∈ ks, k ∈ xs.map Sum.inr) : ∃ ys : List Str, ks = ys.map Sum.inr ∧ ∀ y ∈ ys, y ∈ xs := by
  induction ks with
  | nil => exact ⟨[], rfl, fun y hy => by cases hy⟩
  | cons k r ih =>
    obtain ⟨ys, e, m⟩ := ih fun z hz => h z (.tail _ hz)
    obtain ⟨x, hx, ex⟩ := List.mem_map.mp (h k (.head _))
    refine ⟨x :: ys, by rw [List.map_cons, ← e, ex], fun y hy => ?_⟩
    rcases List.mem_cons.mp hy with rfl | hy
    · exact hx
    · exact m y hy
theorem vals_of_each {us : List Value} {ys : List Str} (e : PySem.W.EachIs (fun v (y : Str) => RelV (.str y) v) us ys) : Vals (ys.map V.str) us := by
  induction e with
  | nil => exact .nil
  | cons a _ ih => exact .cons a ih
section
variable {P : Program} {w : World} {A : Around} {E : Value → Shared → Prop} {s : Shared} {a : Addr} {S : Key → Bool} {n : Nat}
theorem sorted_setM {xs : List Str} {Q : Value → Shared → Prop} (R : SetM P w s.heap a S n) (hS : ∀ k, S k = true → k ∈ xs.map Sum.inr) (hS2 : ∀ x ∈ xs, S (Sum.inr x) = true) (hh : A.handled = none) (hu : A.units + 64 < cLine) (h64 : n ≤ 1000)
    (hQ : ∀ s' p (out : List Value) (c : Nat) (ys : List Str), (∀ b o, s.heap.get? b = some o → s'.heap.get? b = some o) → s'.gens = s.gens → s'.os = s.os → s.heap.objs.size ≤ p →
      s'.heap.get? p = some (seqObj "list" (List.toArray out) c) → Vals (ys.map V.str) out → ys.Nodup → (∀ x, x ∈ ys ↔ x ∈ xs) → ys.length = n → Q (.ref p) s') :
    wpAny (model P w) A (call (.builtin "sorted") [.ref a]) Q E s := by
  obtain ⟨o, es, ep, t, ho, hex, hd, g, nd, hm, hb, hf, hn, hr, hl⟩ := R
  obtain ⟨zs, ez, mz⟩ := strs_keys (xs := xs) (ks := es.toList.map fun e => keyM e.2) fun k hk => hS k ((hm k).mpr hk)
  refine Calls.call_function_entry kind_sorted plain_sorted entry_sorted (args_sorted1 _) ?_
  unfold Builtin.«sorted»
  refine wpAny_bind (m := checkCount "sorted" 1 1 _) (wpAny_pure ?_)
  refine wpAny_bind (collect_set (A := A.in1) hh ⟨o, ho, hex.1, hd⟩ hf hb hr hl fun s1 vs k1 hz g1 o1 pm => ?_)
  have hvl : vs.length = n := by rw [pm.length_eq, List.length_map, Array.length_toList]; exact hn
  have each : ∀ (vs : List Value), (∀ v ∈ vs, ∃ e ∈ es.toList, e.2 = v) → ∃ bs : List Str, PySem.W.EachIs (fun v (y : Str) => RelV (.str y) v) vs bs ∧ vs.map keyM = bs.map Sum.inr := by
    intro vs
    induction vs with
    | nil => exact fun _ => ⟨[], .nil, rfl⟩
    | cons v r ih =>
      intro h
      obtain ⟨bs, e1, e2⟩ := ih fun u hu => h u (.tail _ hu)
      obtain ⟨e, he, rfl⟩ := h v (.head _)
      obtain ⟨k, rk, _⟩ := g e he
      have hk : k ∈ xs.map Sum.inr := hS k ((hm k).mpr (List.mem_map.mpr ⟨e, he, keyM_of rk⟩))
      obtain ⟨x, hx, rfl⟩ := List.mem_map.mp hk
      refine ⟨x :: bs, .cons rk e1, ?_⟩
      rw [List.map_cons, List.map_cons, e2, keyM_of rk]
  obtain ⟨bs, eb, em⟩ := each vs fun v hv => by
    obtain ⟨e, he, q⟩ := List.mem_map.mp (pm.mem_iff.mp hv)
    exact ⟨e, he, q⟩
  have hbl : bs.length = n := by rw [← hvl, eb.length]
  have pk : (bs.map Sum.inr : List Key).Perm (es.toList.map fun e => keyM e.2) := by
    have q := pm.map keyM
    rw [List.map_map] at q
    rw [← em]
    exact q
  refine wpAny_bind (wpAny_newList ?_ (by rw [hvl, sizeLine_eq]; omega))
  have hoL : (s1.heap.push (seqObj "list" vs.toArray 0)).get? s1.heap.objs.size = some (seqObj "list" vs.toArray 0) := Heap.get?_push_size _ rfl
  refine wpAny_bind (wpAny_holding (PySem.W.list_sort_data (s := { s1 with heap := s1.heap.push (seqObj "list" vs.toArray 0) }) (enc := fun y : Str => PyData.str y) (R := fun v (y : Str) => RelV (.str y) v) hoL eb (eb.mono fun v y r => by
      obtain ⟨tk, rfl⟩ := r
      exact ⟨[], .str y tk, by simp⟩) (PySem.W.AllAlike.of fun _ _ => rfl) (.inr fun d hd => by
      obtain ⟨y, _, rfl⟩ := List.mem_map.mp hd
      exact ⟨by simp, fun _ => by simp⟩) (by rw [hbl, sizeLine_eq]; omega) (fun b _ => by show A.units + 1 + 1 + 0 < _; omega) fun out hol eo => ?_))
  obtain ⟨c, hc⟩ := sortedHeap_at (vs := vs) (out := out.toArray) hoL
  have pb := List.mergeSort_perm bs (PySem.W.dataLe false fun y : Str => PyData.str y)
  have pn : (((bs.mergeSort (PySem.W.dataLe false fun y : Str => PyData.str y)).map Sum.inr : List Key)).Perm (es.toList.map fun e => keyM e.2) := (pb.map Sum.inr).trans pk
  have inj : ∀ l : List Str, ((l.map Sum.inr : List Key)).Nodup → l.Nodup := fun l h => List.Pairwise.of_map _ (fun _ _ hne e => hne (congrArg Sum.inr e)) h
  refine wpAny_pure ⟨_, rfl, hQ _ s1.heap.objs.size out c (bs.mergeSort (PySem.W.dataLe false fun y : Str => PyData.str y)) (fun b u e => ?_) g1 o1 hz hc (vals_of_each eo) (inj _ (pn.nodup_iff.mpr nd)) (fun x => ?_) (by rw [List.length_mergeSort, hbl])⟩
  · have q := k1 b u e
    have hlt := Heap.lt_size q
    show (sortedHeap (s1.heap.push (seqObj "list" vs.toArray 0)) s1.heap.objs.size vs out.toArray).get? b = some u
    rw [sortedHeap_old (Nat.ne_of_lt hlt) (by rw [size_push']; exact Nat.lt_succ_of_lt hlt)]
    exact Heap.get?_push_of_some _ q
  · have q : (Sum.inr x : Key) ∈ (es.toList.map fun e => keyM e.2) ↔ x ∈ bs.mergeSort (PySem.W.dataLe false fun y : Str => PyData.str y) := by
      rw [← pn.mem_iff, List.mem_map]
      exact ⟨fun ⟨y, hy, e⟩ => by cases e; exact hy, fun h => ⟨x, h, rfl⟩⟩
    rw [← q, ← hm]
    refine ⟨fun h => ?_, hS2 x⟩
    obtain ⟨y, hy, e⟩ := List.mem_map.mp (hS _ h)
    cases e
    exact hy
end
def SetMO (P : Program) (w : World) (a : Addr) (S : Key → Bool) (n : Nat) : HO := .ext fun h => SetM P w h a S n
section
variable {X : Cx}
theorem setMO_new {w : World} {P : Program} {H : Hp} {h : Heap} {a : Addr} {S : Key → Bool} {n : Nat} (R : SetM P w h a S n) : ObjOk P w H h a (SetMO P w a S n) := by
  have ⟨o, _, _, _, ho, _⟩ := R
  exact ⟨R, ⟨o, ho⟩, fun h1 h2 p k => SetM.at p k⟩
theorem setMO_get {pins : List (Addr × Obj)} {σ : L2.St} {H : Hp} {s : Shared} {a : Addr} {S : Key → Bool} {n : Nat} (I : Inv X pins σ H s) (ha : H a = some (SetMO X.prog X.w a S n)) : SetM X.prog X.w s.heap a S n := (I.hok a _ ha).1
/-- set(xs), xs a list of ints or texts -/
def rSetM (K : PySem.W.Frag) (P : Program) (w : World) : List V → Hp → VK → Prop := fun xs H Q => ∃ (l : Addr) (ks : List Key), xs = [V.ref l] ∧ SqL K H l (ks.map kV) ∧ ks.length ≤ 1000 ∧
  ∀ a S n, H a = none → GotM ks ks.length S n → Q (.ref a) (upd H a (SetMO P w a S n))
theorem cr_setM (hc : X.calm = true) : CallR X (.type "set") (rSetM X.K X.prog X.w) := by
  intro pins s σ H xs us Q I r h
  obtain ⟨l, ks, rfl, hl, hk, q⟩ := h
  rw [Vals.ref1 r]
  obtain ⟨its, rv, pl, hz⟩ := I.list hl
  have hlen : its.length = ks.length := by rw [← rv.length, List.length_map]
  have hn : H s.heap.objs.size = none := I.hok.fresh (Nat.le_refl _)
  refine call_set_listM (P := X.prog) (w := X.w) (ks := ks) (I.ok.hd hc) pl.isList (by simpa using rv) (by rw [List.size_toArray, hlen]; unfold scanBound; omega) fun h' tk S m R g k => ?_
  have k2 : ∀ b o, s.heap.get? b = some o → h'.get? b = some o := fun b o e => k b o (Heap.lt_size e) e
  exact ⟨.ref s.heap.objs.size, upd H s.heap.objs.size (SetMO X.prog X.w s.heap.objs.size S m), I.laid (t' := tk) k2 (Nat.le_refl _) (setMO_new R), rfl, q _ S m hn g⟩
/-- len of such a set -/
def rLenM (P : Program) (w : World) : List V → Hp → VK → Prop := fun xs H Q => ∃ (a : Addr) (S : Key → Bool) (n : Nat), xs = [V.ref a] ∧ H a = some (SetMO P w a S n) ∧ Q (.int n) H
theorem cr_lenM : CallR X (.builtin "len") (rLenM X.prog X.w) := by
  intro pins s σ H xs us Q I r h
  obtain ⟨a, S, n, rfl, ha, q⟩ := h
  rw [Vals.ref1 r]
  obtain ⟨o, es, ep, t, ho, hex, hd, _, _, _, hb, hf, hn, _⟩ := setMO_get I ha
  refine call_len_set ho hex hd hf (by have : es.size < scanBound := hb; unfold scanBound at this; omega) ⟨.int n, H, I.tok _, ⟨_, by rw [hn]⟩, q⟩
/-- len of a set of tuples -/
def rLenT (P : Program) (w : World) : List V → Hp → VK → Prop := fun xs H Q => ∃ (a : Addr) (L : List (Addr × List Int)), xs = [V.ref a] ∧ H a = some (SetTO P w a L) ∧ ((L.map (·.2)).Nodup → Q (.int L.length) H)
theorem cr_lenT : CallR X (.builtin "len") (rLenT X.prog X.w) := by
  intro pins s σ H xs us Q I r h
  obtain ⟨a, L, rfl, ha, q⟩ := h
  rw [Vals.ref1 r]
  have R0 : SetT0 X.prog X.w s.heap a L := (I.hok a _ ha).1
  obtain ⟨es, ep, t, ⟨o, ho, hex, hd⟩, hrows, htab, hnd, hpl, hl, hroom, hfew⟩ := R0.ex
  have hsz : es.size = L.length := by
    have := congrArg List.length hrows
    rw [Array.length_toList] at this
    rw [this]
    unfold rowsOf
    rw [List.length_map]
  have hf : t.fits es.size = true := by
    have h1 := htab.sz
    rw [List.length_map] at h1
    unfold SetTable.fits SetTable.fill
    rw [htab.dm, Bool.and_eq_true, beq_iff_eq, decide_eq_true_eq]
    show t.place.size = es.size ∧ t.place.size + 0 ≤ t.mask
    omega
  refine call_len_set ho hex hd hf (by rw [hsz]; omega) ⟨.int L.length, H, I.tok _, ⟨_, by rw [hsz]⟩, q hnd⟩
/-- sorted(set) of texts -/
def rSortedM (P : Program) (w : World) : List V → Hp → VK → Prop := fun vs H Q => ∃ (a : Addr) (S : Key → Bool) (n : Nat) (xs : List Str), vs = [V.ref a] ∧ H a = some (SetMO P w a S n) ∧ n ≤ 1000 ∧ (∀ k, S k = true → k ∈ xs.map Sum.inr) ∧ (∀ x ∈ xs, S (Sum.inr x) = true) ∧
  ∀ (ys : List Str) (p : Addr), ys.Nodup → (∀ x, x ∈ ys ↔ x ∈ xs) → ys.length = n → H p = none → Q (.ref p) (upd H p (.lst (ys.map V.str)))
theorem cr_sortedM (hc : X.calm = true) (hu : X.A.units + 64 < cLine) : CallR X (.builtin "sorted") (rSortedM X.prog X.w) := by
  intro pins s σ H vs us Q I r h
  obtain ⟨a, S, n, xs, rfl, ha, hn, h1, h2, q⟩ := h
  rw [Vals.ref1 r]
  refine sorted_setM (setMO_get I ha) h1 h2 (I.ok.hd hc) hu hn fun s' p out c ys k g o hp hg hv hnd hm hl => ?_
  have hlen : (ys.map V.str).length ≤ sizeLine := by rw [List.length_map, hl, sizeLine_eq]; omega
  have hnp : H p = none := I.hok.fresh hp
  have J : Inv X pins σ (upd H p (.lst (ys.map V.str))) { s with heap := s'.heap, gens := s'.gens, drawn := s'.drawn, toks := s'.toks } :=
    I.call (ch := []) (Un.laid k hp hnp) (I.hok.laid k hp ⟨hlen, out, c, hv, hg⟩) (by rw [g]; exact I.bare) (fun _ z => nomatch z)
  have e : s' = { s with heap := s'.heap, gens := s'.gens, drawn := s'.drawn, toks := s'.toks } := by
    cases s'
    cases s
    cases o
    rfl
  rw [e]
  exact ⟨.ref p, _, J, rfl, q ys p hnd hm hl hnp⟩
/-! ### sorted and max of data -/
def rSortedA (K : PySem.W.Frag) : List V → Hp → VK → Prop := fun vs H Q => ∃ (l : Addr) (bs : List (V × PyData)), vs = [V.ref l] ∧ SqL K H l (bs.map (·.1)) ∧ (∀ b ∈ bs, Dp K H b.1 b.2 ∧ b.2.depth ≤ 60) ∧ PySem.W.AllAlike (bs.map (·.2)) ∧ PySem.W.Sortable (bs.map (·.2)) ∧
  ∀ p, H p = none → Q (.ref p) (upd H p (.lst ((bs.mergeSort (PySem.W.dataLe false (·.2))).map (·.1))))
theorem each_pairs {R : Value → V × PyData → Prop} : ∀ (bs : List (V × PyData)) (us : List Value), Vals (bs.map (·.1)) us → (∀ b ∈ bs, ∀ u, RelV b.1 u → R u b) → PySem.W.EachIs R us bs := by
  intro bs
  induction bs with
  | nil =>
    intro us r _
    cases r
    exact .nil
  | cons b bs ih =>
    intro us r h
    obtain ⟨u, vs, rfl, ru, rr⟩ : ∃ u vs, us = u :: vs ∧ RelV b.1 u ∧ Vals (bs.map (·.1)) vs := by
      cases r with
      | cons a b => exact ⟨_, _, rfl, a, b⟩
    exact .cons (h b (.head _) u ru) (ih vs rr fun c hc => h c (.tail _ hc))
theorem pairs_each {R : Value → V × PyData → Prop} (h : ∀ u b, R u b → RelV b.1 u) : ∀ {us : List Value} {bs : List (V × PyData)}, PySem.W.EachIs R us bs → Vals (bs.map (·.1)) us := by
  intro us bs e
  induction e with
  | nil => exact .nil
  | cons a _ ih => exact .cons (h _ _ a) ih
theorem cr_sortedA (hu : X.A.units + 64 < cLine) : CallR X (.builtin "sorted") (rSortedA X.K) := by
  intro pins s σ H vs us Q I r h
  obtain ⟨l, bs, rfl, hl, hd, hal, hsk, q⟩ := h
  rw [Vals.ref1 r]
  obtain ⟨its, rv, pl, hz⟩ := I.list hl
  rw [List.length_map] at hz
  refine PySem.W.sorted_data (R := fun u (b : V × PyData) => RelV b.1 u) (enc := fun b : V × PyData => b.2) pl.isList (each_pairs bs its rv fun b _ u r => r) (each_pairs bs its rv fun b hb u r => Dp.reads I _ _ _ (hd b hb).1 r) hal hsk hz (fun b hb => by have := (hd b hb).2; omega) fun out hlen eo => ?_
  obtain ⟨c, hc⟩ := sortedAll_at s.heap its out.toArray
  refine ⟨.ref _, upd H (s.heap.objs.size + 1) (.lst ((bs.mergeSort (PySem.W.dataLe false (·.2))).map (·.1))), I.laid (t' := s.toks) (fun b o e => sortedAll_old e) (Nat.le_succ _) ⟨?_, out, c, pairs_each (fun _ _ r => r) eo, hc⟩, rfl, q _ (I.hok.fresh (Nat.le_succ _))⟩
  rw [List.length_map, List.length_mergeSort]
  exact hz
/-- max of a list of data: one of its items -/
def rMaxA (K : PySem.W.Frag) : List V → Hp → VK → Prop := fun vs H Q => ∃ (l : Addr) (xs : List V) (ds : List PyData), vs = [V.ref l] ∧ SqL K H l xs ∧ DpAll K H xs ds ∧ (∀ x ∈ xs, ∃ p, x = V.ref p) ∧ ds ≠ [] ∧ PySem.W.AlikeAll ds ∧ PyData.depthAll ds ≤ 60 ∧
  ∀ (i : Nat) (v : V), xs[i]? = some v → (∀ (d : PyData) (r : List PyData), ds = d :: r → ds[i]? = some (PySem.W.maxD d r)) → Q v H
theorem cr_maxA (hc : X.calm = true) (hu : X.A.units + 64 < cLine) : CallR X (.builtin "max") (rMaxA X.K) := by
  intro pins s σ H vs us Q I r h
  obtain ⟨l, xs, ds, rfl, hl, hd, href, hne, hal, hdep, q⟩ := h
  rw [Vals.ref1 r]
  obtain ⟨its, rv, pl, hz⟩ := I.list hl
  obtain ⟨as, ra⟩ := Dp.readsAll I ds xs its hd rv
  cases ds with
  | nil => exact absurd rfl hne
  | cons d0 dr =>
    refine PySem.W.max_list_data (l := l) (vs := its.toArray) (I.ok.hd hc) pl.isList (by simpa using ra) hal (by omega) fun i v h' tk bs hv hr hk => ?_
    have hv2 : its[i]? = some v := by simpa using hv
    have hil : i < xs.length := by rw [rv.length]; exact (List.getElem?_eq_some_iff.mp hv2).1
    have hx : xs[i]? = some xs[i] := List.getElem?_eq_getElem hil
    obtain ⟨u, hu2, ru⟩ := rv.get hx
    rw [hv2] at hu2
    cases hu2
    refine ⟨xs[i], H, I.kept hk, ru, q i _ hx fun d r e => ?_⟩
    cases e
    obtain ⟨e0, he0, hrd, _, _⟩ := PySem.W.readsAll_atA (vs := its.toArray) (by simpa using ra) i v hv
    have hde : (d0 :: dr)[i]? = some ((d0 :: dr).getD i .none) := by
      rw [List.getD_eq_getElem?_getD]
      obtain ⟨z, hz⟩ : ∃ z, (d0 :: dr)[i]? = some z := ⟨_, List.getElem?_eq_getElem (by assumption)⟩
      rw [hz]
      rfl
    have hmem : PySem.W.maxD d0 dr ∈ d0 :: dr := by
      unfold PySem.W.maxD
      have : ∀ (l : List PyData) (x : PyData), x ∈ d0 :: dr → (∀ y ∈ l, y ∈ d0 :: dr) → l.foldl (fun a y => if PySem.W.dataLt a y then y else a) x ∈ d0 :: dr := by
        intro l
        induction l with
        | nil => intro x hx _; exact hx
        | cons y r ih =>
          intro x hx hy
          rw [List.foldl_cons]
          refine ih _ ?_ fun z hz => hy z (.tail _ hz)
          split
          · exact hy y (.head _)
          · exact hx
      exact this dr d0 (.head _) fun y hy => .tail _ hy
    have hmi : (d0 :: dr).getD i .none ∈ d0 :: dr := List.mem_of_getElem? hde
    have e := PySem.W.alike_unique _ _ _ _ _ (hal.1 _ hmi _ hmem) (PySem.W.reads_keeps hk he0) hr
    rw [← e]
    exact hde
end
end SM
/-! ### sorted(set) of numbers -/
namespace SM
open PySem PySem.Spec PyProof.Rows L2
theorem ints_keys {xs : List Int} {ks : List Key} (h : ∀ k ∈ ks, k ∈ xs.map Sum.inl) : ∃ ys : List Int, ks = ys.map Sum.inl ∧ ∀ y ∈ ys, y ∈ xs := by
  induction ks with
  | nil => exact ⟨[], rfl, fun y hy => by cases hy⟩
  | cons k r ih =>
    obtain ⟨ys, e, m⟩ := ih fun z hz => h z (.tail _ hz)
    obtain ⟨x, hx, ex⟩ := List.mem_map.mp (h k (.head _))
    refine ⟨x :: ys, by rw [List.map_cons, ← e, ex], fun y hy => ?_⟩
    rcases List.mem_cons.mp hy with rfl | hy
    · exact hx
    · exact m y hy
theorem vals_of_eachI {us : List Value} {ys : List Int} (e : PySem.W.EachIs (fun v (y : Int) => RelV (.int y) v) us ys) : Vals (ys.map V.int) us := by
  induction e with
  | nil => exact .nil
  | cons a _ ih => exact .cons a ih
section
variable {P : Program} {w : World} {A : Around} {E : Value → Shared → Prop} {s : Shared} {a : Addr} {S : Key → Bool} {n : Nat}
theorem sorted_setMI {xs : List Int} {Q : Value → Shared → Prop} (R : SetM P w s.heap a S n) (hS : ∀ k, S k = true → k ∈ xs.map Sum.inl) (hS2 : ∀ x ∈ xs, S (Sum.inl x) = true) (hh : A.handled = none) (hu : A.units + 64 < cLine) (h64 : n ≤ 1000)
    (hQ : ∀ s' p (out : List Value) (c : Nat) (ys : List Int), (∀ b o, s.heap.get? b = some o → s'.heap.get? b = some o) → s'.gens = s.gens → s'.os = s.os → s.heap.objs.size ≤ p →
      s'.heap.get? p = some (seqObj "list" (List.toArray out) c) → Vals (ys.map V.int) out → ys.Nodup → ys.Pairwise (· ≤ ·) → (∀ x, x ∈ ys ↔ x ∈ xs) → ys.length = n → Q (.ref p) s') :
    wpAny (model P w) A (call (.builtin "sorted") [.ref a]) Q E s := by
  obtain ⟨o, es, ep, t, ho, hex, hd, g, nd, hm, hb, hf, hn, hr, hl⟩ := R
  obtain ⟨zs, ez, mz⟩ := ints_keys (xs := xs) (ks := es.toList.map fun e => keyM e.2) fun k hk => hS k ((hm k).mpr hk)
  refine Calls.call_function_entry kind_sorted plain_sorted entry_sorted (args_sorted1 _) ?_
  unfold Builtin.«sorted»
  refine wpAny_bind (m := checkCount "sorted" 1 1 _) (wpAny_pure ?_)
  refine wpAny_bind (collect_set (A := A.in1) hh ⟨o, ho, hex.1, hd⟩ hf hb hr hl fun s1 vs k1 hz g1 o1 pm => ?_)
  have hvl : vs.length = n := by rw [pm.length_eq, List.length_map, Array.length_toList]; exact hn
  have each : ∀ (vs : List Value), (∀ v ∈ vs, ∃ e ∈ es.toList, e.2 = v) → ∃ bs : List Int, PySem.W.EachIs (fun v (y : Int) => RelV (.int y) v) vs bs ∧ vs.map keyM = bs.map Sum.inl := by
    intro vs
    induction vs with
    | nil => exact fun _ => ⟨[], .nil, rfl⟩
    | cons v r ih =>
      intro h
      obtain ⟨bs, e1, e2⟩ := ih fun u hu => h u (.tail _ hu)
      obtain ⟨e, he, rfl⟩ := h v (.head _)
      obtain ⟨k, rk, _⟩ := g e he
      have hk : k ∈ xs.map Sum.inl := hS k ((hm k).mpr (List.mem_map.mpr ⟨e, he, keyM_of rk⟩))
      obtain ⟨x, hx, rfl⟩ := List.mem_map.mp hk
      refine ⟨x :: bs, .cons rk e1, ?_⟩
      rw [List.map_cons, List.map_cons, e2, keyM_of rk]
  obtain ⟨bs, eb, em⟩ := each vs fun v hv => by
    obtain ⟨e, he, q⟩ := List.mem_map.mp (pm.mem_iff.mp hv)
    exact ⟨e, he, q⟩
  have hbl : bs.length = n := by rw [← hvl, eb.length]
  have pk : (bs.map Sum.inl : List Key).Perm (es.toList.map fun e => keyM e.2) := by
    have q := pm.map keyM
    rw [List.map_map] at q
    rw [← em]
    exact q
  refine wpAny_bind (wpAny_newList ?_ (by rw [hvl, sizeLine_eq]; omega))
  have hoL : (s1.heap.push (seqObj "list" vs.toArray 0)).get? s1.heap.objs.size = some (seqObj "list" vs.toArray 0) := Heap.get?_push_size _ rfl
  refine wpAny_bind (wpAny_holding (PySem.W.list_sort_data (s := { s1 with heap := s1.heap.push (seqObj "list" vs.toArray 0) }) (enc := fun y : Int => PyData.int y) (R := fun v (y : Int) => RelV (.int y) v) hoL eb (eb.mono fun v y r => by
      obtain ⟨tk, rfl⟩ := r
      exact ⟨[], .int y tk, by simp⟩) (PySem.W.AllAlike.of fun _ _ => rfl) (.inr fun d hd => by
      obtain ⟨y, _, rfl⟩ := List.mem_map.mp hd
      exact ⟨by simp, fun _ => by simp⟩) (by rw [hbl, sizeLine_eq]; omega) (fun b _ => by show A.units + 1 + 1 + 0 < _; omega) fun out hol eo => ?_))
  obtain ⟨c, hc⟩ := sortedHeap_at (vs := vs) (out := out.toArray) hoL
  have pb := List.mergeSort_perm bs (PySem.W.dataLe false fun y : Int => PyData.int y)
  have pn : (((bs.mergeSort (PySem.W.dataLe false fun y : Int => PyData.int y)).map Sum.inl : List Key)).Perm (es.toList.map fun e => keyM e.2) := (pb.map Sum.inl).trans pk
  have inj : ∀ l : List Int, ((l.map Sum.inl : List Key)).Nodup → l.Nodup := fun l h => List.Pairwise.of_map _ (fun _ _ hne e => hne (congrArg Sum.inl e)) h
  refine wpAny_pure ⟨_, rfl, hQ _ s1.heap.objs.size out c (bs.mergeSort (PySem.W.dataLe false fun y : Int => PyData.int y)) (fun b u e => ?_) g1 o1 hz hc (vals_of_eachI eo) (inj _ (pn.nodup_iff.mpr nd)) ?_ (fun x => ?_) (by rw [List.length_mergeSort, hbl])⟩
  · have q := k1 b u e
    have hlt := Heap.lt_size q
    show (sortedHeap (s1.heap.push (seqObj "list" vs.toArray 0)) s1.heap.objs.size vs out.toArray).get? b = some u
    rw [sortedHeap_old (Nat.ne_of_lt hlt) (by rw [size_push']; exact Nat.lt_succ_of_lt hlt)]
    exact Heap.get?_push_of_some _ q
  · have z := PySem.W.dataLe_int fun y : Int => y
    rw [z]
    refine (List.pairwise_mergeSort (le := fun a b : Int => decide (a ≤ b)) (fun a b c h1 h2 => ?_) (fun a b => ?_) bs).imp fun {a b} h => of_decide_eq_true h
    · exact decide_eq_true (Int.le_trans (of_decide_eq_true h1) (of_decide_eq_true h2))
    · rw [Bool.or_eq_true, decide_eq_true_eq, decide_eq_true_eq]
      exact Int.le_total _ _
  · have q : (Sum.inl x : Key) ∈ (es.toList.map fun e => keyM e.2) ↔ x ∈ bs.mergeSort (PySem.W.dataLe false fun y : Int => PyData.int y) := by
      rw [← pn.mem_iff, List.mem_map]
      exact ⟨fun ⟨y, hy, e⟩ => by cases e; exact hy, fun h => ⟨x, h, rfl⟩⟩
    rw [← q, ← hm]
    refine ⟨fun h => ?_, hS2 x⟩
    obtain ⟨y, hy, e⟩ := List.mem_map.mp (hS _ h)
    cases e
    exact hy
end
section
variable {X : Cx}
def rSortedMI (P : Program) (w : World) : List V → Hp → VK → Prop := fun vs H Q => ∃ (a : Addr) (S : Key → Bool) (n : Nat) (xs : List Int), vs = [V.ref a] ∧ H a = some (SetMO P w a S n) ∧ n ≤ 1000 ∧ (∀ k, S k = true → k ∈ xs.map Sum.inl) ∧ (∀ x ∈ xs, S (Sum.inl x) = true) ∧
  ∀ (ys : List Int) (p : Addr), ys.Nodup → ys.Pairwise (· ≤ ·) → (∀ x, x ∈ ys ↔ x ∈ xs) → ys.length = n → H p = none → Q (.ref p) (upd H p (.lst (ys.map V.int)))
theorem cr_sortedMI (hc : X.calm = true) (hu : X.A.units + 64 < cLine) : CallR X (.builtin "sorted") (rSortedMI X.prog X.w) := by
  intro pins s σ H vs us Q I r h
  obtain ⟨a, S, n, xs, rfl, ha, hn, h1, h2, q⟩ := h
  rw [Vals.ref1 r]
  refine sorted_setMI (setMO_get I ha) h1 h2 (I.ok.hd hc) hu hn fun s' p out c ys k g o hp hg hv hnd hsrt hm hl => ?_
  have hlen : (ys.map V.int).length ≤ sizeLine := by rw [List.length_map, hl, sizeLine_eq]; omega
  have hnp : H p = none := I.hok.fresh hp
  have J : Inv X pins σ (upd H p (.lst (ys.map V.int))) { s with heap := s'.heap, gens := s'.gens, drawn := s'.drawn, toks := s'.toks } :=
    I.call (ch := []) (Un.laid k hp hnp) (I.hok.laid k hp ⟨hlen, out, c, hv, hg⟩) (by rw [g]; exact I.bare) (fun _ z => nomatch z)
  have e : s' = { s with heap := s'.heap, gens := s'.gens, drawn := s'.drawn, toks := s'.toks } := by
    cases s'
    cases s
    cases o
    rfl
  rw [e]
  exact ⟨.ref p, _, J, rfl, q ys p hnd hsrt hm hl hnp⟩
def rSetM2 (K : PySem.W.Frag) (P : Program) (w : World) : List V → Hp → VK → Prop := fun xs H Q => ∃ (l : Addr) (ks : List Key), xs = [V.ref l] ∧ SqL K H l (ks.map kV) ∧ ks.length ≤ 1000 ∧
  ∀ a S n H', H a = none → (∀ c o, H c = some o → H' c = some o) → H' a = some (SetMO P w a S n) → GotM ks ks.length S n → Q (.ref a) H'
theorem cr_setM2 (hc : X.calm = true) : CallR X (.type "set") (rSetM2 X.K X.prog X.w) := by
  intro pins s σ H xs us Q I r h
  obtain ⟨l, ks, e, hl, hk, q⟩ := h
  exact cr_setM hc pins s σ H xs us Q I r ⟨l, ks, e, hl, hk, fun a S n na g => q a S n _ na (fun c o z => by rw [upd_ne (ne_of_none z na)]; exact z) upd_same g⟩
def rSortedMI2 (P : Program) (w : World) : List V → Hp → VK → Prop := fun vs H Q => ∃ (a : Addr) (S : Key → Bool) (n : Nat) (xs : List Int), vs = [V.ref a] ∧ H a = some (SetMO P w a S n) ∧ n ≤ 1000 ∧ (∀ k, S k = true → k ∈ xs.map Sum.inl) ∧ (∀ x ∈ xs, S (Sum.inl x) = true) ∧
  ∀ (ys : List Int) (p : Addr) (H' : Hp), ys.Nodup → ys.Pairwise (· ≤ ·) → (∀ x, x ∈ ys ↔ x ∈ xs) → ys.length = n → H p = none → (∀ c o, H c = some o → H' c = some o) → H' p = some (.lst (ys.map V.int)) → Q (.ref p) H'
theorem cr_sortedMI2 (hc : X.calm = true) (hu : X.A.units + 64 < cLine) : CallR X (.builtin "sorted") (rSortedMI2 X.prog X.w) := by
  intro pins s σ H vs us Q I r h
  obtain ⟨a, S, n, xs, e, ha, hn, h1, h2, q⟩ := h
  exact cr_sortedMI hc hu pins s σ H vs us Q I r ⟨a, S, n, xs, e, ha, hn, h1, h2, fun ys p hnd hs hm hl np => q ys p _ hnd hs hm hl np (fun c o z => by rw [upd_ne (ne_of_none z np)]; exact z) upd_same⟩
end
end SM
/-! defs that make a lambda: their code object is told; the end of a law that shows data (FnG) with tables of code objects -/
namespace LM
open PySem PySem.Spec PyProof.Rows L2 LamX
/-- a def that stands at f, its code object at c -/
structure FunC (K : PySem.W.Frag) (x qual : Str) (st : Stmt) (f : Addr) (fd : FuncData) (c : Addr) : Prop where
  ex : ∃ (oc : Value) (od : Option Addr) (kV doc pm : Value) (an : Option Addr) (ct : Value) (osl : Array (Option Value)),
    fd = PySem.W.fnOf x qual (defArgs st) (defBody st) (defScope st) .none kV doc pm an (.ref c) ct ∧ K.lookup f = some ⟨oc, od, .func fd, osl⟩ ∧ PySem.W.codeIn K (.ref c) qual = true
  kp : PySem.W.keepIn K (.ref f) = true
section
variable {P : Program} {w : World} {K : PySem.W.Frag} {mg : Str → Option Value} {base : Heap} {x qual : Str} {st : Stmt} {f c : Addr} {fd : FuncData}
theorem FunC.toFun (F : FunC K x qual st f fd c) : Fun K x qual st f fd := by
  obtain ⟨oc, od, kV, doc, pm, an, ct, osl, e, l, h⟩ := F.ex
  exact ⟨⟨oc, od, kV, doc, pm, an, .ref c, ct, osl, e, l, h⟩, F.kp⟩
theorem FunC.ok {N ps : List Str} {k : Nat} {sp : Sp} (F : FunC K x qual st f fd c) (S : FnScope N ps (defScope st)) (len : ∀ vs H Q E, sp vs H Q E → vs.length = ps.length)
    (body : ∀ (A : Around) (outer : List Env) (s : Shared) (H : Hp) (vs : List V) (Q : VK) (E : XK), Room k (A.deeper (envOfC qual (defScope st) s.heap.objs.size f (.ref c))) → sp vs H Q E →
      ∃ t, PSs (cxOf CX0 P w K mg base N qual (defScope st) f (.ref c) A outer s H E).nox (defBody st) t ∧ t { nx := fun _ H' => Q .non H', rt := Q } (start N vs) H) : FnOk P w K mg base CX0 (k + 1) f fd ps sp := by
  obtain ⟨oc, od, kV, doc, pm, an, ct, osl, rfl, l, h⟩ := F.ex
  refine fn_of l h S len fun A outer s H vs Q E hr hs => ?_
  obtain ⟨t, a, b⟩ := body A outer s H vs Q E hr hs
  exact ⟨t, a.nox, b⟩
end
/-- all but tables stays, and tables that were well stand well -/
structure Ex (T : List (Addr × Str)) (H H' : Hp) : Prop where
  ext : ExtN H H'
  tab : Tabs T H → Tabs T H'
theorem Ex.refl {T : List (Addr × Str)} (H : Hp) : Ex T H H := ⟨ExtN.refl H, id⟩
theorem Ex.trans {T : List (Addr × Str)} {H H1 H2 : Hp} (a : Ex T H H1) (b : Ex T H1 H2) : Ex T H H2 := ⟨a.ext.trans b.ext, fun t => b.tab (a.tab t)⟩
theorem Ex.of {T : List (Addr × Str)} {H H' : Hp} (e : Same H H') : Ex T H H' := ⟨ExtN.of e, fun t => t.ext e⟩
theorem Ex.lst {T : List (Addr × Str)} {H H' : Hp} (e : Ex T H H') {a : Addr} {xs : List V} (h : H a = some (.lst xs)) : H' a = some (.lst xs) := e.ext _ _ h fun _ z => by cases z
theorem Ex.tup {T : List (Addr × Str)} {H H' : Hp} (e : Ex T H H') {a : Addr} {xs : List V} (h : H a = some (.tup xs)) : H' a = some (.tup xs) := e.ext _ _ h fun _ z => by cases z
/-- the table that the code object at c names -/
def tabOf (K : PySem.W.Frag) (c : Addr) : Addr := match K.lookup c with
  | some ⟨_, _, .fields vs, _⟩ => (match (vs[11]? : Option Value) with | some (.ref P) => P | _ => 0)
  | _ => 0
/-- what a law's call wants, and gives, where tables of code objects may be filled -/
structure Ground (w : World) (K : PySem.W.Frag) (mg mb : Str → Option Value) (cs : List (Addr × Addr)) (h : Heap) : Prop where
  kin : K.In h
  ns : h.Ns mainGlobals mg
  bn : h.Ns builtinsNs mb
  bb : ∀ x : Str, x ≠ "__name__" → mb x = bootBuiltins x
  lim : h.NoLimit
  tab : ∀ p ∈ cs, h.get? p.2 = some (PySem.W.tabObj #[])
  nt : ∀ p ∈ cs, K.lookup p.2 = none
  code : ∀ p ∈ cs, PySem.W.CodeHd h p.1 p.2
  bm : ∃ (b : Addr) (o : Obj), mg "__builtins__" = some (.ref b) ∧ b ≠ builtinsNs ∧ h.get? b = some o ∧ o.cls = .type "module" ∧ o.dict = some builtinsNs ∧ o.data = .plain
section
variable {P : Program} {w : World} {K : PySem.W.Frag} {mg mb : Str → Option Value} {k : Nat} {fa a : Addr} {cs : List (Addr × Addr)} {fd : FuncData} {x : Str} {sp : Sp} {s : Shared} {vs : List Value} {ns : List Int}
/-- the heap's word at the start: the script where it is not written, the tables -/
noncomputable def startH (K : PySem.W.Frag) (a : Addr) (cs : List (Addr × Addr)) (o : Obj) (xs : List V) : Hp := fun b =>
  if b ∈ cs.map (·.2) then some (.tbl #[]) else if b = a ∧ K.lookup a = none then some (.frz o (.lst xs)) else none
theorem law_callGT (G : Ground w K mg mb cs s.heap) (hg : s.gens = #[]) (ha : s.heap.get? a = some { cls := .type "list", data := .seq vs.toArray }) (hi : IntsAre vs ns) (hl : ns.length ≤ sizeLine) (hr : Room k callerA)
    (F : ∀ base : Heap, K.In base → base.Ns mainGlobals mg → (∀ p ∈ cs, TabB base mg p.1 p.2) → FnG P w K mg base k fa fd [x] sp) (hb : ∀ (s : Shared) (u : Value), BindsTo s fd ⟨[u], []⟩ [(x, u)])
    (hsp : ∀ H : Hp, (∀ p ∈ cs, H p.2 = some (.tbl #[])) → SqL K H a (ns.map V.int) → sp [.ref a] H (fun v _ => v = .bl true) fun _ _ _ => False) :
    codeAny (model P w) callerA (.call (.ref fa) ⟨[.ref a], []⟩) (fun r s' => r = .ok (.ret (.bool true)) ∧ OldK s.heap s'.heap ∧ s'.os = s.os ∧ AllBare s'.gens) s := by
  let H := startH K a cs { cls := .type "list", data := .seq vs.toArray } (ns.map V.int)
  have inT : ∀ {b}, b ∈ cs.map (·.2) → H b = some (.tbl #[]) := fun hb => if_pos hb
  have atT : ∀ {b}, b ∈ cs.map (·.2) → s.heap.get? b = some (PySem.W.tabObj #[]) := fun {b} hb => by
    obtain ⟨p, hp, rfl⟩ := List.mem_map.mp hb
    exact G.tab p hp
  have aT : a ∉ cs.map (·.2) := fun z => by
    have q := atT z
    rw [ha] at q
    exact nomatch congrArg Obj.data (Option.some.inj q)
  -- who is told of: a table, or the script, that is not written then
  have told : ∀ {b o}, H b = some o → (b ∈ cs.map (·.2) ∧ o = .tbl #[]) ∨ (b = a ∧ K.lookup a = none ∧ o = .frz { cls := .type "list", data := .seq vs.toArray } (.lst (ns.map V.int))) := fun {b o} e => by
    by_cases h1 : b ∈ cs.map (·.2)
    · rw [inT h1] at e
      exact .inl ⟨h1, (Option.some.inj e).symm⟩
    · by_cases h2 : b = a ∧ K.lookup a = none
      · have e2 : H b = some (.frz { cls := .type "list", data := .seq vs.toArray } (.lst (ns.map V.int))) := (if_neg h1).trans (if_pos h2)
        rw [e2] at e
        exact .inr ⟨h2.1, h2.2, (Option.some.inj e).symm⟩
      · have e2 : H b = none := (if_neg h1).trans (if_neg h2)
        rw [e2] at e
        cases e
  have other : ∀ {b o}, s.heap.get? b = some o → o ≠ PySem.W.tabObj #[] → o.data ≠ .seq vs.toArray 0 → H b = none := fun {b o} e n1 n2 => by
    cases q : H b with
    | none => rfl
    | some u =>
      rcases told q with ⟨z, _⟩ | ⟨rfl, _⟩
      · rw [atT z] at e
        exact absurd (Option.some.inj e).symm n1
      · rw [ha] at e
        cases e
        exact absurd rfl n2
  have stays : ∀ {b o}, s.heap.get? b = some o → o ≠ PySem.W.tabObj #[] → o.data ≠ .seq vs.toArray 0 → (hidT s.heap H).get? b = some o := fun e n1 n2 => hidT_get e (other e n1 n2)
  have spaces : ∀ {b : Addr} {m : Str → Option Value}, s.heap.Ns b m → (hidT s.heap H).Ns b m := fun {b m} ⟨o, es, ep, e, d, r⟩ =>
    ⟨o, es, ep, stays e (fun z => by rw [z] at d; cases d) (fun z => by rw [d] at z; cases z), d, r⟩
  have kin : K.In (hidT s.heap H) := fun b o e => hidT_get (G.kin b o e) (by
    cases q : H b with
    | none => rfl
    | some u =>
      rcases told q with ⟨z, _⟩ | ⟨rfl, n, _⟩
      · obtain ⟨p, hp, rfl⟩ := List.mem_map.mp z
        rw [G.nt p hp] at e
        cases e
      · rw [n] at e
        cases e)
  have mods : L2.Mod K mg (hidT s.heap H) := ⟨kin, spaces G.ns, ⟨mb, spaces G.bn, G.bb⟩, let ⟨m, h1, h2⟩ := G.lim; ⟨m, spaces h1, h2⟩⟩
  have TB : ∀ p ∈ cs, TabB (hidT s.heap H) mg p.1 p.2 := fun p hp => by
    obtain ⟨bm, ob, b1, b2, b3, b4, b5, b6⟩ := G.bm
    obtain ⟨og, eg, pg, g1, g2, _⟩ := G.ns
    have tp := G.tab p hp
    refine ⟨?_, ⟨bm, ob, b1, b2, fun q => ?_, fun q => ?_, stays b3 (fun z => by rw [z] at b6; cases b6) (fun z => by rw [b6] at z; cases z), b4, b5, b6⟩, fun z => ?_⟩
    · obtain ⟨o, us, file, tf, flags, tg, inF, text, tt, e1, r1, r2, r3, r⟩ := G.code p hp
      exact ⟨o, us, file, tf, flags, tg, inF, text, tt, stays e1 (fun z => by rw [z] at r2; cases r2; simp at r3) (fun z => by rw [r2] at z; cases z), r1, r2, r3, r⟩
    · rw [q, g1] at b3
      cases b3
      rw [g2] at b6
      cases b6
    · rw [q, tp] at b3
      cases b3
      cases b6
    · rw [z, tp] at g1
      cases g1
      cases g2
  have rv := vals_ints hi
  have hok : HOk P w H s.heap := fun b u e => by
    rcases told e with ⟨z, rfl⟩ | ⟨rfl, _, rfl⟩
    · exact atT z
    · exact ⟨ha, by rw [List.length_map]; exact hl, vs, _, rv, ha⟩
  have hS : SqL K H a (ns.map V.int) := by
    cases q : K.lookup a with
    | none => exact .inl (.inr ⟨_, (if_neg aT).trans (if_pos ⟨rfl, q⟩)⟩)
    | some o =>
      have e := G.kin a o q
      rw [ha] at e
      cases e
      exact .inr ⟨_, vs.toArray, _, q, rfl, rfl, rfl, by rw [List.size_toArray, hi.length]; exact hl, by simpa using rv⟩
  have env : Env0 P w K mg (hidT s.heap H) callerA [] s H := ⟨rfl, mods, fun b o e => of_hidT e, Nat.le_of_eq (hidT_size _ _), trivial, fun b z => by simp [frs] at z, hok, .of_eq hg⟩
  refine codeAny_mono ((F _ kin (spaces G.ns) TB).go callerA [] s H [.ref a] [.ref a] _ _ ⟨[.ref a], []⟩ rfl hr env (hb s (.ref a)) (.cons rfl .nil) (hsp H (fun p hp => inT (List.mem_map.mpr ⟨p, hp, rfl⟩)) hS)) fun r s' h => ?_
  cases r with
  | error e => exact h.elim
  | ok fl =>
    cases fl with
    | next => exact False.elim h
    | brk => exact False.elim h
    | cont => exact False.elim h
    | ret u =>
      obtain ⟨v, H', os, bare, un, hok', rv', qv⟩ := h
      cases (show v = .bl true from qv)
      cases (show u = Value.bool true from rv')
      have filled : ∀ {b}, b ∈ cs.map (·.2) → ∃ more : Array Value, s'.heap.get? b = some (PySem.W.tabObj more) := fun {b} hb => by
        obtain ⟨more, z⟩ := un.tbls b #[] (inT hb)
        exact ⟨_, hok' b _ z⟩
      have same : ∀ {b o}, b ∉ cs.map (·.2) → s.heap.get? b = some o → s'.heap.get? b = some o := fun {b o} nb e => by
        cases q : H b with
        | none => exact un.keep b o e q (by simp [frs]) (by simp)
        | some y =>
          rcases told q with ⟨z, _⟩ | ⟨_, _, rfl⟩
          · exact absurd z nb
          · have e1 := (hok b _ q).1
            have e2 := (hok' b _ (un.frzs b _ _ q)).1
            rw [e] at e1
            cases e1
            exact e2
      refine ⟨rfl, ⟨fun b o e => ?_, fun b o e => ?_⟩, os, bare⟩
      · by_cases hb : b ∈ cs.map (·.2)
        · obtain ⟨more, hm⟩ := filled hb
          obtain ⟨p, hp, rfl⟩ := List.mem_map.mp hb
          have tp := G.tab p hp
          rw [tp] at e
          cases e
          exact .inr (.inl ⟨((G.code p hp).tab tp).isCodeTable, rfl, #[], more, rfl, by rw [Array.empty_append]; exact hm⟩)
        · exact .inl (same hb e)
      · by_cases hb : b ∈ cs.map (·.2)
        · obtain ⟨more, hm⟩ := filled hb
          exact ⟨_, hm⟩
        · exact ⟨o, same hb e⟩
end
theorem walkGT {l : PySem.W.OpenLaw} {n k : Nat} {q : Program} {loose : List Str} {XP : (Str → Option Value) → Heap → Prop} {YP : World → Heap → Prop} {d : DefRec} {K : Params → PySem.W.Frag} {x : Str}
    (hn : l.most = some n) (hn2 : n ≤ sizeLine) (hdf : d.params.defaults = []) (hr : Room k callerA) (hY : ∀ (w : World) (h : Heap), YP w h → (K w.params).In h)
    (F : ∀ (w : World) (mg : Str → Option Value) (fa : Addr) (h : Heap), YP w h → (K w.params).In h → h.Ns mainGlobals mg → mg d.name = some (.ref fa) →
      ∃ (fd : FuncData) (cs : List (Addr × Addr)) (sp : Sp), (∀ p ∈ cs, h.get? p.2 = some (PySem.W.tabObj #[])) ∧ (∀ p ∈ cs, (K w.params).lookup p.2 = none) ∧ (∀ p ∈ cs, PySem.W.CodeHd h p.1 p.2) ∧
        (∀ (s : Shared) (u : Value), BindsTo s fd ⟨[u], []⟩ [(x, u)]) ∧
        (∀ (H : Hp) (a : Addr) (ns : List Int), ns.length ≤ n → (∀ p ∈ cs, H p.2 = some (.tbl #[])) → SqL (K w.params) H a (ns.map V.int) → sp [.ref a] H (fun v _ => v = .bl true) fun _ _ _ => False) ∧
        ∀ base : Heap, (K w.params).In base → base.Ns mainGlobals mg → (∀ p ∈ cs, TabB base mg p.1 p.2) → FnG l.prog w (K w.params) mg base k fa fd [x] sp) :
    PySem.W.WalkO q loose XP YP l.row.toRowW d [] (fun f vs => PySem.call f vs) := by
  apply Att.attach_callB hn hdf
  intro w s₀ s₁ mg mb fa o pm cd doc a vs ns G Y ho hd hcd hmg hobj hints hlen hbits hg
  have KX := hY w _ Y
  obtain ⟨fd, cs, sp, h1, h2, h3, h4, h5, h6⟩ := F w mg fa _ Y KX G.T.g hmg
  exact law_callGT ⟨KX, G.T.g, G.T.b, G.T.builtins, G.T.nolimit, h1, h2, h3, G.T.bmain⟩ hg hobj hints (Nat.le_trans hlen hn2) hr h6 h4 (fun H hH hS => h5 H a ns hlen hH hS)
end LM
section
open PySem PySem.Spec PyProof.Rows L2
section
open PySem PySem.Spec PyProof.Rows L2
variable {X : Cx}
/-- d == {}, d != {} -/
def rEqDE : R2 := fun x y H Q => ∃ a b kvs, x = .ref a ∧ y = .ref b ∧ H a = some (.dK kvs) ∧ H b = some (.dK []) ∧ Q (.bl kvs.isEmpty) H
def rNeDE : R2 := fun x y H Q => ∃ a b kvs, x = .ref a ∧ y = .ref b ∧ H a = some (.dK kvs) ∧ H b = some (.dK []) ∧ Q (.bl (!kvs.isEmpty)) H
theorem kv_nil {vs : List (Key × Value)} (r : KV ([] : List (Key × V)) vs) : vs = [] := by
  unfold KV at r
  cases r
  rfl
theorem kv_emp {kvs : List (Key × V)} {vs : List (Key × Value)} (r : KV kvs vs) : (vs.length == 0) = kvs.isEmpty := by
  rw [← r.length]
  cases kvs <;> rfl
theorem op_eq_dE (hu : X.A.units < cLine) : OpR X (compareOp .Eq) rEqDE := by
  intro pins s σ H x y v u Q I rx ry h
  obtain ⟨a, b, ks, rfl, rfl, ea, eb, q⟩ := h
  obtain rfl : v = Value.ref a := rx
  obtain rfl : u = Value.ref b := ry
  obtain ⟨_, ya, va, ra, da⟩ := (show ObjOk X.prog X.w H s.heap a (.dK ks) from I.hok a _ ea)
  obtain ⟨_, yb, vb, rb, db⟩ := (show ObjOk X.prog X.w H s.heap b (.dK []) from I.hok b _ eb)
  have e := kv_nil rb
  subst e
  refine PySem.W.keq_eq (knd := mixKind X.prog X.w) (r := true) ya yb da db hu (fun hl => ?_) (fin_bl I q (by rw [Bool.and_true]; exact (kv_emp ra).symm))
  rw [List.eq_nil_of_length_eq_zero hl]
  exact .nil
theorem op_ne_dE (hu : X.A.units < cLine) : OpR X (compareOp .NotEq) rNeDE := by
  intro pins s σ H x y v u Q I rx ry h
  obtain ⟨a, b, ks, rfl, rfl, ea, eb, q⟩ := h
  obtain rfl : v = Value.ref a := rx
  obtain rfl : u = Value.ref b := ry
  obtain ⟨_, ya, va, ra, da⟩ := (show ObjOk X.prog X.w H s.heap a (.dK ks) from I.hok a _ ea)
  obtain ⟨_, yb, vb, rb, db⟩ := (show ObjOk X.prog X.w H s.heap b (.dK []) from I.hok b _ eb)
  have e := kv_nil rb
  subst e
  refine PySem.W.keq_ne (knd := mixKind X.prog X.w) (r := true) ya yb da db hu (fun hl => ?_) (fin_bl I q (by rw [Bool.and_true]; exact congrArg (!·) (kv_emp ra).symm))
  rw [List.eq_nil_of_length_eq_zero hl]
  exact .nil
end
section
open PySem PySem.Spec PyProof.Rows L2
variable {X : Cx}
theorem room66' {k : Nat} {A : Around} (r : Room k A) : A.units + 66 < cLine := by have := r.un; omega
theorem hits_data {pins : List (Addr × Obj)} {σ : L2.St} {H : Hp} {s : Shared} {kvs : List (Key × V)} {vb : List (Key × Value)} (I : Inv X pins σ H s) (hu : X.A.units + 66 < cLine) (rb : KV kvs vb) {ks : List (Key × V)} {va : List (Key × Value)} (ra : KV ks va) :
    (∀ p ∈ ks, ∃ v d e, valV kvs p.1 = some v ∧ Dp X.K H p.2 d ∧ Dp X.K H v e ∧ SeqAt.shaped d = true ∧ SeqAt.shaped e = true ∧ PyData.eqv d e = true) → PySem.W.KeqHits X.A.in1 s vb va true := by
  unfold KV at ra
  induction ra with
  | nil => intro _; exact .nil
  | @cons p q ps qs h t ih =>
    intro hp
    obtain ⟨h1, h2⟩ := h
    obtain ⟨w, d, e, ev, h3, h4, h5, h6, h7⟩ := hp p List.mem_cons_self
    have rr : RelO (some w) (valueAt vb p.1) := by rw [← ev]; exact rb.val p.1
    obtain ⟨y, hy, ry⟩ := rr.some_of
    obtain ⟨k, v⟩ := q
    have h1' : p.1 = k := h1
    rw [h1'] at hy
    obtain ⟨as, r1⟩ := Dp.reads I d _ v h3 h2
    obtain ⟨bs, r2⟩ := Dp.reads I e _ y h4 ry
    have q1 := PySem.W.keq_at (A := X.A) r1 r2 h5 h6 (by show X.A.units + 1 + 64 < cLine; omega)
    rw [h7] at q1
    show PySem.W.KeqHits X.A.in1 s vb ((k, v) :: qs) (true && true)
    exact .hit hy q1 (ih fun p' hm => hp p' (List.mem_cons_of_mem _ hm))
/-- dicts with data for values, the same -/
def SameD (K : PySem.W.Frag) (H : Hp) (a b : Addr) : Prop := ∃ ks ls, H a = some (.dK ks) ∧ H b = some (.dK ls) ∧ ks.length = ls.length ∧ ∀ p ∈ ks, ∃ v d e, valV ls p.1 = some v ∧ Dp K H p.2 d ∧ Dp K H v e ∧ SeqAt.shaped d = true ∧ SeqAt.shaped e = true ∧ PyData.eqv d e = true
def rEqDD (K : PySem.W.Frag) : R2 := fun x y H Q => ∃ a b, x = .ref a ∧ y = .ref b ∧ SameD K H a b ∧ Q (.bl true) H
def rNeDD (K : PySem.W.Frag) : R2 := fun x y H Q => ∃ a b, x = .ref a ∧ y = .ref b ∧ SameD K H a b ∧ Q (.bl false) H
theorem op_eq_dD (hu : X.A.units + 66 < cLine) : OpR X (compareOp .Eq) (rEqDD X.K) := by
  intro pins s σ H x y v u Q I rx ry h
  obtain ⟨a, b, rfl, rfl, ⟨ks, ls, ea, eb, hlen, hp⟩, q⟩ := h
  obtain rfl : v = Value.ref a := rx
  obtain rfl : u = Value.ref b := ry
  obtain ⟨_, ya, va, ra, da⟩ := (show ObjOk X.prog X.w H s.heap a (.dK ks) from I.hok a _ ea)
  obtain ⟨_, yb, vb, rb, db⟩ := (show ObjOk X.prog X.w H s.heap b (.dK ls) from I.hok b _ eb)
  have hl : va.length = vb.length := by rw [← ra.length, ← rb.length]; exact hlen
  exact PySem.W.keq_eq (knd := mixKind X.prog X.w) (r := true) ya yb da db (by omega) (fun _ => hits_data I hu rb ra hp) (fin_bl I q (by simp [hl]))
theorem op_ne_dD (hu : X.A.units + 66 < cLine) : OpR X (compareOp .NotEq) (rNeDD X.K) := by
  intro pins s σ H x y v u Q I rx ry h
  obtain ⟨a, b, rfl, rfl, ⟨ks, ls, ea, eb, hlen, hp⟩, q⟩ := h
  obtain rfl : v = Value.ref a := rx
  obtain rfl : u = Value.ref b := ry
  obtain ⟨_, ya, va, ra, da⟩ := (show ObjOk X.prog X.w H s.heap a (.dK ks) from I.hok a _ ea)
  obtain ⟨_, yb, vb, rb, db⟩ := (show ObjOk X.prog X.w H s.heap b (.dK ls) from I.hok b _ eb)
  have hl : va.length = vb.length := by rw [← ra.length, ← rb.length]; exact hlen
  exact PySem.W.keq_ne (knd := mixKind X.prog X.w) (r := true) ya yb da db (by omega) (fun _ => hits_data I hu rb ra hp) (fin_bl I q (by simp [hl]))
end
end

namespace M
open PySem L2

def top (i : Nat) : Stmt := PySem.Challenge.pw_stampedwait_k34_where_keys_are.main.body.getD i (.Pass ⟨0, 0, 0, 0⟩)
abbrev s_is_whole : Stmt := top 19
abbrev s_is_row_of_whole : Stmt := top 20
abbrev s_is_stamp : Stmt := top 21
abbrev s_is_key : Stmt := top 26
abbrev s_is_worth : Stmt := top 27
abbrev s_refuse_no_key : Stmt := top 28
abbrev s_refuse_no_time : Stmt := top 29
abbrev s_many_up_to : Stmt := top 30
abbrev s_Shelf___init__ : Stmt := inClass (top 31) 0
abbrev s_Shelf_row_of : Stmt := inClass (top 31) 1
abbrev s_Shelf_make_own : Stmt := inClass (top 31) 2
abbrev s_Shelf_put : Stmt := inClass (top 31) 3
abbrev s_Shelf___len__ : Stmt := inClass (top 31) 14
abbrev s_Shelf_let_go : Stmt := inClass (top 31) 4
abbrev s_stamp_in : Stmt := top 11
abbrev s_writes_in : Stmt := top 12
abbrev s_things_behind : Stmt := top 13
abbrev s_move_of : Stmt := top 14
abbrev s_form_of : Stmt := top 15
abbrev s_move_in : Stmt := top 16
abbrev s_form_in : Stmt := top 17
abbrev s_Ledger_make_own : Stmt := inClass (top 43) 1
abbrev s_Ledger_noted_of : Stmt := inClass (top 43) 3
abbrev s_Ledger_word : Stmt := inClass (top 43) 10
abbrev s_Ledger_pledge_of : Stmt := inClass (top 43) 11
abbrev s_Ledger_low_of : Stmt := inClass (top 43) 13
abbrev s_Ledger_note_stamp : Stmt := inClass (top 43) 8
abbrev s_Ledger_note_pledge : Stmt := inClass (top 43) 4
abbrev s_Ledger_note_sure : Stmt := inClass (top 43) 5
abbrev s_Ledger_note_end : Stmt := inClass (top 43) 7
abbrev s_Ledger_note_mark : Stmt := inClass (top 43) 9
abbrev s_Ledger_note_done : Stmt := inClass (top 43) 6
abbrev s_Ledger_note : Stmt := inClass (top 43) 2
abbrev s_Ledger___init__ : Stmt := inClass (top 43) 0
abbrev s_last_up_to : Stmt := top 42
abbrev s_first_house : Stmt := top 41
abbrev s_Ledger_house_of : Stmt := inClass (top 43) 23
abbrev s_Ledger_house_at : Stmt := inClass (top 43) 24
abbrev s_l_bag : Stmt := top 45
abbrev s_l_out : Stmt := top 46
abbrev s_l_worth : Stmt := top 47
abbrev s_l_first : Stmt := top 48
abbrev s_l_state : Stmt := top 49
abbrev s_l_busy : Stmt := top 50
abbrev s_l_forms_open : Stmt := top 51
abbrev s_l_done : Stmt := top 58
abbrev s_l_at : Stmt := top 59
abbrev s_l_more : Stmt := top 52
abbrev s_l_pledged : Stmt := top 53
abbrev s_l_marked : Stmt := top 55
abbrev s_l_freed : Stmt := top 56
abbrev s_l_ended : Stmt := top 54
abbrev s_l_step : Stmt := top 57
abbrev s_l_right : Stmt := top 60
abbrev s_law : Stmt := top 61
theorem sc_is_whole : FnScope ["thing"] ["thing"] (defScope s_is_whole) := ⟨rfl, rfl, rfl, by decide +kernel, rfl, by decide +kernel, by decide +kernel⟩
theorem sc_is_row_of_whole : FnScope ["thing", "least", "most", "part"] ["thing", "least", "most"] (defScope s_is_row_of_whole) := ⟨rfl, rfl, rfl, by decide +kernel, rfl, by decide +kernel, by decide +kernel⟩
theorem sc_is_stamp : FnScope ["thing"] ["thing"] (defScope s_is_stamp) := ⟨rfl, rfl, rfl, by decide +kernel, rfl, by decide +kernel, by decide +kernel⟩
theorem sc_is_key : FnScope ["thing"] ["thing"] (defScope s_is_key) := ⟨rfl, rfl, rfl, by decide +kernel, rfl, by decide +kernel, by decide +kernel⟩
theorem sc_is_worth : FnScope ["thing"] ["thing"] (defScope s_is_worth) := ⟨rfl, rfl, rfl, by decide +kernel, rfl, by decide +kernel, by decide +kernel⟩
theorem sc_refuse_no_key : FnScope ["thing"] ["thing"] (defScope s_refuse_no_key) := ⟨rfl, rfl, rfl, by decide +kernel, rfl, by decide +kernel, by decide +kernel⟩
theorem sc_refuse_no_time : FnScope ["thing"] ["thing"] (defScope s_refuse_no_time) := ⟨rfl, rfl, rfl, by decide +kernel, rfl, by decide +kernel, by decide +kernel⟩
theorem sc_many_up_to : FnScope ["row", "time", "least", "most", "middle"] ["row", "time"] (defScope s_many_up_to) := ⟨rfl, rfl, rfl, by decide +kernel, rfl, by decide +kernel, by decide +kernel⟩
theorem sc_Shelf___init__ : FnScope ["self"] ["self"] (defScope s_Shelf___init__) := ⟨rfl, rfl, rfl, by decide +kernel, rfl, by decide +kernel, by decide +kernel⟩
theorem sc_Shelf_row_of : FnScope ["self", "key"] ["self", "key"] (defScope s_Shelf_row_of) := ⟨rfl, rfl, rfl, by decide +kernel, rfl, by decide +kernel, by decide +kernel⟩
theorem sc_Shelf_make_own : FnScope ["self"] ["self"] (defScope s_Shelf_make_own) := ⟨rfl, rfl, rfl, by decide +kernel, rfl, by decide +kernel, by decide +kernel⟩
theorem sc_Shelf_put : FnScope ["self", "key", "stamp", "worth", "row"] ["self", "key", "stamp", "worth"] (defScope s_Shelf_put) := ⟨rfl, rfl, rfl, by decide +kernel, rfl, by decide +kernel, by decide +kernel⟩
theorem sc_Shelf___len__ : FnScope ["self", "row", "pair"] ["self"] (defScope s_Shelf___len__) := ⟨rfl, rfl, rfl, by decide +kernel, rfl, by decide +kernel, by decide +kernel⟩
theorem sc_Shelf_let_go : FnScope ["self", "time", "key", "elder"] ["self", "time"] (defScope s_Shelf_let_go) := ⟨rfl, rfl, rfl, by decide +kernel, rfl, by decide +kernel, by decide +kernel⟩
theorem sc_stamp_in : FnScope ["pledge"] ["pledge"] (defScope s_stamp_in) := ⟨rfl, rfl, rfl, by decide +kernel, rfl, by decide +kernel, by decide +kernel⟩
theorem sc_writes_in : FnScope ["pledge"] ["pledge"] (defScope s_writes_in) := ⟨rfl, rfl, rfl, by decide +kernel, rfl, by decide +kernel, by decide +kernel⟩
theorem sc_things_behind : FnScope ["more", "word"] ["more", "word"] (defScope s_things_behind) := ⟨rfl, rfl, rfl, by decide +kernel, rfl, by decide +kernel, by decide +kernel⟩
theorem sc_move_of : FnScope ["more"] ["more"] (defScope s_move_of) := ⟨rfl, rfl, rfl, by decide +kernel, rfl, by decide +kernel, by decide +kernel⟩
theorem sc_form_of : FnScope ["more"] ["more"] (defScope s_form_of) := ⟨rfl, rfl, rfl, by decide +kernel, rfl, by decide +kernel, by decide +kernel⟩
theorem sc_move_in : FnScope ["pledge"] ["pledge"] (defScope s_move_in) := ⟨rfl, rfl, rfl, by decide +kernel, rfl, by decide +kernel, by decide +kernel⟩
theorem sc_form_in : FnScope ["pledge"] ["pledge"] (defScope s_form_in) := ⟨rfl, rfl, rfl, by decide +kernel, rfl, by decide +kernel, by decide +kernel⟩
theorem sc_Ledger_make_own : FnScope ["self"] ["self"] (defScope s_Ledger_make_own) := ⟨rfl, rfl, rfl, by decide +kernel, rfl, by decide +kernel, by decide +kernel⟩
theorem sc_Ledger_noted_of : FnScope ["self", "dealing"] ["self", "dealing"] (defScope s_Ledger_noted_of) := ⟨rfl, rfl, rfl, by decide +kernel, rfl, by decide +kernel, by decide +kernel⟩
theorem sc_Ledger_word : FnScope ["self", "dealing"] ["self", "dealing"] (defScope s_Ledger_word) := ⟨rfl, rfl, rfl, by decide +kernel, rfl, by decide +kernel, by decide +kernel⟩
theorem sc_Ledger_pledge_of : FnScope ["self", "dealing"] ["self", "dealing"] (defScope s_Ledger_pledge_of) := ⟨rfl, rfl, rfl, by decide +kernel, rfl, by decide +kernel, by decide +kernel⟩
theorem sc_Ledger_low_of : FnScope ["self", "dealing"] ["self", "dealing"] (defScope s_Ledger_low_of) := ⟨rfl, rfl, rfl, by decide +kernel, rfl, by decide +kernel, by decide +kernel⟩
theorem sc_Ledger_note_stamp : FnScope ["self", "stamp"] ["self", "stamp"] (defScope s_Ledger_note_stamp) := ⟨rfl, rfl, rfl, by decide +kernel, rfl, by decide +kernel, by decide +kernel⟩
theorem sc_Ledger_note_pledge : FnScope ["self", "entry", "dealing", "word", "pledge", "stamp", "low"] ["self", "entry"] (defScope s_Ledger_note_pledge) := ⟨rfl, rfl, rfl, by decide +kernel, rfl, by decide +kernel, by decide +kernel⟩
theorem sc_Ledger_note_sure : FnScope ["self", "entry", "word", "dealing", "stamp", "low"] ["self", "entry"] (defScope s_Ledger_note_sure) := ⟨rfl, rfl, rfl, by decide +kernel, rfl, by decide +kernel, by decide +kernel⟩
theorem sc_Ledger_note_end : FnScope ["self", "dealing", "word", "was", "pledge", "stamp", "low"] ["self", "dealing", "word"] (defScope s_Ledger_note_end) := ⟨rfl, rfl, rfl, by decide +kernel, rfl, by decide +kernel, by decide +kernel⟩
theorem sc_Ledger_note_mark : FnScope ["self", "time"] ["self", "time"] (defScope s_Ledger_note_mark) := ⟨rfl, rfl, rfl, by decide +kernel, rfl, by decide +kernel, by decide +kernel⟩
theorem sc_Ledger_note_done : FnScope ["self", "entry", "word", "dealing", "stamp", "pledge", "key", "worth", "move", "to", "form"] ["self", "entry"] (defScope s_Ledger_note_done) := ⟨rfl, rfl, rfl, by decide +kernel, rfl, by decide +kernel, by decide +kernel⟩
theorem sc_Ledger_note : FnScope ["self", "entry", "word"] ["self", "entry"] (defScope s_Ledger_note) := ⟨rfl, rfl, rfl, by decide +kernel, rfl, by decide +kernel, by decide +kernel⟩
theorem sc_Ledger___init__ : FnScope ["self", "house", "houses"] ["self", "house", "houses"] (defScope s_Ledger___init__) := ⟨rfl, rfl, rfl, by decide +kernel, rfl, by decide +kernel, by decide +kernel⟩
theorem sc_last_up_to : FnScope ["rows", "time", "otherwise", "begun", "thing"] ["rows", "time", "otherwise"] (defScope s_last_up_to) := ⟨rfl, rfl, rfl, by decide +kernel, rfl, by decide +kernel, by decide +kernel⟩
theorem sc_first_house : FnScope ["key", "houses", "sign"] ["key", "houses"] (defScope s_first_house) := ⟨rfl, rfl, rfl, by decide +kernel, rfl, by decide +kernel, by decide +kernel⟩
theorem sc_Ledger_house_of : FnScope ["self", "key", "rows"] ["self", "key"] (defScope s_Ledger_house_of) := ⟨rfl, rfl, rfl, by decide +kernel, rfl, by decide +kernel, by decide +kernel⟩
theorem sc_Ledger_house_at : FnScope ["self", "key", "time", "house"] ["self", "key", "time"] (defScope s_Ledger_house_at) := ⟨rfl, rfl, rfl, by decide +kernel, rfl, by decide +kernel, by decide +kernel⟩
theorem sc_l_bag : FnScope ["_law_script", "_law_k", "_law_cell", "_law_great"] ["_law_script", "_law_k"] (defScope s_l_bag) := ⟨rfl, rfl, rfl, by decide +kernel, rfl, by decide +kernel, by decide +kernel⟩
theorem sc_l_out : FnScope ["_law_bag_here", "_law_many", "_law_found"] ["_law_bag_here", "_law_many"] (defScope s_l_out) := ⟨rfl, rfl, rfl, by decide +kernel, rfl, by decide +kernel, by decide +kernel⟩
theorem sc_l_worth : FnScope ["_law_bag_here", "_law_field"] ["_law_bag_here"] (defScope s_l_worth) := ⟨rfl, rfl, rfl, by decide +kernel, rfl, by decide +kernel, by decide +kernel⟩
theorem sc_l_first : FnScope ["_law_key", "_law_houses", "_law_sign"] ["_law_key", "_law_houses"] (defScope s_l_first) := ⟨rfl, rfl, rfl, by decide +kernel, rfl, by decide +kernel, by decide +kernel⟩
theorem sc_l_state : FnScope ["_law_house", "_law_houses"] ["_law_house", "_law_houses"] (defScope s_l_state) := ⟨rfl, rfl, rfl, by decide +kernel, rfl, by decide +kernel, by decide +kernel⟩
theorem sc_l_busy : FnScope ["_law_state_here", "_law_key", "_law_found", "_law_dealing", "_law_entry", "_law_moved", "_law_own", "_law_worth_here"] ["_law_state_here", "_law_key"] (defScope s_l_busy) := ⟨rfl, rfl, rfl, by decide +kernel, rfl, by decide +kernel, by decide +kernel⟩
theorem sc_l_forms_open : FnScope ["_law_state_here", "_law_some", "_law_dealing", "_law_more_here"] ["_law_state_here"] (defScope s_l_forms_open) := ⟨rfl, rfl, rfl, by decide +kernel, rfl, by decide +kernel, by decide +kernel⟩
theorem sc_l_done : FnScope ["_law_rows", "_law_word", "_law_found", "_law_row", "_law_entry", "_law_one"] ["_law_rows", "_law_word"] (defScope s_l_done) := ⟨rfl, rfl, rfl, by decide +kernel, rfl, by decide +kernel, by decide +kernel⟩
theorem sc_l_at : FnScope ["_law_rows", "_law_key", "_law_time", "_law_house", "_law_houses", "_law_found", "_law_stamp", "_law_more_here"] ["_law_rows", "_law_key", "_law_time", "_law_house", "_law_houses"] (defScope s_l_at) := ⟨rfl, rfl, rfl, by decide +kernel, rfl, by decide +kernel, by decide +kernel⟩
theorem sc_l_more : FnScope ["_law_bag_here", "_law_state_here", "_law_key", "_law_time", "_law_house", "_law_way", "_law_here", "_law_to"] ["_law_bag_here", "_law_state_here", "_law_key", "_law_time"] (defScope s_l_more) := ⟨rfl, rfl, rfl, by decide +kernel, rfl, by decide +kernel, by decide +kernel⟩
theorem sc_l_pledged : FnScope ["_law_bag_here", "_law_state_here", "_law_time", "_law_names", "_law_key", "_law_more_here", "_law_reads", "_law_writes", "_law_own", "_law_busy_here", "_law_way", "_law_here", "_law_some", "_law_stamp", "_law_entry", "_law_when"] ["_law_bag_here", "_law_state_here"] (defScope s_l_pledged) := ⟨rfl, rfl, rfl, by decide +kernel, rfl, by decide +kernel, by decide +kernel⟩
theorem sc_l_marked : FnScope ["_law_bag_here", "_law_state_here", "_law_times", "_law_time", "_law_marks", "_law_dealing", "_law_row"] ["_law_bag_here", "_law_state_here"] (defScope s_l_marked) := ⟨rfl, rfl, rfl, by decide +kernel, rfl, by decide +kernel, by decide +kernel⟩
theorem sc_l_freed : FnScope ["_law_bag_here", "_law_state_here", "_law_times", "_law_time", "_law_dealing"] ["_law_bag_here", "_law_state_here"] (defScope s_l_freed) := ⟨rfl, rfl, rfl, by decide +kernel, rfl, by decide +kernel, by decide +kernel⟩
theorem sc_l_ended : FnScope ["_law_bag_here", "_law_state_here", "_law_dealing", "_law_entry", "_law_sure", "_law_time", "_law_serial", "_law_house", "_law_later", "_law_stamp", "_law_row"] ["_law_bag_here", "_law_state_here"] (defScope s_l_ended) := ⟨rfl, rfl, rfl, by decide +kernel, rfl, by decide +kernel, by decide +kernel⟩
theorem sc_l_step : FnScope ["_law_bag_here", "_law_state_here", "_law_way"] ["_law_bag_here", "_law_state_here"] (defScope s_l_step) := ⟨rfl, rfl, rfl, by decide +kernel, rfl, by decide +kernel, by decide +kernel⟩
theorem sc_l_right : FnScope ["_law_ledger", "_law_rows", "_law_house", "_law_houses", "_law_key", "_law_times", "_law_stamp", "_law_more_here", "_law_time"] ["_law_ledger", "_law_rows", "_law_house", "_law_houses"] (defScope s_l_right) := ⟨rfl, rfl, rfl, by decide +kernel, rfl, by decide +kernel, by decide +kernel⟩
theorem sc_law : FnScope ["_law_script", "_law_k", "_law_bag_here", "_law_key", "_law_houses", "_law_house", "_law_state_here", "_law_ledger", "_law_noted", "_law_turn", "_law_row", "_law_sign"] ["_law_script"] (defScope s_law) := ⟨rfl, rfl, rfl, by decide +kernel, rfl, by decide +kernel, by decide +kernel⟩
/-- what the top has written -/
structure Txt (K : PySem.W.Frag) (mg : Str → Option Value) (a : Nat → Addr) (d : Nat → FuncData) : Prop where
  g_is_whole : mg "is_whole" = some (.ref (a 0))
  F_is_whole : Fun K "is_whole" "is_whole" s_is_whole (a 0) (d 0)
  b_is_whole : Binds K (d 0) ["thing"] []
  g_is_row_of_whole : mg "is_row_of_whole" = some (.ref (a 1))
  F_is_row_of_whole : Fun K "is_row_of_whole" "is_row_of_whole" s_is_row_of_whole (a 1) (d 1)
  b_is_row_of_whole : Binds K (d 1) ["thing", "least", "most"] []
  g_is_stamp : mg "is_stamp" = some (.ref (a 2))
  F_is_stamp : Fun K "is_stamp" "is_stamp" s_is_stamp (a 2) (d 2)
  b_is_stamp : Binds K (d 2) ["thing"] []
  g_is_key : mg "is_key" = some (.ref (a 3))
  F_is_key : Fun K "is_key" "is_key" s_is_key (a 3) (d 3)
  b_is_key : Binds K (d 3) ["thing"] []
  g_is_worth : mg "is_worth" = some (.ref (a 4))
  F_is_worth : Fun K "is_worth" "is_worth" s_is_worth (a 4) (d 4)
  b_is_worth : Binds K (d 4) ["thing"] []
  g_refuse_no_key : mg "refuse_no_key" = some (.ref (a 5))
  F_refuse_no_key : Fun K "refuse_no_key" "refuse_no_key" s_refuse_no_key (a 5) (d 5)
  b_refuse_no_key : Binds K (d 5) ["thing"] []
  g_refuse_no_time : mg "refuse_no_time" = some (.ref (a 6))
  F_refuse_no_time : Fun K "refuse_no_time" "refuse_no_time" s_refuse_no_time (a 6) (d 6)
  b_refuse_no_time : Binds K (d 6) ["thing"] []
  g_many_up_to : mg "many_up_to" = some (.ref (a 7))
  F_many_up_to : Fun K "many_up_to" "many_up_to" s_many_up_to (a 7) (d 7)
  b_many_up_to : Binds K (d 7) ["row", "time"] []
  F_Shelf___init__ : Fun K "__init__" "Shelf.__init__" s_Shelf___init__ (a 8) (d 8)
  b_Shelf___init__ : Binds K (d 8) ["self"] []
  m_Shelf___init__ : Mk K (a 55) (a 8)
  F_Shelf_row_of : Fun K "row_of" "Shelf.row_of" s_Shelf_row_of (a 9) (d 9)
  b_Shelf_row_of : Binds K (d 9) ["self", "key"] []
  m_Shelf_row_of : Meth K (a 55) "row_of" (a 9)
  F_Shelf_make_own : Fun K "make_own" "Shelf.make_own" s_Shelf_make_own (a 10) (d 10)
  b_Shelf_make_own : Binds K (d 10) ["self"] []
  m_Shelf_make_own : Meth K (a 55) "make_own" (a 10)
  F_Shelf_put : Fun K "put" "Shelf.put" s_Shelf_put (a 11) (d 11)
  b_Shelf_put : Binds K (d 11) ["self", "key", "stamp", "worth"] []
  m_Shelf_put : Meth K (a 55) "put" (a 11)
  F_Shelf___len__ : Fun K "__len__" "Shelf.__len__" s_Shelf___len__ (a 12) (d 12)
  b_Shelf___len__ : Binds K (d 12) ["self"] []
  m_Shelf___len__ : Meth K (a 55) "__len__" (a 12)
  F_Shelf_let_go : Fun K "let_go" "Shelf.let_go" s_Shelf_let_go (a 13) (d 13)
  b_Shelf_let_go : Binds K (d 13) ["self", "time"] []
  m_Shelf_let_go : Meth K (a 55) "let_go" (a 13)
  g_stamp_in : mg "stamp_in" = some (.ref (a 14))
  F_stamp_in : Fun K "stamp_in" "stamp_in" s_stamp_in (a 14) (d 14)
  b_stamp_in : Binds K (d 14) ["pledge"] []
  g_writes_in : mg "writes_in" = some (.ref (a 15))
  F_writes_in : Fun K "writes_in" "writes_in" s_writes_in (a 15) (d 15)
  b_writes_in : Binds K (d 15) ["pledge"] []
  g_things_behind : mg "things_behind" = some (.ref (a 16))
  F_things_behind : Fun K "things_behind" "things_behind" s_things_behind (a 16) (d 16)
  b_things_behind : Binds K (d 16) ["more", "word"] []
  g_move_of : mg "move_of" = some (.ref (a 17))
  F_move_of : Fun K "move_of" "move_of" s_move_of (a 17) (d 17)
  b_move_of : Binds K (d 17) ["more"] []
  g_form_of : mg "form_of" = some (.ref (a 18))
  F_form_of : Fun K "form_of" "form_of" s_form_of (a 18) (d 18)
  b_form_of : Binds K (d 18) ["more"] []
  g_move_in : mg "move_in" = some (.ref (a 19))
  F_move_in : Fun K "move_in" "move_in" s_move_in (a 19) (d 19)
  b_move_in : Binds K (d 19) ["pledge"] []
  g_form_in : mg "form_in" = some (.ref (a 20))
  F_form_in : Fun K "form_in" "form_in" s_form_in (a 20) (d 20)
  b_form_in : Binds K (d 20) ["pledge"] []
  F_Ledger_make_own : Fun K "make_own" "Ledger.make_own" s_Ledger_make_own (a 21) (d 21)
  b_Ledger_make_own : Binds K (d 21) ["self"] []
  m_Ledger_make_own : Meth K (a 56) "make_own" (a 21)
  F_Ledger_noted_of : Fun K "noted_of" "Ledger.noted_of" s_Ledger_noted_of (a 22) (d 22)
  b_Ledger_noted_of : Binds K (d 22) ["self", "dealing"] []
  m_Ledger_noted_of : Meth K (a 56) "noted_of" (a 22)
  F_Ledger_word : Fun K "word" "Ledger.word" s_Ledger_word (a 23) (d 23)
  b_Ledger_word : Binds K (d 23) ["self", "dealing"] []
  m_Ledger_word : Meth K (a 56) "word" (a 23)
  F_Ledger_pledge_of : Fun K "pledge_of" "Ledger.pledge_of" s_Ledger_pledge_of (a 24) (d 24)
  b_Ledger_pledge_of : Binds K (d 24) ["self", "dealing"] []
  m_Ledger_pledge_of : Meth K (a 56) "pledge_of" (a 24)
  F_Ledger_low_of : Fun K "low_of" "Ledger.low_of" s_Ledger_low_of (a 25) (d 25)
  b_Ledger_low_of : Binds K (d 25) ["self", "dealing"] []
  m_Ledger_low_of : Meth K (a 56) "low_of" (a 25)
  F_Ledger_note_stamp : Fun K "note_stamp" "Ledger.note_stamp" s_Ledger_note_stamp (a 26) (d 26)
  b_Ledger_note_stamp : Binds K (d 26) ["self", "stamp"] []
  m_Ledger_note_stamp : Meth K (a 56) "note_stamp" (a 26)
  F_Ledger_note_pledge : Fun K "note_pledge" "Ledger.note_pledge" s_Ledger_note_pledge (a 27) (d 27)
  b_Ledger_note_pledge : Binds K (d 27) ["self", "entry"] []
  m_Ledger_note_pledge : Meth K (a 56) "note_pledge" (a 27)
  F_Ledger_note_sure : Fun K "note_sure" "Ledger.note_sure" s_Ledger_note_sure (a 28) (d 28)
  b_Ledger_note_sure : Binds K (d 28) ["self", "entry"] []
  m_Ledger_note_sure : Meth K (a 56) "note_sure" (a 28)
  F_Ledger_note_end : Fun K "note_end" "Ledger.note_end" s_Ledger_note_end (a 29) (d 29)
  b_Ledger_note_end : Binds K (d 29) ["self", "dealing", "word"] []
  m_Ledger_note_end : Meth K (a 56) "note_end" (a 29)
  F_Ledger_note_mark : Fun K "note_mark" "Ledger.note_mark" s_Ledger_note_mark (a 30) (d 30)
  b_Ledger_note_mark : Binds K (d 30) ["self", "time"] []
  m_Ledger_note_mark : Meth K (a 56) "note_mark" (a 30)
  F_Ledger_note_done : LM.FunC K "note_done" "Ledger.note_done" s_Ledger_note_done (a 31) (d 31) (a 90)
  b_Ledger_note_done : Binds K (d 31) ["self", "entry"] []
  m_Ledger_note_done : Meth K (a 56) "note_done" (a 31)
  F_Ledger_note : Fun K "note" "Ledger.note" s_Ledger_note (a 32) (d 32)
  b_Ledger_note : Binds K (d 32) ["self", "entry"] []
  m_Ledger_note : Meth K (a 56) "note" (a 32)
  F_Ledger___init__ : FunD K "__init__" "Ledger.__init__" (defArgs s_Ledger___init__) (defBody s_Ledger___init__) (defScope s_Ledger___init__) [.int 1] [] (a 33) (d 33)
  c_Ledger___init__ : ∃ ds, Vals [.int 1] ds ∧ Binds K (d 33) ["self", "house", "houses"] ds
  b_Ledger___init__ : Binds K (d 33) ["self", "house", "houses"] []
  m_Ledger___init__ : Mk K (a 56) (a 33)
  g_last_up_to : mg "last_up_to" = some (.ref (a 34))
  F_last_up_to : Fun K "last_up_to" "last_up_to" s_last_up_to (a 34) (d 34)
  b_last_up_to : Binds K (d 34) ["rows", "time", "otherwise"] []
  g_first_house : mg "first_house" = some (.ref (a 35))
  F_first_house : Fun K "first_house" "first_house" s_first_house (a 35) (d 35)
  b_first_house : Binds K (d 35) ["key", "houses"] []
  F_Ledger_house_of : Fun K "house_of" "Ledger.house_of" s_Ledger_house_of (a 36) (d 36)
  b_Ledger_house_of : Binds K (d 36) ["self", "key"] []
  m_Ledger_house_of : Meth K (a 56) "house_of" (a 36)
  F_Ledger_house_at : Fun K "house_at" "Ledger.house_at" s_Ledger_house_at (a 37) (d 37)
  b_Ledger_house_at : Binds K (d 37) ["self", "key", "time"] []
  m_Ledger_house_at : Meth K (a 56) "house_at" (a 37)
  g_l_bag : mg "_law_bag" = some (.ref (a 38))
  F_l_bag : Fun K "_law_bag" "_law_bag" s_l_bag (a 38) (d 38)
  b_l_bag : Binds K (d 38) ["_law_script", "_law_k"] []
  g_l_out : mg "_law_out" = some (.ref (a 39))
  F_l_out : Fun K "_law_out" "_law_out" s_l_out (a 39) (d 39)
  b_l_out : Binds K (d 39) ["_law_bag_here", "_law_many"] []
  g_l_worth : mg "_law_worth" = some (.ref (a 40))
  F_l_worth : Fun K "_law_worth" "_law_worth" s_l_worth (a 40) (d 40)
  b_l_worth : Binds K (d 40) ["_law_bag_here"] []
  g_l_first : mg "_law_first" = some (.ref (a 41))
  F_l_first : Fun K "_law_first" "_law_first" s_l_first (a 41) (d 41)
  b_l_first : Binds K (d 41) ["_law_key", "_law_houses"] []
  g_l_state : mg "_law_state" = some (.ref (a 42))
  F_l_state : Fun K "_law_state" "_law_state" s_l_state (a 42) (d 42)
  b_l_state : Binds K (d 42) ["_law_house", "_law_houses"] []
  g_l_busy : mg "_law_busy" = some (.ref (a 43))
  F_l_busy : Fun K "_law_busy" "_law_busy" s_l_busy (a 43) (d 43)
  b_l_busy : Binds K (d 43) ["_law_state_here", "_law_key"] []
  g_l_forms_open : mg "_law_forms_open" = some (.ref (a 44))
  F_l_forms_open : Fun K "_law_forms_open" "_law_forms_open" s_l_forms_open (a 44) (d 44)
  b_l_forms_open : Binds K (d 44) ["_law_state_here"] []
  g_l_done : mg "_law_done" = some (.ref (a 45))
  F_l_done : Fun K "_law_done" "_law_done" s_l_done (a 45) (d 45)
  b_l_done : Binds K (d 45) ["_law_rows", "_law_word"] []
  g_l_at : mg "_law_at" = some (.ref (a 46))
  F_l_at : Fun K "_law_at" "_law_at" s_l_at (a 46) (d 46)
  b_l_at : Binds K (d 46) ["_law_rows", "_law_key", "_law_time", "_law_house", "_law_houses"] []
  g_l_more : mg "_law_more" = some (.ref (a 47))
  F_l_more : Fun K "_law_more" "_law_more" s_l_more (a 47) (d 47)
  b_l_more : Binds K (d 47) ["_law_bag_here", "_law_state_here", "_law_key", "_law_time"] []
  g_l_pledged : mg "_law_pledged" = some (.ref (a 48))
  F_l_pledged : Fun K "_law_pledged" "_law_pledged" s_l_pledged (a 48) (d 48)
  b_l_pledged : Binds K (d 48) ["_law_bag_here", "_law_state_here"] []
  g_l_marked : mg "_law_marked" = some (.ref (a 49))
  F_l_marked : Fun K "_law_marked" "_law_marked" s_l_marked (a 49) (d 49)
  b_l_marked : Binds K (d 49) ["_law_bag_here", "_law_state_here"] []
  g_l_freed : mg "_law_freed" = some (.ref (a 50))
  F_l_freed : Fun K "_law_freed" "_law_freed" s_l_freed (a 50) (d 50)
  b_l_freed : Binds K (d 50) ["_law_bag_here", "_law_state_here"] []
  g_l_ended : mg "_law_ended" = some (.ref (a 51))
  F_l_ended : Fun K "_law_ended" "_law_ended" s_l_ended (a 51) (d 51)
  b_l_ended : Binds K (d 51) ["_law_bag_here", "_law_state_here"] []
  g_l_step : mg "_law_step" = some (.ref (a 52))
  F_l_step : Fun K "_law_step" "_law_step" s_l_step (a 52) (d 52)
  b_l_step : Binds K (d 52) ["_law_bag_here", "_law_state_here"] []
  g_l_right : mg "_law_right" = some (.ref (a 53))
  F_l_right : Fun K "_law_right" "_law_right" s_l_right (a 53) (d 53)
  b_l_right : Binds K (d 53) ["_law_ledger", "_law_rows", "_law_house", "_law_houses"] []
  g_law : mg "law" = some (.ref (a 54))
  F_law : Fun K "law" "law" s_law (a 54) (d 54)
  b_law : Binds K (d 54) ["_law_script"] []
  g_Shelf : mg "Shelf" = some (.ref (a 55))
  cl : Cls K (a 55)
  n_rows : NoAttr K (a 55) "rows"
  n_let_go_to : NoAttr K (a 55) "let_go_to"
  n_lent : NoAttr K (a 55) "lent"
  n_own_rows : NoAttr K (a 55) "own_rows"
  n___bool__ : NoAttr K (a 55) "__bool__"
  g_Ledger : mg "Ledger" = some (.ref (a 56))
  cl_Ledger : Cls K (a 56)
  n_Ledger_at_house : NoAttr K (a 56) "at_house"
  n_Ledger_many_houses : NoAttr K (a 56) "many_houses"
  n_Ledger_notes : NoAttr K (a 56) "notes"
  n_Ledger_unended : NoAttr K (a 56) "unended"
  n_Ledger_lent : NoAttr K (a 56) "lent"
  n_Ledger_greatest_stamp : NoAttr K (a 56) "greatest_stamp"
  n_Ledger_greatest_serial : NoAttr K (a 56) "greatest_serial"
  n_Ledger_greatest_mark : NoAttr K (a 56) "greatest_mark"
  n_Ledger_worths : NoAttr K (a 56) "worths"
  n_Ledger_moved : NoAttr K (a 56) "moved"
  n_Ledger_forms : NoAttr K (a 56) "forms"
  n_Ledger___bool__ : NoAttr K (a 56) "__bool__"
  g_LETTERS : ∃ t, mg "LETTERS" = some (.str "abcdefghijklmnopqrstuvwxyz" t)
  g_MOST_LETTERS : ∃ t, mg "MOST_LETTERS" = some (.int (6) t)
  g_MOST_FIELDS : ∃ t, mg "MOST_FIELDS" = some (.int (4) t)
  g_PLEDGE : ∃ t, mg "PLEDGE" = some (.str "pledge" t)
  g_MOVE : ∃ t, mg "MOVE" = some (.str "move" t)
  g_FORM : ∃ t, mg "FORM" = some (.str "form" t)
  g_PLEDGED : ∃ t, mg "PLEDGED" = some (.str "pledged" t)
  g_SURE : ∃ t, mg "SURE" = some (.str "sure" t)
  g_DONE : ∃ t, mg "DONE" = some (.str "done" t)
  g_OFF : ∃ t, mg "OFF" = some (.str "off" t)
  g_MARK : ∃ t, mg "MARK" = some (.str "mark" t)
  g_GONE : ∃ t, mg "GONE" = some (.str "gone" t)
  g_UNNOTED : mg "UNNOTED" = some (.ref (a 69))
  k_UNNOTED : ∀ H : Hp, SqT K H (a 69) [V.non, V.non, V.non, V.non]
  g_FIRST_LETTER : ∃ t, mg "FIRST_LETTER" = some (.int (97) t)
  z_max : mg "max" = none
  z_min : mg "min" = none
  z_len : mg "len" = none
  z_int : mg "int" = none
  z_range : mg "range" = none
  z_isinstance : mg "isinstance" = none
  z_tuple : mg "tuple" = none
  z_all : mg "all" = none
  z_repr : mg "repr" = none
  z_list : mg "list" = none
  z_str : mg "str" = none
  z_sorted : mg "sorted" = none
  z_sum : mg "sum" = none
  z_set : mg "set" = none
  z_dict : mg "dict" = none
  z_bool : mg "bool" = none
  z_ord : mg "ord" = none
  z_reversed : mg "reversed" = none
def TTL (a : Nat → Addr) : List (Addr × Str) := [(a 91, ((("Ledger.note_done" : Str) ++ ".<locals>.") ++ "<lambda>"))]
structure Tb (base : Heap) (mg : Str → Option Value) (a : Nat → Addr) : Prop where
  t_note_done : LamX.TabB base mg (a 90) (a 91)


/-- a state of draws stands at s -/
def StAt (H : Hp) (s : Addr) : Prop := ∃ (a b : Int) (c : Bool), H s = some (.lst [.int a, .int b, .bl c]) ∧ 0 ≤ b ∧ b < 2147483647
/-- all else that was tracked stands; at s a state -/
def Kp (s : Addr) (H H' : Hp) : Prop := (∀ b o, b ≠ s → H b = some o → H' b = some o) ∧ StAt H' s
theorem StAt.kp {H : Hp} {s : Addr} (h : StAt H s) : Kp s H H := ⟨fun _ _ _ e => e, h⟩
theorem Kp.trans {s : Addr} {H H1 H2 : Hp} (a : Kp s H H1) (b : Kp s H1 H2) : Kp s H H2 := ⟨fun c o n e => b.1 c o n (a.1 c o n e), b.2⟩
theorem StAt.ne_new {H : Hp} {s p : Addr} (h : StAt H s) (hp : H p = none) : p ≠ s := by
  obtain ⟨a, b, c, e, _⟩ := h
  exact (ne_of_none e hp).symm
theorem StAt.new {H : Hp} {s p : Addr} {o : HO} (h : StAt H s) (hp : H p = none) : StAt (upd H p o) s := by
  obtain ⟨a, b, c, e, r⟩ := h
  exact ⟨a, b, c, by rw [upd_ne (ne_of_none e hp)]; exact e, r⟩
theorem Kp.new {s p : Addr} {H H1 : Hp} {o : HO} (k : Kp s H H1) (hp : H1 p = none) : Kp s H (upd H1 p o) :=
  ⟨fun b u n e => by rw [upd_ne (ne_of_none (k.1 b u n e) hp)]; exact k.1 b u n e, k.2.new hp⟩
theorem StAt.ne_tup {H : Hp} {s p : Addr} {xs : List V} (h : StAt H s) (hp : H p = some (.tup xs)) : p ≠ s := by
  obtain ⟨a, b, c, e, _⟩ := h
  exact ne_of hp e (by intro q; cases q)
theorem Kp.tup {s p : Addr} {H H1 : Hp} {xs : List V} (k : Kp s H H1) (h0 : StAt H s) (hp : H p = some (.tup xs)) : H1 p = some (.tup xs) := k.1 p _ (h0.ne_tup hp) hp
theorem Kp.free {s p : Addr} {H H1 : Hp} (k : Kp s H H1) (h0 : StAt H s) (hp : H1 p = none) : H p = none := by
  cases e : H p with
  | none => rfl
  | some o =>
    have z := k.1 p o (k.2.ne_new hp) e
    rw [hp] at z
    cases z
theorem Kp.same {s : Addr} {H0 H H1 : Hp} (a : Same H0 H) (hs : H0 s = none) (k : Kp s H H1) : Same H0 H1 := fun b o e => k.1 b o (ne_of_none e hs) (a b o e)
theorem same_new {H0 H : Hp} {p : Addr} {o : HO} (a : Same H0 H) (hp : H p = none) : Same H0 (upd H p o) := fun b u e => by
  rw [upd_ne (ne_of_none (a b u e) hp)]
  exact a b u e
theorem m64 {i : Int} (a : -18446744073709551616 < i) (b : i < 18446744073709551616) : -(2 ^ 64) < i ∧ i < 2 ^ 64 := by
  have e : (2 : Int) ^ 64 = 18446744073709551616 := by decide
  rw [e]
  exact ⟨a, b⟩
theorem divW {i j : Int} (h : 0 < j) (hb : j < 2 ^ 2000) : CDivW i j := wide_div (b := 2000) h (by
  have e : (j.natAbs : Int) = j := by omega
  have q : (j.natAbs : Int) < ((2 ^ 2000 : Nat) : Int) := by rw [e]; exact hb
  exact Int.ofNat_lt.mp q) (by decide) (by decide)
theorem p2000 {j : Int} (h : j ≤ 1000000000000000000000000000000) : j < 2 ^ 2000 := Int.lt_of_le_of_lt h (by decide)
theorem cell_at (ns : List Int) (lo hi : Option Int) : ∃ c : Int, atI (cutV (ns.map V.int) lo hi ++ [V.int 0]) 0 = some (V.int c) := by
  unfold cutV
  rw [← List.map_drop, ← List.map_take]
  generalize ((List.drop _ ns).take _) = l
  cases l with
  | nil => exact ⟨0, rfl⟩
  | cons x xs => exact ⟨x, atI_nat (j := 0) rfl⟩
theorem cut_len (xs : List V) (lo hi : Option Int) : (cutV xs lo hi).length ≤ xs.length := by
  unfold cutV
  rw [List.length_take, List.length_drop]
  omega
theorem bl_of {Q : VK} {H : Hp} {c : Prop} [Decidable c] (h : c) (q : Q (.bl true) H) : Q (.bl (decide c)) H := by
  rw [decide_eq_true h]
  exact q
theorem iteDT {c A B : Prop} [Decidable c] (h : c) (a : A) : if decide c = true then A else B := by
  rw [if_pos (decide_eq_true h)]
  exact a
theorem iteDF {c A B : Prop} [Decidable c] (h : ¬ c) (b : B) : if decide c = true then A else B := by
  rw [decide_eq_false h]
  exact iteF b
theorem iteND {c A B : Prop} [Decidable c] (h : ¬ c) (a : A) : if (!decide c) = true then A else B := by
  rw [decide_eq_false h]
  exact iteT a
theorem len3 : 3 ≤ sizeLine := by decide
theorem len2 : 2 ≤ sizeLine := by decide
theorem len1 : 1 ≤ sizeLine := by decide
def spBegun (K : PySem.W.Frag) : Sp := fun vs H Q _ => ∃ (l : Addr) (ns : List Int) (k : Int), vs = [.ref l, .int k] ∧ SqL K H l (ns.map V.int) ∧ ns.length ≤ 63 ∧ 0 ≤ k ∧ k ≤ 100 ∧ ∀ (p : Addr) (H' : Hp), H p = none → Same H H' → StAt H' p → Q (.ref p) H'
def spTake : Sp := fun vs H Q _ => ∃ (s : Addr) (m : Int), vs = [.ref s, .int m] ∧ StAt H s ∧ 0 < m ∧ m ≤ 1000000000000000000000000000000 ∧ ∀ (r : Int) (H' : Hp), 0 ≤ r → r < m → Kp s H H' → Q (.int r) H'
theorem bl_no {Q : VK} {H : Hp} {c : Prop} [Decidable c] (h : ¬ c) (q : Q (.bl false) H) : Q (.bl (decide c)) H := by
  rw [decide_eq_false h]
  exact q
theorem iteBT {c : Bool} {A B : Prop} (h : c = true) (a : A) : if c = true then A else B := by
  rw [if_pos h]
  exact a
theorem iteBF {c : Bool} {A B : Prop} (h : c = false) (b : B) : if c = true then A else B := by
  rw [h]
  exact iteF b
theorem bq {Q : VK} {H : Hp} {b c : Bool} (e : b = c) (q : Q (.bl b) H) : Q (.bl c) H := e ▸ q
theorem istup {d : PyData} (h : isTup d = true) : ∃ ds, d = .tuple ds := by
  cases d <;> first | exact ⟨_, rfl⟩ | (exact absurd h (by simp [isTup]))
/-! ### texts -/
/-- a short text of plain signs -/
structure Sh (n : Nat) (z : Str) : Prop where
  ln : z.cps.toList.length ≤ n
  as : ∀ c ∈ z.cps.toList, c < 128
def ltr (c : Nat) : Bool := decide (97 ≤ c) && decide (c ≤ 122)
theorem Sh.up {n m : Nat} {z : Str} (h : Sh n z) (e : n ≤ m) : Sh m z := ⟨Nat.le_trans h.ln e, h.as⟩
theorem Sh.len {n : Nat} {z : Str} (h : Sh n z) : z.length ≤ n := by
  have z := h.ln
  rw [Array.length_toList] at z
  exact z
theorem app_tl (x y : Str) : (x ++ y).cps.toList = x.cps.toList ++ y.cps.toList := TL.tl_append x y
theorem Sh.app {n m : Nat} {x y : Str} (a : Sh n x) (b : Sh m y) : Sh (n + m) (x ++ y) := by
  refine ⟨?_, ?_⟩
  · rw [app_tl, List.length_append]
    exact Nat.add_le_add a.ln b.ln
  · intro c hc
    rw [app_tl] at hc
    exact (List.mem_append.mp hc).elim (a.as c) (b.as c)
theorem Sh.cut {n : Nat} {z : Str} (a : Sh n z) (lo hi : Option Int) : Sh n (cutS z lo hi) := by
  refine ⟨?_, ?_⟩
  · have := a.ln
    show ((List.take _ (List.drop _ z.cps.toList)).toArray.toList).length ≤ n
    rw [List.length_take, List.length_drop]
    omega
  · intro c hc
    exact a.as c (List.mem_of_mem_drop (List.mem_of_mem_take hc))
/-- a text of small letters -/
def Lw (z : Str) : Prop := ∀ c ∈ z.cps.toList, ltr c = true
theorem Lw.sh {z : Str} {n : Nat} (h : Lw z) (l : z.cps.toList.length ≤ n) : Sh n z := ⟨l, fun c hc => by
  have z := h c hc
  simp only [ltr, Bool.and_eq_true, decide_eq_true_eq] at z
  omega⟩
theorem joined : ∀ (cs : List Nat), (Str.join "" (cs.map fun c => (⟨#[c]⟩ : Str))).cps.toList = cs
  | [] => rfl
  | [c] => rfl
  | c :: d :: r => by
    have ih := joined (d :: r)
    show ((⟨#[c]⟩ : Str) ++ ("" : Str) ++ Str.join "" ((d :: r).map fun c => (⟨#[c]⟩ : Str))).cps.toList = _
    rw [app_tl, app_tl, ih]
    rfl
theorem up_one : ∀ c : Fin 123, ltr c.val = true → (Unicode.upperOf c.val).length = 1 ∧ ∀ x ∈ Unicode.upperOf c.val, x < 128 := by decide +kernel
theorem up_ltr {c : Nat} (h : ltr c = true) : (Unicode.upperOf c).length = 1 ∧ ∀ x ∈ Unicode.upperOf c, x < 128 := by
  have z := h
  simp only [ltr, Bool.and_eq_true, decide_eq_true_eq] at z
  exact up_one ⟨c, by omega⟩ h
theorem placed_tl (x : Str) (f : Nat → List Nat) : (placed x fun _ c => f c).toList = (x.cps.toList.map f).flatten := by
  unfold placed
  rw [Array.toList_flatten, Array.toList_mapIdx]
  congr 1
  apply List.ext_getElem?
  intro i
  simp [List.getElem?_mapIdx, Function.comp_def]
theorem flat_len : ∀ (l : List Nat), (∀ c ∈ l, ltr c = true) → ((l.map Unicode.upperOf).flatten).length = l.length
  | [], _ => rfl
  | c :: r, h => by
    rw [List.map_cons, List.flatten_cons, List.length_append, flat_len r fun x hx => h x (List.mem_cons_of_mem _ hx), (up_ltr (h c (List.mem_cons_self ..))).1, List.length_cons]
    omega
theorem Lw.upper {z : Str} {n : Nat} (h : Lw z) (l : z.cps.toList.length ≤ n) : Sh n (Txt.upper z) := by
  have e : (Txt.upper z).cps.toList = (z.cps.toList.map Unicode.upperOf).flatten := placed_tl z Unicode.upperOf
  refine ⟨?_, ?_⟩
  · rw [e, flat_len _ h]
    exact l
  · intro c hc
    rw [e] at hc
    obtain ⟨l', hl, hc⟩ := List.mem_flatten.mp hc
    obtain ⟨x, hx, rfl⟩ := List.mem_map.mp hl
    exact (up_ltr (h x hx)).2 c hc
theorem letters_eq : (Str.ofString "abcdefghijklmnopqrstuvwxyz").cps.toList = List.range' 97 26 := by decide +kernel
theorem letters_in (c : Nat) : decide (c ∈ (Str.ofString "abcdefghijklmnopqrstuvwxyz").cps.toList) = ltr c := by
  rw [letters_eq]
  unfold ltr
  rw [← Bool.decide_and]
  exact decide_eq_decide.mpr ⟨fun h => by have := List.mem_range'_1.mp h; omega, fun h => List.mem_range'_1.mpr (by omega)⟩
theorem lt_one (a b : Nat) : ([a] < [b]) ↔ a < b := by
  rw [List.cons_lt_cons_iff]
  simp
theorem a_le (c : Nat) : (!decide ((⟨#[c]⟩ : Str).cps.toList < (Str.ofString "a").cps.toList)) = decide (97 ≤ c) := by
  have e : (Str.ofString "a").cps.toList = [97] := by decide +kernel
  rw [e]
  show (!decide ([c] < [97])) = _
  rw [← decide_not]
  exact decide_eq_decide.mpr (by rw [lt_one]; omega)
theorem le_z (c : Nat) : (!decide ((Str.ofString "z").cps.toList < (⟨#[c]⟩ : Str).cps.toList)) = decide (c ≤ 122) := by
  have e : (Str.ofString "z").cps.toList = [122] := by decide +kernel
  rw [e]
  show (!decide ([122] < [c])) = _
  rw [← decide_not]
  exact decide_eq_decide.mpr (by rw [lt_one]; omega)

def keyD : PyData → Bool
  | .str z => decide (1 ≤ z.cps.toList.length) && decide (z.cps.toList.length ≤ 6) && z.cps.toList.all ltr
  | _ => false
def rowN (d : PyData) (lo hi : Nat) : Bool := match d with
  | .tuple ds => decide (lo ≤ ds.length) && decide (ds.length ≤ hi) && ds.all wholeD
  | _ => false
theorem row_no {d : PyData} {lo hi : Nat} (h : isTup d = false) : rowN d lo hi = false := by
  cases d <;> first | rfl | (exact absurd h (by simp [isTup]))
structure Shw (d : PyData) : Prop where
  sh : d.showable = true
  dp : d.depth ≤ 64
  sz : d.shown.length ≤ sizeLine
/-- small leaves -/
def lf (d : PyData) : Bool := d.showable && decide (d.depth = 0) && d.leavesShort 200 && decide (d.weight ≤ 200) && d.canLay0
theorem int_len {i : Int} (h : i.natAbs < 2 ^ 110) : (Str.ofString (toString i)).length ≤ 200 := by
  have z := PySem.int_text_length_le (k := 110) (by decide) (PySem.Flt.log2_lt_of (by decide) h)
  rw [ofString_length]
  omega
theorem int_leaf {i : Int} (h : i.natAbs < 2 ^ 110) : lf (.int i) = true := by
  have hl : i.natAbs.log2 < 110 := PySem.Flt.log2_lt_of (by decide) h
  have e1 : (PyData.int i).showable = true := decide_eq_true (by omega)
  have e3 : (PyData.int i).weight ≤ 200 := by
    show Builtin.Int.intBits i ≤ 200
    unfold Builtin.Int.intBits
    split <;> omega
  have e4 : (PyData.int i).leavesShort 200 = true := by
    refine decide_eq_true ?_
    show (Str.ofString (toString i)).length ≤ 200
    exact int_len h
  unfold lf
  rw [e1, e4, decide_eq_true e3]
  rfl
theorem int_leaf2 {i : Int} (h : -1000000000000000000000000000000 ≤ i) (h2 : i ≤ 1000000000000000000000000000000) : lf (.int i) = true := by
  refine int_leaf ?_
  have e : (2 : Nat) ^ 110 = 1298074214633706907132624082305024 := by decide
  rw [e]
  omega
theorem str_leaf {z : Str} {n : Nat} (h : Sh n z) (hn : n ≤ 200) : lf (.str z) = true := by
  have e1 : (PyData.str z).showable = true := rfl
  have e2 : (PyData.str z).depth = 0 := rfl
  have e3 : (PyData.str z).leavesShort 200 = true := by
    show (z.cps.toList.all fun c => decide (c < 16 ^ 8)) = true
    refine List.all_eq_true.mpr fun c hc => decide_eq_true ?_
    have := h.as c hc
    omega
  have e4 : (PyData.str z).weight ≤ 200 := by
    show z.cps.size ≤ 200
    have := h.ln
    rw [Array.length_toList] at this
    omega
  have e5 : (PyData.str z).canLay0 = true := by
    show z.cps.all (· < 0x110000) = true
    rw [← Array.all_toList]
    refine List.all_eq_true.mpr fun c hc => decide_eq_true ?_
    have := h.as c hc
    omega
  unfold lf
  rw [e1, e2, e3, e5, decide_eq_true e4]
  rfl
theorem lf_all : ∀ {ds : List PyData}, ds.all lf = true → PyData.showableAll ds = true ∧ PyData.depthAll ds = 0 ∧ PyData.leavesShortAll 200 ds = true ∧ PyData.weightAll ds ≤ 201 * ds.length ∧ PyData.canLayAll0 ds = true
  | [], _ => ⟨rfl, rfl, rfl, by decide, rfl⟩
  | d :: ds, h => by
    simp only [List.all_cons, Bool.and_eq_true] at h
    obtain ⟨h1, h2, h3, h4, h5⟩ := lf_all h.2
    have h0 := h.1
    simp only [lf, Bool.and_eq_true, decide_eq_true_eq] at h0
    obtain ⟨⟨⟨⟨a1, a2⟩, a3⟩, a4⟩, a5⟩ := h0
    refine ⟨?_, ?_, ?_, ?_, ?_⟩
    · simp only [PyData.showableAll, a1, h1, Bool.and_self]
    · simp only [PyData.depthAll, a2, h2, Nat.max_self]
    · simp only [PyData.leavesShortAll, a3, h3, Bool.and_self]
    · simp only [PyData.weightAll, List.length_cons]
      omega
    · simp only [PyData.canLayAll0, a5, h5, Bool.and_self]
theorem shw_tup {ds : List PyData} (h : ds.all lf = true) (hl : ds.length ≤ 10) : Shw (.tuple ds) := by
  obtain ⟨h1, h2, h3, h4, _⟩ := lf_all h
  refine ⟨by simp only [PyData.showable]; exact h1, by simp only [PyData.depth, h2]; decide, ?_⟩
  have z := PyData.shown_le 200 (by decide) (.tuple ds) (by simp only [PyData.leavesShort]; exact h3)
  have w : (PyData.tuple ds).weight ≤ 2100 := by
    simp only [PyData.weight]
    omega
  rw [sizeLine_eq]
  omega
theorem shw_lst {ds : List PyData} (h : ds.all lf = true) (hl : ds.length ≤ 10) : Shw (.list ds) := by
  obtain ⟨h1, h2, h3, h4, _⟩ := lf_all h
  refine ⟨by simp only [PyData.showable]; exact h1, by simp only [PyData.depth, h2]; decide, ?_⟩
  have z := PyData.shown_le 200 (by decide) (.list ds) (by simp only [PyData.leavesShort]; exact h3)
  have w : (PyData.list ds).weight ≤ 2100 := by
    simp only [PyData.weight]
    omega
  rw [sizeLine_eq]
  omega
theorem shw_lf {d : PyData} (h : lf d = true) : Shw d := by
  simp only [lf, Bool.and_eq_true, decide_eq_true_eq] at h
  obtain ⟨⟨⟨⟨a1, a2⟩, a3⟩, a4⟩, _⟩ := h
  have z := PyData.shown_le 200 (by decide) d a3
  refine ⟨a1, by omega, ?_⟩
  rw [sizeLine_eq]
  omega

theorem dpall_app {K : PySem.W.Frag} {H : Hp} : ∀ {xs ys : List V} {ds es : List PyData}, DpAll K H xs ds → DpAll K H ys es → DpAll K H (xs ++ ys) (ds ++ es)
  | _, _, _, _, .nil, h => h
  | _, _, _, _, .cons a r, h => .cons a (dpall_app r h)
theorem dpall_ints {K : PySem.W.Frag} {H : Hp} : ∀ (ns : List Int), DpAll K H (ns.map V.int) (ns.map PyData.int)
  | [] => .nil
  | n :: r => .cons (.int n) (dpall_ints r)
theorem dpall_strs {K : PySem.W.Frag} {H : Hp} : ∀ (ns : List Str), DpAll K H (ns.map V.str) (ns.map PyData.str)
  | [] => .nil
  | n :: r => .cons (.str n) (dpall_strs r)
theorem ints_lf : ∀ {ns : List Int}, (∀ n ∈ ns, -1000000000000000000000000000000 ≤ n ∧ n ≤ 1000000000000000000000000000000) → (ns.map PyData.int).all lf = true
  | [], _ => rfl
  | n :: r, h => by
    have z := h n (List.mem_cons_self ..)
    rw [List.map_cons, List.all_cons, int_leaf2 z.1 z.2, ints_lf fun m hm => h m (List.mem_cons_of_mem _ hm)]
    rfl
/-! ### entries of a shelf -/
structure Ent where
  t : Int
  s : Int
  h : Int
  w : List Int
structure Ent.Ok (e : Ent) : Prop where
  t1 : -1000000000000 ≤ e.t
  t2 : e.t ≤ 1000000000000
  s1 : 0 ≤ e.s
  s2 : e.s ≤ 1000000000000
  h1 : 0 ≤ e.h
  h2 : e.h ≤ 1000000000000
  w1 : 1 ≤ e.w.length
  w2 : e.w.length ≤ 4
  w3 : ∀ n ∈ e.w, -1000000000000000000000000000000 ≤ n ∧ n ≤ 1000000000000000000000000000000
def Ent.lt (e f : Ent) : Prop := e.t < f.t ∨ (e.t = f.t ∧ (e.s < f.s ∨ (e.s = f.s ∧ e.h < f.h)))
def stD (e : Ent) : PyData := .tuple [.int e.t, .int e.s, .int e.h]
def wD (e : Ent) : PyData := .tuple (e.w.map .int)
def entD (e : Ent) : PyData := .tuple [stD e, wD e]
theorem Ent.Ok.st (h : Ent.Ok e) : [PyData.int e.t, .int e.s, .int e.h].all lf = true := by
  have a := h.t1; have b := h.t2; have c := h.s1; have d := h.s2; have f := h.h1; have g := h.h2
  rw [List.all_cons, List.all_cons, List.all_cons, int_leaf2 (by omega) (by omega), int_leaf2 (by omega) (by omega), int_leaf2 (by omega) (by omega)]
  rfl
theorem Ent.Ok.wt (h : Ent.Ok e) : (e.w.map PyData.int).all lf = true := ints_lf h.w3
/-- what an entry is as data -/
theorem ent_all : ∀ {es : List Ent}, (∀ e ∈ es, e.Ok) → PyData.showableAll (es.map entD) = true ∧ PyData.depthAll (es.map entD) ≤ 2 ∧ PyData.leavesShortAll 200 (es.map entD) = true ∧ PyData.weightAll (es.map entD) ≤ 1420 * es.length
  | [], _ => ⟨rfl, by decide, rfl, by decide⟩
  | e :: r, h => by
    obtain ⟨a1, a2, a3, a4⟩ := ent_all (es := r) fun x hx => h x (List.mem_cons_of_mem _ hx)
    have h0 := h e (List.mem_cons_self ..)
    obtain ⟨b1, b2, b3, b4, _⟩ := lf_all h0.st
    obtain ⟨c1, c2, c3, c4, _⟩ := lf_all h0.wt
    have w2 := h0.w2
    have b5 : PyData.weightAll [PyData.int e.t, .int e.s, .int e.h] ≤ 201 * 3 := b4
    rw [List.length_map] at c4
    refine ⟨?_, ?_, ?_, ?_⟩
    · simp only [List.map_cons, PyData.showableAll, entD, stD, wD, PyData.showable, a1, c1, Bool.and_true, Bool.true_and]
      simpa [PyData.showableAll, PyData.showable] using b1
    · have e1 : (entD e).depth ≤ 2 := by
        simp only [entD, stD, wD, PyData.depth, PyData.depthAll, c2]
        have z : PyData.depthAll [PyData.int e.t, .int e.s, .int e.h] = 0 := b2
        simp only [PyData.depthAll, PyData.depth] at z ⊢
        omega
      simp only [List.map_cons, PyData.depthAll]
      omega
    · simp only [List.map_cons, PyData.leavesShortAll, entD, stD, wD, PyData.leavesShort, a3, c3, Bool.and_true, Bool.true_and]
      simpa [PyData.leavesShortAll, PyData.leavesShort] using b3
    · have e1 : (entD e).weight ≤ 1419 := by
        simp only [entD, PyData.weight, PyData.weightAll, stD, wD]
        simp only [PyData.weightAll, PyData.weight] at b5
        omega
      simp only [List.map_cons, PyData.weightAll, List.length_cons]
      omega
theorem shw_row {es : List Ent} (h : ∀ e ∈ es, e.Ok) (hl : es.length ≤ 40) : Shw (.list (es.map entD)) := by
  obtain ⟨h1, h2, h3, h4⟩ := ent_all h
  refine ⟨by simp only [PyData.showable]; exact h1, by simp only [PyData.depth]; omega, ?_⟩
  have z := PyData.shown_le 200 (by decide) (.list (es.map entD)) (by simp only [PyData.leavesShort]; exact h3)
  have w : (PyData.list (es.map entD)).weight ≤ 56800 := by
    simp only [PyData.weight]
    omega
  rw [sizeLine_eq]
  omega
theorem shw_keys {ks : List Str} (h : ∀ k ∈ ks, Sh 20 k) (hl : ks.length ≤ 40) : Shw (.list (ks.map .str)) := by
  have hf : (ks.map PyData.str).all lf = true := by
    refine List.all_eq_true.mpr fun d hd => ?_
    obtain ⟨k, hk, rfl⟩ := List.mem_map.mp hd
    exact str_leaf (h k hk) (by decide)
  obtain ⟨h1, h2, h3, h4, _⟩ := lf_all hf
  refine ⟨by simp only [PyData.showable]; exact h1, by simp only [PyData.depth, h2]; decide, ?_⟩
  have z := PyData.shown_le 200 (by decide) (.list (ks.map .str)) (by simp only [PyData.leavesShort]; exact h3)
  rw [List.length_map] at h4
  have w : (PyData.list (ks.map .str)).weight ≤ 8040 := by
    simp only [PyData.weight]
    omega
  rw [sizeLine_eq]
  omega
/-! ### rows in the heap -/
/-- tuples stand -/
def Tk (H H' : Hp) : Prop := ∀ b xs, H b = some (.tup xs) → H' b = some (.tup xs)
theorem same_tk {H H' : Hp} (k : Same H H') : Tk H H' := fun b xs e => k b _ e
def PairAt (H : Hp) (p : Addr) (e : Ent) : Prop := ∃ sa wa : Addr, H p = some (.tup [.ref sa, .ref wa]) ∧ H sa = some (.tup [.int e.t, .int e.s, .int e.h]) ∧ H wa = some (.tup (e.w.map V.int))
inductive PrA (H : Hp) : List Addr → List Ent → Prop
  | nil : PrA H [] []
  | cons {p : Addr} {e : Ent} {ps : List Addr} {es : List Ent} (a : PairAt H p e) (r : PrA H ps es) : PrA H (p :: ps) (e :: es)
theorem PairAt.tk {H H' : Hp} (k : Tk H H') {p : Addr} {e : Ent} (h : PairAt H p e) : PairAt H' p e := by
  obtain ⟨sa, wa, a, b, c⟩ := h
  exact ⟨sa, wa, k _ _ a, k _ _ b, k _ _ c⟩
theorem PrA.tk {H H' : Hp} (k : Tk H H') : ∀ {ps : List Addr} {es : List Ent}, PrA H ps es → PrA H' ps es
  | _, _, .nil => .nil
  | _, _, .cons a r => .cons (a.tk k) (PrA.tk k r)
theorem PrA.len {H : Hp} : ∀ {ps : List Addr} {es : List Ent}, PrA H ps es → ps.length = es.length
  | _, _, .nil => rfl
  | _, _, .cons a r => congrArg Nat.succ (PrA.len r)
theorem PrA.get {H : Hp} : ∀ {ps : List Addr} {es : List Ent}, PrA H ps es → ∀ {i : Nat} {p : Addr}, ps[i]? = some p → ∃ e, es[i]? = some e ∧ PairAt H p e
  | _, _, .nil, i, p, e => by simp at e
  | _, _, .cons a r, 0, p, e => by
    simp at e
    subst e
    exact ⟨_, rfl, a⟩
  | _, _, .cons a r, i + 1, p, e => PrA.get r (i := i) (by simpa using e)
theorem PrA.app {H : Hp} : ∀ {ps qs : List Addr} {es fs : List Ent}, PrA H ps es → PrA H qs fs → PrA H (ps ++ qs) (es ++ fs)
  | _, _, _, _, .nil, h => h
  | _, _, _, _, .cons a r, h => .cons a (PrA.app r h)
theorem PairAt.dp {K : PySem.W.Frag} {H : Hp} {p : Addr} {e : Ent} (h : PairAt H p e) : Dp K H (.ref p) (entD e) := by
  obtain ⟨sa, wa, a, b, c⟩ := h
  exact .tup (SqT.of a) (.cons (.tup (SqT.of b) (.cons (.int _) (.cons (.int _) (.cons (.int _) .nil)))) (.cons (.tup (SqT.of c) (dpall_ints _)) .nil))
theorem PrA.dp {K : PySem.W.Frag} {H : Hp} : ∀ {ps : List Addr} {es : List Ent}, PrA H ps es → DpAll K H (ps.map V.ref) (es.map entD)
  | _, _, .nil => .nil
  | _, _, .cons a r => .cons a.dp (PrA.dp r)
def RowAt (H : Hp) (a : Addr) (es : List Ent) : Prop := ∃ ps, H a = some (.lst (ps.map V.ref)) ∧ PrA H ps es
theorem RowAt.same {H H' : Hp} (k : Same H H') {a : Addr} {es : List Ent} (h : RowAt H a es) : RowAt H' a es := by
  obtain ⟨ps, e, r⟩ := h
  exact ⟨ps, k _ _ e, r.tk (same_tk k)⟩
theorem RowAt.dp {K : PySem.W.Frag} {H : Hp} {a : Addr} {es : List Ent} (h : RowAt H a es) : Dp K H (.ref a) (.list (es.map entD)) := by
  obtain ⟨ps, e, r⟩ := h
  exact .lst (SqL.of e) r.dp
/-! ### tables -/
abbrev Tab := List (Str × Addr × List Ent)
def kvT (m : Tab) : List (Key × V) := m.map fun p => (Sum.inr p.1, V.ref p.2.1)
def atT (m : Tab) (k : Str) : Option (Addr × List Ent) := (m.find? fun p => decide (p.1 = k)).map (·.2)
def esT (m : Tab) (k : Str) : List Ent := ((atT m k).map (·.2)).getD []
theorem val_kvT (m : Tab) (k : Str) : valV (kvT m) (Sum.inr k) = (atT m k).map fun p => V.ref p.1 := by
  unfold valV kvT atT
  rw [List.find?_map, Option.map_map, Option.map_map]
  have e : ((fun kv : Key × V => decide (kv.1 = Sum.inr k)) ∘ fun p : Str × Addr × List Ent => ((Sum.inr p.1 : Key), V.ref p.2.1)) = fun p => decide (p.1 = k) := by
    funext p
    exact decide_eq_decide.mpr ⟨fun z => Sum.inr.inj z, fun z => congrArg Sum.inr z⟩
  rw [e]
  rfl
structure TabAt (H : Hp) (d : Addr) (m : Tab) : Prop where
  dict : H d = some (.dK (kvT m))
  row : ∀ p ∈ m, RowAt H p.2.1 p.2.2
  nd : (m.map (·.1)).Nodup
  na : (m.map (·.2.1)).Nodup
theorem atT_mem {m : Tab} {k : Str} {q : Addr × List Ent} (h : atT m k = some q) : (k, q) ∈ m := by
  unfold atT at h
  cases e : m.find? fun p => decide (p.1 = k) with
  | none => rw [e] at h; cases h
  | some p =>
    rw [e] at h
    have z := List.find?_some e
    have y := List.mem_of_find?_eq_some e
    cases h
    have z' : p.1 = k := of_decide_eq_true z
    rw [← z']
    exact y
theorem atT_none {m : Tab} {k : Str} (h : atT m k = none) : ∀ p ∈ m, p.1 ≠ k := fun p hp e => by
  unfold atT at h
  have z := List.find?_eq_none.mp (Option.map_eq_none_iff.mp h) p hp
  simp [e] at z
theorem TabAt.same {H H' : Hp} {d : Addr} {m : Tab} (T : TabAt H d m) (k : Same H H') : TabAt H' d m := ⟨k _ _ T.dict, fun p hp => (T.row p hp).same k, T.nd, T.na⟩
theorem TabAt.es {H : Hp} {d : Addr} {m : Tab} (T : TabAt H d m) {k : Str} {q : Addr × List Ent} (h : atT m k = some q) : RowAt H q.1 (esT m k) := by
  have z := T.row _ (atT_mem h)
  unfold esT
  rw [h]
  exact z
theorem nodup_eq {α β : Type} {f : α → β} {l : List α} (h : (l.map f).Nodup) {a b : α} (ha : a ∈ l) (hb : b ∈ l) (e : f a = f b) : a = b := by
  induction l with
  | nil => cases ha
  | cons x r ih =>
    rw [List.map_cons, List.nodup_cons] at h
    rcases List.mem_cons.mp ha with rfl | ha' <;> rcases List.mem_cons.mp hb with rfl | hb'
    · rfl
    · exact absurd (e ▸ List.mem_map_of_mem hb') h.1
    · exact absurd (e ▸ List.mem_map_of_mem ha') h.1
    · exact ih h.2 ha' hb'
/-- put at the row that is there, or a new one at n -/
def putT (m : Tab) (k : Str) (n : Addr) (e : Ent) : Tab := match atT m k with
  | some _ => m.map fun p => if p.1 = k then (p.1, p.2.1, p.2.2 ++ [e]) else p
  | none => m ++ [(k, n, [e])]
/-- put in a new row at n -/
def putN (m : Tab) (k : Str) (n : Addr) (e : Ent) : Tab := match atT m k with
  | some _ => m.map fun p => if p.1 = k then (p.1, n, p.2.2 ++ [e]) else p
  | none => m ++ [(k, n, [e])]
theorem putK_kv {m : Tab} {k : Str} {q : Addr × List Ent} {v : V} (h : atT m k = some q) : putK (kvT m) (Sum.inr k) v = m.map fun p => if p.1 = k then (Sum.inr p.1, v) else (Sum.inr p.1, V.ref p.2.1) := by
  unfold putK
  rw [valV_any, val_kvT, h, if_pos (show (Option.map (fun p : Addr × List Ent => V.ref p.1) (some q)).isSome = true from rfl)]
  unfold kvT
  rw [List.map_map]
  refine List.map_congr_left fun p _ => ?_
  show (if (Sum.inr p.1 : Key) = Sum.inr k then ((Sum.inr p.1 : Key), v) else ((Sum.inr p.1 : Key), V.ref p.2.1)) = _
  by_cases e : p.1 = k
  · rw [if_pos (congrArg Sum.inr e), if_pos e]
  · rw [if_neg (fun z => e (Sum.inr.inj z)), if_neg e]
theorem TabAt.put {H H' : Hp} {rd r n : Addr} {m : Tab} {k : Str} {e : Ent} (T : TabAt H rd m) (hr : (∃ es, atT m k = some (r, es)) ∨ (atT m k = none ∧ H r = none ∧ n = r)) (hd : H' rd = some (.dK (putK (kvT m) (Sum.inr k) (.ref r)))) (hrow : RowAt H' r (esT m k ++ [e]))
    (keep : ∀ b o, H b = some o → b ≠ rd → b ≠ r → H' b = some o) : TabAt H' rd (putT m k n e) := by
  rcases hr with ⟨es, ha⟩ | ⟨ha, hn, rfl⟩
  · have hmem := atT_mem ha
    have hrl := T.row _ hmem
    obtain ⟨ps0, hrl, _⟩ := hrl
    have e1 : putT m k n e = m.map fun p => if p.1 = k then (p.1, p.2.1, p.2.2 ++ [e]) else p := by unfold putT; rw [ha]
    have tk : Tk H H' := fun b xs z => keep b _ z (ne_of z T.dict (by intro q; cases q)) (ne_of z hrl (by intro q; cases q))
    have uniq : ∀ p ∈ m, p.1 = k → p = (k, r, es) := fun p hp z => nodup_eq T.nd hp hmem z
    refine ⟨?_, ?_, ?_, ?_⟩
    · rw [hd, e1, putK_kv ha]
      congr 2
      unfold kvT
      rw [List.map_map]
      refine List.map_congr_left fun p hp => ?_
      by_cases z : p.1 = k
      · have := uniq p hp z
        subst this
        simp
      · simp [z]
    · rw [e1]
      intro p hp
      obtain ⟨q, hq, rfl⟩ := List.mem_map.mp hp
      by_cases z : q.1 = k
      · have y := uniq q hq z
        subst y
        have w : esT m k = es := by unfold esT; rw [ha]; rfl
        rw [w] at hrow
        simpa using hrow
      · rw [if_neg z]
        obtain ⟨ps, hl, pr⟩ := T.row q hq
        refine ⟨ps, keep _ _ hl (ne_of hl T.dict (by intro q; cases q)) (fun y => z ?_), pr.tk tk⟩
        have := nodup_eq T.na hq hmem y
        rw [this]
    · rw [e1, List.map_map]
      have : m.map ((fun p : Str × Addr × List Ent => p.1) ∘ fun p => if p.1 = k then (p.1, p.2.1, p.2.2 ++ [e]) else p) = m.map (·.1) := List.map_congr_left fun p _ => by
        by_cases z : p.1 = k <;> simp [z]
      rw [this]
      exact T.nd
    · rw [e1, List.map_map]
      have : m.map ((fun p : Str × Addr × List Ent => p.2.1) ∘ fun p => if p.1 = k then (p.1, p.2.1, p.2.2 ++ [e]) else p) = m.map (·.2.1) := List.map_congr_left fun p _ => by
        by_cases z : p.1 = k <;> simp [z]
      rw [this]
      exact T.na
  · have e1 : putT m k n e = m ++ [(k, n, [e])] := by unfold putT; rw [ha]
    have w : esT m k = [] := by unfold esT; rw [ha]; rfl
    rw [w] at hrow
    have tk : Tk H H' := fun b xs z => keep b _ z (ne_of z T.dict (by intro q; cases q)) (ne_of_none z hn)
    refine ⟨?_, ?_, ?_, ?_⟩
    · rw [hd, e1, putK_new _ (by rw [val_kvT, ha]; rfl)]
      unfold kvT
      rw [List.map_append]
      rfl
    · rw [e1]
      intro p hp
      rcases List.mem_append.mp hp with hq | hq
      · obtain ⟨ps, hl, pr⟩ := T.row p hq
        exact ⟨ps, keep _ _ hl (ne_of hl T.dict (by intro q; cases q)) (ne_of_none hl hn), pr.tk tk⟩
      · rw [List.mem_singleton.mp hq]
        exact hrow
    · rw [e1, List.map_append, List.nodup_append]
      refine ⟨T.nd, by simp, fun a ha' b hb => ?_⟩
      obtain ⟨p, hp, rfl⟩ := List.mem_map.mp ha'
      rw [List.mem_singleton.mp hb]
      exact atT_none ha p hp
    · rw [e1, List.map_append, List.nodup_append]
      refine ⟨T.na, by simp, fun a ha' b hb => ?_⟩
      obtain ⟨p, hp, rfl⟩ := List.mem_map.mp ha'
      rw [List.mem_singleton.mp hb]
      obtain ⟨ps, hl, _⟩ := T.row p hp
      exact ne_of_none hl hn
theorem TabAt.putN {H H' : Hp} {rd n : Addr} {m : Tab} {k : Str} {e : Ent} (T : TabAt H rd m) (hn : H n = none) (hd : H' rd = some (.dK (putK (kvT m) (Sum.inr k) (.ref n)))) (hrow : RowAt H' n (esT m k ++ [e]))
    (keep : ∀ b o, H b = some o → b ≠ rd → H' b = some o) : TabAt H' rd (putN m k n e) := by
  have tk : Tk H H' := fun b xs z => keep b _ z (ne_of z T.dict (by intro q; cases q))
  have old : ∀ p ∈ m, RowAt H' p.2.1 p.2.2 := fun p hp => by
    obtain ⟨ps, hl, pr⟩ := T.row p hp
    exact ⟨ps, keep _ _ hl (ne_of hl T.dict (by intro q; cases q)), pr.tk tk⟩
  have new : ∀ p ∈ m, p.2.1 ≠ n := fun p hp => by
    obtain ⟨ps, hl, pr⟩ := T.row p hp
    exact ne_of_none hl hn
  cases ha : atT m k with
  | some q =>
    obtain ⟨r, es⟩ := q
    have hmem := atT_mem ha
    have e1 : M.putN m k n e = m.map fun p => if p.1 = k then (p.1, n, p.2.2 ++ [e]) else p := by unfold M.putN; rw [ha]
    have uniq : ∀ p ∈ m, p.1 = k → p = (k, r, es) := fun p hp z => nodup_eq T.nd hp hmem z
    refine ⟨?_, ?_, ?_, ?_⟩
    · rw [hd, e1, putK_kv ha]
      congr 2
      unfold kvT
      rw [List.map_map]
      refine List.map_congr_left fun p hp => ?_
      by_cases z : p.1 = k <;> simp [z]
    · rw [e1]
      intro p hp
      obtain ⟨q, hq, rfl⟩ := List.mem_map.mp hp
      by_cases z : q.1 = k
      · have y := uniq q hq z
        subst y
        have w : esT m k = es := by unfold esT; rw [ha]; rfl
        rw [w] at hrow
        simpa using hrow
      · rw [if_neg z]
        exact old q hq
    · rw [e1, List.map_map]
      have : m.map ((fun p : Str × Addr × List Ent => p.1) ∘ fun p => if p.1 = k then (p.1, n, p.2.2 ++ [e]) else p) = m.map (·.1) := List.map_congr_left fun p _ => by
        by_cases z : p.1 = k <;> simp [z]
      rw [this]
      exact T.nd
    · rw [e1]
      have nd := T.nd
      have na := T.na
      clear e1 hd hrow old ha hmem uniq T
      induction m with
      | nil => simp
      | cons x l ih =>
        rw [List.map_cons, List.nodup_cons] at nd na
        rw [List.map_cons, List.map_cons, List.nodup_cons]
        refine ⟨?_, ih (fun p hp => new p (List.mem_cons_of_mem _ hp)) nd.2 na.2⟩
        intro z
        obtain ⟨y, hy, ey⟩ := List.mem_map.mp z
        obtain ⟨u, hu, rfl⟩ := List.mem_map.mp hy
        by_cases c1 : x.1 = k <;> by_cases c2 : u.1 = k
        · exact nd.1 (List.mem_map.mpr ⟨u, hu, c2.trans c1.symm⟩)
        · rw [if_pos c1, if_neg c2] at ey
          exact new u (List.mem_cons_of_mem _ hu) ey
        · rw [if_neg c1, if_pos c2] at ey
          exact new x (List.mem_cons_self ..) ey.symm
        · rw [if_neg c1, if_neg c2] at ey
          exact na.1 (List.mem_map.mpr ⟨u, hu, ey⟩)
  | none =>
    have e1 : M.putN m k n e = m ++ [(k, n, [e])] := by unfold M.putN; rw [ha]
    have w : esT m k = [] := by unfold esT; rw [ha]; rfl
    rw [w] at hrow
    refine ⟨?_, ?_, ?_, ?_⟩
    · rw [hd, e1, putK_new _ (by rw [val_kvT, ha]; rfl)]
      unfold kvT
      rw [List.map_append]
      rfl
    · rw [e1]
      intro p hp
      rcases List.mem_append.mp hp with hq | hq
      · exact old p hq
      · rw [List.mem_singleton.mp hq]
        exact hrow
    · rw [e1, List.map_append, List.nodup_append]
      refine ⟨T.nd, by simp, fun a ha' b hb => ?_⟩
      obtain ⟨p, hp, rfl⟩ := List.mem_map.mp ha'
      rw [List.mem_singleton.mp hb]
      exact atT_none ha p hp
    · rw [e1, List.map_append, List.nodup_append]
      refine ⟨T.na, by simp, fun a ha' b hb => ?_⟩
      obtain ⟨p, hp, rfl⟩ := List.mem_map.mp ha'
      rw [List.mem_singleton.mp hb]
      exact new p hp
/-! ### contents -/
abbrev Ct := List (Str × List Ent)
def ct (m : Tab) : Ct := m.map fun p => (p.1, p.2.2)
def esC (c : Ct) (k : Str) : List Ent := ((c.find? fun p => decide (p.1 = k)).map (·.2)).getD []
def hasC (c : Ct) (k : Str) : Bool := c.any fun p => decide (p.1 = k)
def putC (c : Ct) (k : Str) (e : Ent) : Ct := if hasC c k = true then c.map fun p => if p.1 = k then (p.1, p.2 ++ [e]) else p else c ++ [(k, [e])]
def tot (c : Ct) : Nat := (c.map fun p => p.2.length).sum
theorem esT_ct (m : Tab) (k : Str) : esT m k = esC (ct m) k := by
  unfold esT esC atT ct
  rw [List.find?_map, Option.map_map, Option.map_map]
  rfl
theorem hasC_ct (m : Tab) (k : Str) : hasC (ct m) k = (atT m k).isSome := by
  unfold hasC ct atT
  rw [Option.isSome_map]
  induction m with
  | nil => rfl
  | cons x r ih =>
    rw [List.map_cons, List.any_cons, List.find?_cons]
    by_cases z : x.1 = k
    · simp [z]
    · simp only [z, decide_false, Bool.false_or]
      exact ih
theorem ct_putT (m : Tab) (k : Str) (n : Addr) (e : Ent) : ct (putT m k n e) = putC (ct m) k e := by
  unfold putT putC
  rw [hasC_ct]
  cases atT m k with
  | none =>
    rw [if_neg (by decide)]
    unfold ct
    rw [List.map_append]
    rfl
  | some q =>
    rw [if_pos (show (some q).isSome = true from rfl)]
    unfold ct
    rw [List.map_map, List.map_map]
    refine List.map_congr_left fun p _ => ?_
    by_cases z : p.1 = k <;> simp [z]
theorem ct_putN (m : Tab) (k : Str) (n : Addr) (e : Ent) : ct (putN m k n e) = putC (ct m) k e := by
  unfold putN putC
  rw [hasC_ct]
  cases atT m k with
  | none =>
    rw [if_neg (by decide)]
    unfold ct
    rw [List.map_append]
    rfl
  | some q =>
    rw [if_pos (show (some q).isSome = true from rfl)]
    unfold ct
    rw [List.map_map, List.map_map]
    refine List.map_congr_left fun p _ => ?_
    by_cases z : p.1 = k <;> simp [z]
def Rise (es : List Ent) : Prop := es.Pairwise fun a b => a.lt b
structure CtOk (c : Ct) : Prop where
  nd : (c.map (·.1)).Nodup
  ok : ∀ p ∈ c, Sh 20 p.1 ∧ keyD (.str p.1) = true ∧ (∀ e ∈ p.2, e.Ok) ∧ Rise p.2
theorem find_key {c : Ct} {k : Str} {p : Str × List Ent} (e : (c.find? fun p => decide (p.1 = k)) = some p) : p.1 = k := by
  have z := List.find?_some e
  simpa using z
theorem esC_mem {c : Ct} {k : Str} : esC c k = [] ∨ (k, esC c k) ∈ c := by
  unfold esC
  cases e : c.find? fun p => decide (p.1 = k) with
  | none => exact .inl rfl
  | some p =>
    have z : p.1 = k := find_key e
    have y := List.mem_of_find?_eq_some e
    right
    rw [← z]
    exact y
theorem esC_of {c : Ct} {k : Str} (h : (c.map (·.1)).Nodup) {q : Str × List Ent} (hq : q ∈ c) (z : q.1 = k) : esC c k = q.2 := by
  unfold esC
  cases e1 : c.find? fun p => decide (p.1 = k) with
  | none =>
    have := List.find?_eq_none.mp e1 q hq
    simp [z] at this
  | some p =>
    have w := nodup_eq h (List.mem_of_find?_eq_some e1) hq ((find_key e1).trans z.symm)
    subst w
    rfl
theorem CtOk.es {c : Ct} (h : CtOk c) (k : Str) : (∀ e ∈ esC c k, e.Ok) ∧ Rise (esC c k) := by
  rcases esC_mem (c := c) (k := k) with e | e
  · rw [e]
    exact ⟨fun x hx => (by cases hx), List.Pairwise.nil⟩
  · exact (h.ok _ e).2.2
theorem len_tot {c : Ct} : ∀ {p : Str × List Ent}, p ∈ c → p.2.length ≤ tot c := by
  induction c with
  | nil => intro p hp; cases hp
  | cons x r ih =>
    intro p hp
    have e : tot (x :: r) = x.2.length + tot r := by unfold tot; rw [List.map_cons, List.sum_cons]
    rcases List.mem_cons.mp hp with rfl | h
    · omega
    · have := ih h
      omega
theorem esC_len (c : Ct) (k : Str) : (esC c k).length ≤ tot c := by
  rcases esC_mem (c := c) (k := k) with e | e
  · rw [e]; exact Nat.zero_le _
  · exact len_tot e
theorem tot_cons (x : Str × List Ent) (r : Ct) : tot (x :: r) = x.2.length + tot r := by unfold tot; rw [List.map_cons, List.sum_cons]
theorem tot_app (a b : Ct) : tot (a ++ b) = tot a + tot b := by
  unfold tot
  rw [List.map_append, List.sum_append]
theorem tot_putC {c : Ct} {k : Str} {e : Ent} (h : (c.map (·.1)).Nodup) : tot (putC c k e) = tot c + 1 := by
  unfold putC
  cases a : hasC c k with
  | false =>
    rw [if_neg (by decide), tot_app]
    rfl
  | true =>
    rw [if_pos rfl]
    induction c with
    | nil => cases a
    | cons x r ih =>
      rw [List.map_cons, List.nodup_cons] at h
      rw [List.map_cons, tot_cons, tot_cons]
      by_cases z : x.1 = k
      · have same : (r.map fun p => if p.1 = k then (p.1, p.2 ++ [e]) else p) = r := by
          conv => rhs; rw [← List.map_id r]
          refine List.map_congr_left fun p hp => ?_
          rw [if_neg (fun y => h.1 (List.mem_map.mpr ⟨p, hp, y.trans z.symm⟩))]
          rfl
        rw [same, if_pos z]
        show (x.2 ++ [e]).length + tot r = _
        rw [List.length_append]
        show x.2.length + 1 + tot r = _
        omega
      · rw [if_neg z]
        have a' : hasC r k = true := by
          unfold hasC at a ⊢
          rw [List.any_cons, decide_eq_false z, Bool.false_or] at a
          exact a
        have := ih h.2 a'
        omega
theorem len_putC (c : Ct) (k : Str) (e : Ent) : (putC c k e).length ≤ c.length + 1 := by
  unfold putC
  split
  · rw [List.length_map]; omega
  · rw [List.length_append]; exact Nat.le_refl _
theorem Rise.snoc {es : List Ent} {e : Ent} (h : Rise es) (hl : ∀ l, es.getLast? = some l → l.lt e) (tr : ∀ a b c : Ent, a.lt b → b.lt c → a.lt c) : Rise (es ++ [e]) := by
  unfold Rise
  rw [List.pairwise_append]
  refine ⟨h, by simp, fun a ha b hb => ?_⟩
  rw [List.mem_singleton.mp hb]
  cases es with
  | nil => cases ha
  | cons x r =>
    obtain ⟨l, e1⟩ : ∃ l, (x :: r).getLast? = some l := ⟨_, List.getLast?_eq_some_getLast (by simp)⟩
    have h1 := hl l e1
    obtain ⟨ys, e2⟩ := List.getLast?_eq_some_iff.mp e1
    rw [e2] at ha h
    rcases List.mem_append.mp ha with q | q
    · exact tr _ _ _ ((List.pairwise_append.mp h).2.2 a q l (by simp)) h1
    · rw [List.mem_singleton.mp q]
      exact h1
theorem Ent.lt_trans (a b c : Ent) (h : a.lt b) (h2 : b.lt c) : a.lt c := by
  unfold Ent.lt at *
  omega
theorem putC_ok {c : Ct} {k : Str} {e : Ent} (h : CtOk c) (hk : Sh 20 k) (hkd : keyD (.str k) = true) (he : e.Ok) (hl : ∀ l, (esC c k).getLast? = some l → l.lt e) : CtOk (putC c k e) := by
  unfold putC
  cases a : hasC c k with
  | false =>
    rw [if_neg (by decide)]
    have no : ∀ p ∈ c, p.1 ≠ k := fun p hp z => by
      have := List.any_eq_false.mp a p hp
      simp [z] at this
    refine ⟨?_, fun p hp => ?_⟩
    · rw [List.map_append, List.nodup_append]
      refine ⟨h.nd, by simp, fun x hx y hy => ?_⟩
      obtain ⟨p, hp, rfl⟩ := List.mem_map.mp hx
      rw [List.mem_singleton.mp hy]
      exact no p hp
    · rcases List.mem_append.mp hp with q | q
      · exact h.ok p q
      · rw [List.mem_singleton.mp q]
        exact ⟨hk, hkd, fun x hx => by rw [List.mem_singleton.mp hx]; exact he, List.pairwise_singleton ..⟩
  | true =>
    rw [if_pos rfl]
    refine ⟨?_, fun p hp => ?_⟩
    · rw [List.map_map]
      have : c.map ((fun p : Str × List Ent => p.1) ∘ fun p => if p.1 = k then (p.1, p.2 ++ [e]) else p) = c.map (·.1) := List.map_congr_left fun p _ => by
        by_cases z : p.1 = k <;> simp [z]
      rw [this]
      exact h.nd
    · obtain ⟨q, hq, rfl⟩ := List.mem_map.mp hp
      by_cases z : q.1 = k
      · rw [if_pos z]
        obtain ⟨a1, a2, a3, a4⟩ := h.ok q hq
        have eq : esC c k = q.2 := esC_of h.nd hq z
        rw [eq] at hl
        refine ⟨a1, a2, fun x hx => ?_, a4.snoc hl Ent.lt_trans⟩
        rcases List.mem_append.mp hx with y | y
        · exact a3 x y
        · rw [List.mem_singleton.mp y]; exact he
      · rw [if_neg z]
        exact h.ok q hq

/-! ### what is told -/
def lastD (es : List Ent) : PyData := match es.getLast? with
  | none => .none
  | some e => wD e
def atD (es : List Ent) (t : Int) : PyData := lastD (es.filter fun e => decide (e.t ≤ t))
/-- a worth, or None, as a value -/
def WAt (H : Hp) (v : V) (d : PyData) : Prop := (v = .non ∧ d = .none) ∨ ∃ (wa : Addr) (ns : List Int), v = .ref wa ∧ d = .tuple (ns.map .int) ∧ H wa = some (.tup (ns.map V.int))
theorem WAt.dp {K : PySem.W.Frag} {H : Hp} {v : V} {d : PyData} (h : WAt H v d) : Dp K H v d := by
  rcases h with ⟨rfl, rfl⟩ | ⟨wa, ns, rfl, rfl, e⟩
  · exact .non
  · exact .tup (SqT.of e) (dpall_ints _)
theorem WAt.tk {H H' : Hp} {v : V} {d : PyData} (h : WAt H v d) (k : Tk H H') : WAt H' v d := by
  rcases h with z | ⟨wa, ns, a, b, e⟩
  · exact .inl z
  · exact .inr ⟨wa, ns, a, b, k _ _ e⟩
theorem last_shaped {es : List Ent} : SeqAt.shaped (lastD es) = true := by
  unfold lastD
  cases es.getLast? with
  | none => rfl
  | some e =>
    unfold wD SeqAt.shaped
    have : ∀ ns : List Int, PyData.canLayAll0 (ns.map PyData.int) = true ∧ PyData.depthAll (ns.map PyData.int) = 0 := by
      intro ns
      induction ns with
      | nil => exact ⟨rfl, rfl⟩
      | cons n r ih => exact ⟨by simp only [List.map_cons, PyData.canLayAll0, PyData.canLay0, ih.1, Bool.and_self], by simp only [List.map_cons, PyData.depthAll, PyData.depth, ih.2, Nat.max_self]⟩
    simp only [PyData.canLay0, PyData.depth, (this e.w).1, (this e.w).2]
    rfl
theorem Rise.times {es : List Ent} (h : Rise es) : es.Pairwise fun a b => a.t ≤ b.t := h.imp fun h => by
  unfold Ent.lt at h
  omega
/-- those up to a time are a beginning -/
theorem filter_take {es : List Ent} (h : es.Pairwise fun a b => a.t ≤ b.t) (t : Int) : es.filter (fun e => decide (e.t ≤ t)) = es.take (es.filter fun e => decide (e.t ≤ t)).length := by
  induction es with
  | nil => rfl
  | cons x r ih =>
    rw [List.pairwise_cons] at h
    by_cases c : x.t ≤ t
    · rw [List.filter_cons, if_pos (decide_eq_true c), List.length_cons, List.take_succ_cons, ← ih h.2]
    · have : r.filter (fun e => decide (e.t ≤ t)) = [] := List.filter_eq_nil_iff.mpr fun e he => by
        have := h.1 e he
        simp
        omega
      rw [List.filter_cons, if_neg (by simpa using c), this]
      rfl
theorem last_take {es : List Ent} {n : Nat} {e : Ent} (h : es[n]? = some e) : lastD (es.take (n + 1)) = wD e := by
  unfold lastD
  rw [List.take_add_one, h]
  simp
theorem sorted_pair : ∀ (p : Str) (l : List Str), PyProof.Rows.risingS p l = true → (p :: l).Pairwise fun a b => a.cps.toList ≤ b.cps.toList
  | p, [], _ => by simp
  | p, x :: r, h => by
    unfold PyProof.Rows.risingS at h
    rw [Bool.and_eq_true] at h
    have ih := sorted_pair x r h.2
    have hp : p.cps.toList ≤ x.cps.toList := by
      have z := h.1
      rw [PyProof.Rows.ltCps_eq] at z
      have z2 : ¬ x.cps.toList < p.cps.toList := by simpa using z
      exact List.not_lt.mp z2
    rw [List.pairwise_cons]
    refine ⟨fun y hy => ?_, ih⟩
    rcases List.mem_cons.mp hy with rfl | hy
    · exact hp
    · exact List.le_trans hp ((List.pairwise_cons.mp ih).1 y hy)
theorem sortedS_pair {l : List Str} (h : PyProof.Rows.sortedS l = true) : l.Pairwise fun a b => a.cps.toList ≤ b.cps.toList := by
  cases l with
  | nil => exact .nil
  | cons x r => exact sorted_pair x r h
theorem sorted_one {a b c : List Str} (h1 : a.Perm c) (h2 : b.Perm c) (s1 : PyProof.Rows.sortedS a = true) (s2 : PyProof.Rows.sortedS b = true) : a = b := by
  refine List.Perm.eq_of_pairwise (le := fun a b : Str => a.cps.toList ≤ b.cps.toList) (fun x y _ _ p q => ?_) (sortedS_pair s1) (sortedS_pair s2) (h1.trans h2.symm)
  exact TL.ext_tl (List.le_antisymm p q)
theorem kv_keys (m : Tab) : (kvT m).map (·.1) = (m.map (·.1)).map Sum.inr := by
  unfold kvT
  rw [List.map_map, List.map_map]
  rfl
/-! ### the shelf -/

theorem upd_app (H : Hp) (a : Addr) (o : HO) (b : Addr) : upd H a o b = if b = a then some o else H b := by
  by_cases e : b = a
  · subst e; rw [upd_same, if_pos rfl]
  · rw [upd_ne e, if_neg e]
theorem upd_twice {H : Hp} {p : Addr} {o o' : HO} : upd (upd H p o) p o' = upd H p o' := by
  funext b
  rw [upd_app, upd_app, upd_app]
  by_cases e : b = p
  · rw [if_pos e, if_pos e]
  · rw [if_neg e, if_neg e, if_neg e]
theorem lk_hit {k : Str} {v : V} {r : List (Str × V)} : ((k, v) :: r).lookup k = some v := by simp [List.lookup]
theorem lk_skip {k k' : Str} {v : V} {r : List (Str × V)} (h : ¬ k = k') : ((k', v) :: r).lookup k = r.lookup k := by
  have e : (k == k') = false := by simpa using h
  simp [List.lookup, e]
theorem pf_hit {k : Str} {v w : V} {r : List (Str × V)} : putF k v ((k, w) :: r) = (k, v) :: r := by simp [putF]
theorem pf_skip {k k' : Str} {v w : V} {r : List (Str × V)} (h : ¬ k' = k) : putF k v ((k', w) :: r) = (k', w) :: putF k v r := by simp [putF, h]
theorem putF_le (f : Str) (v : V) : ∀ l : List (Str × V), (putF f v l).length ≤ l.length + 1
  | [] => by simp [putF]
  | (k, w) :: r => by
    by_cases e : k = f
    · subst e
      rw [pf_hit]
      simp
    · rw [pf_skip e]
      have := putF_le f v r
      simp only [List.length_cons]
      omega
theorem few0 : ([] : List (Str × V)).length ≤ 0 := by simp
theorem few_up {l : List (Str × V)} {n : Nat} (h : l.length ≤ n) (f : Str) (v : V) : (putF f v l).length ≤ n + 1 := Nat.le_trans (putF_le f v l) (by omega)

theorem take_all {ds : List PyData} {i : Nat} {e : PyData} {f : PyData → Bool} (h : (ds.take i).all f = true) (he : ds[i]? = some e) (hf : f e = true) : (ds.take (i + 1)).all f = true := by
  rw [List.take_add_one, he, List.all_append, h]
  simp [hf]
theorem mem_notall {ds : List PyData} {i : Nat} {e : PyData} {f : PyData → Bool} (he : ds[i]? = some e) (hf : f e = false) : ds.all f = false := by
  rw [← Bool.not_eq_true, List.all_eq_true]
  intro h
  have z := h e (List.mem_of_getElem? he)
  rw [hf] at z
  cases z

def sf (rd lg : V) (le : Bool) (od : Addr) : List (Str × V) := [("rows", rd), ("let_go_to", lg), ("lent", .bl le), ("own_rows", .ref od)]
theorem sf_r (rd lg : V) (le : Bool) (od : Addr) : (sf rd lg le od).lookup ("rows" : Str) = some rd := lk_hit
theorem sf_l (rd lg : V) (le : Bool) (od : Addr) : (sf rd lg le od).lookup ("let_go_to" : Str) = some lg := by unfold sf; rw [lk_skip (by decide +kernel), lk_hit]
theorem sf_t (rd lg : V) (le : Bool) (od : Addr) : (sf rd lg le od).lookup ("lent" : Str) = some (.bl le) := by unfold sf; rw [lk_skip (by decide +kernel), lk_skip (by decide +kernel), lk_hit]
theorem sf_o (rd lg : V) (le : Bool) (od : Addr) : (sf rd lg le od).lookup ("own_rows" : Str) = some (.ref od) := by unfold sf; rw [lk_skip (by decide +kernel), lk_skip (by decide +kernel), lk_skip (by decide +kernel), lk_hit]
theorem sf_no (rd lg : V) (le : Bool) (od : Addr) {m : Str} (h1 : ¬ m = "rows") (h2 : ¬ m = "let_go_to") (h3 : ¬ m = "lent") (h4 : ¬ m = "own_rows") : (sf rd lg le od).lookup m = none := by
  unfold sf
  rw [lk_skip h1, lk_skip h2, lk_skip h3, lk_skip h4]
  rfl
theorem sf_new (rd lg : V) (le : Bool) (od : Addr) : putF "own_rows" (.ref od) (putF "lent" (.bl le) (putF "let_go_to" lg (putF "rows" rd []))) = sf rd lg le od := by
  have z : ∀ (k : Str) (v : V), putF k v [] = [(k, v)] := fun _ _ => rfl
  rw [z]
  repeat (first | rw [pf_skip (by decide +kernel)] | rw [z])
  rfl
theorem putK_self {m : Tab} {k : Str} {r : Addr} {es : List Ent} (h : atT m k = some (r, es)) (nd : (m.map (·.1)).Nodup) : putK (kvT m) (Sum.inr k) (.ref r) = kvT m := by
  rw [putK_kv h]
  unfold kvT
  apply List.map_congr_left
  intro p hp
  by_cases c : p.1 = k
  · rw [if_pos c]
    have := nodup_eq nd hp (atT_mem h) c
    rw [this]
  · rw [if_neg c]
theorem TabAt.frame {H H' : Hp} {d z : Addr} {m : Tab} {w : List (Key × V)} (T : TabAt H d m) (hz : H z = some (.dK w)) (nd : d ≠ z) (keep : ∀ b o, H b = some o → b ≠ z → H' b = some o) : TabAt H' d m := by
  have tk : Tk H H' := fun b xs e => keep b _ e (ne_of e hz (by intro q; cases q))
  refine ⟨keep _ _ T.dict nd, fun q hq => ?_, T.nd, T.na⟩
  obtain ⟨ps, hl, pr⟩ := T.row q hq
  exact ⟨ps, keep _ _ hl (ne_of hl hz (by intro q; cases q)), pr.tk tk⟩
theorem take_iff {es : List Ent} {t : Int} (h : es.Pairwise fun a b => a.t ≤ b.t) {j : Nat} {e : Ent} (he : es[j]? = some e) : e.t ≤ t ↔ j < (es.filter fun e => decide (e.t ≤ t)).length := by
  have ft := filter_take h t
  generalize hF : (es.filter fun e => decide (e.t ≤ t)).length = F at ft ⊢
  constructor
  · intro ht
    rcases Nat.lt_or_ge j F with c | c
    · exact c
    · exfalso
      have e1 := List.take_append_drop F es
      have e2 : (es.filter fun e => decide (e.t ≤ t)).length = ((es.take F).filter fun e => decide (e.t ≤ t)).length + ((es.drop F).filter fun e => decide (e.t ≤ t)).length := by
        conv => lhs; rw [← e1]
        rw [List.filter_append, List.length_append]
      have e3 : (es.take F).filter (fun e => decide (e.t ≤ t)) = es.take F := by
        rw [← ft, List.filter_filter]
        simp
      rw [hF, e3, ← ft, hF] at e2
      have e4 : ((es.drop F).filter fun e => decide (e.t ≤ t)) = [] := List.eq_nil_of_length_eq_zero (by omega)
      have e5 : e ∈ (es.drop F).filter fun e => decide (e.t ≤ t) := List.mem_filter.mpr ⟨List.mem_iff_getElem?.mpr ⟨j - F, by rw [List.getElem?_drop, show F + (j - F) = j by omega]; exact he⟩, decide_eq_true ht⟩
      rw [e4] at e5
      cases e5
  · intro hj
    have : e ∈ es.take F := List.mem_iff_getElem?.mpr ⟨j, by rw [List.getElem?_take, if_pos hj]; exact he⟩
    rw [← ft] at this
    exact of_decide_eq_true (List.mem_filter.mp this).2
section
open PySem PySem.Builtin.Str
theorem take_lt {f : Nat → Bool} : ∀ {l : List Nat}, (∃ c ∈ l, f c = false) → (l.takeWhile f).length < l.length
  | [], h => by
    obtain ⟨c, hc, _⟩ := h
    cases hc
  | x :: r, h => by
    rw [List.takeWhile_cons]
    cases hx : f x with
    | false => simp
    | true =>
      obtain ⟨c, hc, e⟩ := h
      have hr : c ∈ r := by
        rcases List.mem_cons.mp hc with rfl | hc
        · rw [hx] at e
          cases e
        · exact hc
      have := take_lt (f := f) (l := r) ⟨c, hr, e⟩
      simp only [if_true, List.length_cons]
      omega
theorem take_whole {f : Nat → Bool} : ∀ {l : List Nat}, (∀ c ∈ l, f c = true) → l.takeWhile f = l
  | [], _ => rfl
  | x :: r, h => by
    rw [List.takeWhile_cons, h x (List.mem_cons_self ..), if_pos rfl, take_whole fun c hc => h c (List.mem_cons_of_mem _ hc)]
theorem take_drop_no {f : Nat → Bool} : ∀ {l : List Nat}, (∃ c ∈ l, f c = false) → ∃ c ∈ l.drop (l.takeWhile f).length, f c = false
  | [], h => by
    obtain ⟨c, hc, _⟩ := h
    cases hc
  | x :: r, h => by
    rw [List.takeWhile_cons]
    cases hx : f x with
    | false => exact ⟨x, List.mem_cons_self .., hx⟩
    | true =>
      obtain ⟨c, hc, e⟩ := h
      have hr : c ∈ r := by
        rcases List.mem_cons.mp hc with rfl | hc
        · rw [hx] at e
          cases e
        · exact hc
      obtain ⟨c2, h2, e2⟩ := take_drop_no (f := f) (l := r) ⟨c, hr, e⟩
      exact ⟨c2, by simpa using h2, e2⟩
/-- a text whose signs are all struck off at the ends -/
theorem strip_empty (z b : Str) : (Txt.stripChars z b = (⟨#[]⟩ : Str)) ↔ ∀ c ∈ z.cps.toList, b.cps.contains c = true := by
  have hz : z.length = z.cps.toList.length := (Array.length_toList (xs := z.cps)).symm
  constructor
  · intro h
    by_cases ha : ∀ c ∈ z.cps.toList, b.cps.contains c = true
    · exact ha
    · exfalso
      have hn : ∃ c ∈ z.cps.toList, b.cps.contains c = false := by
        apply Classical.byContradiction
        intro hno
        apply ha
        intro c hc
        cases e : b.cps.contains c with
        | true => rfl
        | false => exact absurd ⟨c, hc, e⟩ hno
      have l1 := take_lt hn
      have l2 := take_lt (f := b.cps.contains) (l := (z.cps.toList.drop (z.cps.toList.takeWhile b.cps.contains).length).reverse) (by
        obtain ⟨c, hc, e⟩ := take_drop_no hn
        exact ⟨c, List.mem_reverse.mpr hc, e⟩)
      rw [List.length_reverse, List.length_drop] at l2
      unfold Txt.stripChars Txt.stripBy at h
      split at h
      · have : z.cps.toList.length = 0 := by rw [h]; rfl
        omega
      · have h3 := congrArg (fun s : Str => s.cps.size) h
        simp only [stripped, strSub, Array.size_extract, stripLo, stripHi, if_true] at h3
        have hs : z.cps.size = z.cps.toList.length := (Array.length_toList (xs := z.cps)).symm
        have he : (#[] : Array Nat).size = 0 := rfl
        rw [he] at h3
        omega
  · intro ha
    have e1 := take_whole ha
    have lo : stripLo b.cps.contains true z = z.cps.toList.length := by
      unfold stripLo
      rw [if_pos rfl, e1]
    have hi : stripHi b.cps.contains true z (z.cps.toList.length) = z.cps.toList.length := by
      unfold stripHi
      rw [if_pos rfl, List.drop_length]
      exact hz
    unfold Txt.stripChars Txt.stripBy
    split
    next h =>
      unfold stripSame at h
      rw [lo, hi] at h
      simp only [Bool.and_eq_true, beq_iff_eq] at h
      have hl : z.cps.toList = [] := List.length_eq_zero_iff.mp h.1
      cases z with
      | mk cps =>
        have : cps = #[] := Array.toList_inj.mp hl
        rw [this]
    next h =>
      unfold stripped
      rw [lo, hi]
      unfold strSub
      have : z.cps.extract z.cps.toList.length z.cps.toList.length = #[] := by
        apply Array.toList_inj.mp
        simp
      rw [this]
end
theorem strip_key (z : Str) : decide (V.str (Txt.stripChars z (Str.ofString "abcdefghijklmnopqrstuvwxyz")) = V.str (Str.ofString "")) = z.cps.toList.all ltr := by
  have e0 : Str.ofString "" = (⟨#[]⟩ : Str) := by decide +kernel
  have hc : ∀ c, (Str.ofString "abcdefghijklmnopqrstuvwxyz").cps.contains c = ltr c := fun c => by
    rw [← letters_in c, Bool.eq_iff_iff]
    simp
  rw [e0, Bool.eq_iff_iff, decide_eq_true_eq, V.str.injEq, strip_empty, List.all_eq_true]
  constructor
  · intro h c m
    rw [← hc c]
    exact h c m
  · intro h c m
    rw [hc c]
    exact h c m
/-! ### a shelf whose rows may be lent -/
structure Stp (S : List Addr) (H : Hp) (S' : List Addr) (H' : Hp) : Prop where
  of ::
  fr : ∀ c o, ¬ c ∈ S → H c = some o → H' c = some o
  ow : ∀ c ∈ S', c ∈ S ∨ H c = none
theorem Stp.refl (S : List Addr) (H : Hp) : Stp S H S H := ⟨fun _ _ _ e => e, fun _ z => .inl z⟩
theorem Stp.trans {S S1 S2 : List Addr} {H H1 H2 : Hp} (a : Stp S H S1 H1) (b : Stp S1 H1 S2 H2) : Stp S H S2 H2 := by
  refine ⟨fun c o n e => b.fr c o (fun z => ?_) (a.fr c o n e), fun c z => ?_⟩
  · rcases a.ow c z with y | y
    · exact n y
    · rw [e] at y; cases y
  · rcases b.ow c z with y | y
    · exact a.ow c y
    · cases e : H c with
      | none => exact .inr rfl
      | some o =>
        by_cases n : c ∈ S
        · exact .inl n
        · rw [a.fr c o n e] at y; cases y
theorem Stp.same {S S1 : List Addr} {H H1 H2 : Hp} (a : Stp S H S1 H1) (k : Same H1 H2) : Stp S H S1 H2 := ⟨fun c o n e => k c o (a.fr c o n e), a.ow⟩
theorem Stp.pre {S S1 : List Addr} {H H1 H2 : Hp} (a : Stp S H1 S1 H2) (k : Same H H1) : Stp S H S1 H2 := ⟨fun c o n e => a.fr c o n (k c o e), fun c z => (a.ow c z).imp id fun y => k.free y⟩
def ownL (os : List Str) : List (Key × V) := os.map fun k => (Sum.inr k, V.bl true)
theorem val_ownL (os : List Str) (k : Str) : (valV (ownL os) (Sum.inr k)).isSome = decide (k ∈ os) := by
  unfold ownL valV
  rw [List.find?_map, Option.map_map, Option.isSome_map]
  induction os with
  | nil => rfl
  | cons x r ih =>
    rw [List.find?_cons]
    by_cases c : x = k
    · subst c
      simp
    · have e : ((fun kv : Key × V => decide (kv.1 = Sum.inr k)) ∘ fun k : Str => ((Sum.inr k : Key), V.bl true)) x = false := by
        show decide ((Sum.inr x : Key) = Sum.inr k) = false
        exact decide_eq_false fun z => c (Sum.inr.inj z)
      rw [e]
      show Option.isSome (List.find? _ r) = _
      rw [ih]
      exact decide_eq_decide.mpr ⟨fun h => .tail _ h, fun h => (List.mem_cons.mp h).elim (fun z => absurd z.symm c) id⟩
/-- the keys with k among them -/
def addO (os : List Str) (k : Str) : List Str := if k ∈ os then os else os ++ [k]
theorem addO_mem {os : List Str} {k j : Str} : j ∈ addO os k ↔ j ∈ os ∨ j = k := by
  unfold addO
  by_cases c : k ∈ os
  · rw [if_pos c]
    exact ⟨.inl, fun h => h.elim id fun z => z ▸ c⟩
  · rw [if_neg c, List.mem_append, List.mem_singleton]
theorem addO_nd {os : List Str} (h : os.Nodup) (k : Str) : (addO os k).Nodup := by
  unfold addO
  by_cases c : k ∈ os
  · rw [if_pos c]; exact h
  · rw [if_neg c]
    exact List.nodup_append.mpr ⟨h, List.nodup_cons.mpr ⟨fun z => (by cases z), List.nodup_nil⟩, fun a ha b hb => by
      cases List.mem_singleton.mp hb
      exact fun e => c (e ▸ ha)⟩
theorem own_add (os : List Str) (k : Str) : putK (ownL os) (Sum.inr k) (.bl true) = ownL (addO os k) := by
  unfold addO
  by_cases c : k ∈ os
  · rw [if_pos c]
    unfold putK
    rw [valV_any, val_ownL, decide_eq_true c, if_pos rfl]
    unfold ownL
    rw [List.map_map]
    refine List.map_congr_left fun p _ => ?_
    show (if (Sum.inr p : Key) = Sum.inr k then ((Sum.inr p : Key), V.bl true) else ((Sum.inr p : Key), V.bl true)) = _
    by_cases e : p = k
    · rw [if_pos (congrArg Sum.inr e)]
    · rw [if_neg (fun z => e (Sum.inr.inj z))]
  · rw [if_neg c, putK_new]
    · unfold ownL
      rw [List.map_append]
      rfl
    · have z := val_ownL os k
      rw [decide_eq_false c] at z
      cases hz : valV (ownL os) (Sum.inr k) with
      | none => rfl
      | some v => rw [hz] at z; cases z
theorem nodup_leS {α : Type} [DecidableEq α] : ∀ {l m : List α}, l.Nodup → (∀ x ∈ l, x ∈ m) → l.length ≤ m.length := by
  intro l
  induction l with
  | nil => intro m _ _; exact Nat.zero_le _
  | cons y r ih =>
    intro m hn hs
    obtain ⟨a, b⟩ := List.nodup_cons.mp hn
    have hy : y ∈ m := hs y (.head _)
    have := ih (m := m.erase y) b fun z hz => (List.mem_erase_of_ne (fun e => a (by rw [← e]; exact hz))).mpr (hs z (.tail _ hz))
    have e := List.length_erase_of_mem hy
    have hp := List.length_pos_of_mem hy
    rw [List.length_cons]
    omega
/-- addresses of the rows that are a shelf's own -/
def rowsO (os : List Str) (m : Tab) : List Addr := (m.filter fun p => decide (p.1 ∈ os)).map (·.2.1)
def ownS (x rd od : Addr) (le : Bool) (os : List Str) (m : Tab) : List Addr := x :: od :: (if le then [] else rd :: rowsO os m)
def supS (x rd od : Addr) (m : Tab) : List Addr := x :: od :: rd :: m.map (·.2.1)
theorem rowsO_mem {os : List Str} {m : Tab} {c : Addr} : c ∈ rowsO os m ↔ ∃ p ∈ m, p.1 ∈ os ∧ p.2.1 = c := by
  unfold rowsO
  rw [List.mem_map]
  constructor
  · rintro ⟨p, hp, e⟩
    obtain ⟨h1, h2⟩ := List.mem_filter.mp hp
    exact ⟨p, h1, of_decide_eq_true h2, e⟩
  · rintro ⟨p, hp, ho, e⟩
    exact ⟨p, List.mem_filter.mpr ⟨hp, decide_eq_true ho⟩, e⟩
theorem own_sup {x rd od : Addr} {le : Bool} {os : List Str} {m : Tab} {c : Addr} (h : c ∈ ownS x rd od le os m) : c ∈ supS x rd od m := by
  unfold ownS at h
  unfold supS
  rcases List.mem_cons.mp h with rfl | h
  · exact .head _
  rcases List.mem_cons.mp h with rfl | h
  · exact .tail _ (.head _)
  cases le with
  | true => cases h
  | false =>
    rcases List.mem_cons.mp h with rfl | h
    · exact .tail _ (.tail _ (.head _))
    · obtain ⟨p, hp, _, rfl⟩ := rowsO_mem.mp h
      exact .tail _ (.tail _ (.tail _ (List.mem_map_of_mem (f := fun p : Str × Addr × List Ent => p.2.1) hp)))
structure ShelfAt (C : Addr) (H : Hp) (x rd od : Addr) (le : Bool) (os : List Str) (m : Tab) (lg : V) : Prop where
  ins : ∃ dx, H x = some (.ins C dx (sf (.ref rd) lg le od))
  tab : TabAt H rd m
  own : H od = some (.dK (ownL os))
  nod : od ≠ rd
  fit : le = false → os.Nodup ∧ ∀ k ∈ os, k ∈ m.map (·.1)
theorem ShelfAt.same {C : Addr} {H H' : Hp} {x rd od : Addr} {le : Bool} {os : List Str} {m : Tab} {lg : V} (h : ShelfAt C H x rd od le os m lg) (k : Same H H') : ShelfAt C H' x rd od le os m lg := by
  obtain ⟨dx, e⟩ := h.ins
  exact ⟨⟨dx, k _ _ e⟩, h.tab.same k, k _ _ h.own, h.nod, h.fit⟩
/-- stands where its own and what it stands on stay -/
theorem TabAt.keep {H H' : Hp} {d : Addr} {m : Tab} (T : TabAt H d m) (tk : Tk H H') (kd : ∀ o, H d = some o → H' d = some o) (kr : ∀ p ∈ m, ∀ o, H p.2.1 = some o → H' p.2.1 = some o) : TabAt H' d m := by
  refine ⟨kd _ T.dict, fun q hq => ?_, T.nd, T.na⟩
  obtain ⟨ps, hl, pr⟩ := T.row q hq
  exact ⟨ps, kr q hq _ hl, pr.tk tk⟩
theorem ShelfAt.keep {C : Addr} {H H' : Hp} {x rd od : Addr} {le : Bool} {os : List Str} {m : Tab} {lg : V} (h : ShelfAt C H x rd od le os m lg) (tk : Tk H H') (k : ∀ c ∈ supS x rd od m, ∀ o, H c = some o → H' c = some o) : ShelfAt C H' x rd od le os m lg := by
  obtain ⟨dx, e⟩ := h.ins
  exact ⟨⟨dx, k _ (.head _) _ e⟩, h.tab.keep tk (k _ (.tail _ (.tail _ (.head _)))) (fun p hp => k _ (.tail _ (.tail _ (.tail _ (List.mem_map_of_mem (f := fun p : Str × Addr × List Ent => p.2.1) hp))))), k _ (.tail _ (.head _)) _ h.own, h.nod, h.fit⟩
theorem ShelfAt.al {C : Addr} {H : Hp} {x rd od : Addr} {le : Bool} {os : List Str} {m : Tab} {lg : V} (h : ShelfAt C H x rd od le os m lg) : ∀ c ∈ supS x rd od m, ∃ o, H c = some o ∧ ∀ xs, o ≠ .tup xs := by
  intro c hc
  obtain ⟨dx, e⟩ := h.ins
  rcases List.mem_cons.mp hc with rfl | hc
  · exact ⟨_, e, fun _ z => by cases z⟩
  rcases List.mem_cons.mp hc with rfl | hc
  · exact ⟨_, h.own, fun _ z => by cases z⟩
  rcases List.mem_cons.mp hc with rfl | hc
  · exact ⟨_, h.tab.dict, fun _ z => by cases z⟩
  obtain ⟨p, hp, rfl⟩ := List.mem_map.mp hc
  obtain ⟨ps, hl, _⟩ := h.tab.row p hp
  exact ⟨_, hl, fun _ z => by cases z⟩

theorem Stp.tk {S S1 : List Addr} {H H1 : Hp} (a : Stp S H S1 H1) (n : ∀ c ∈ S, ∀ xs, H c ≠ some (.tup xs)) : Tk H H1 := fun b xs e => a.fr b _ (fun z => n b z xs e) e
theorem ShelfAt.ntup {C : Addr} {H : Hp} {x rd od : Addr} {le : Bool} {os : List Str} {m : Tab} {lg : V} (h : ShelfAt C H x rd od le os m lg) : ∀ c ∈ ownS x rd od le os m, ∀ xs, H c ≠ some (.tup xs) := fun c hc xs e => by
  obtain ⟨o, e2, n⟩ := h.al c (own_sup hc)
  rw [e] at e2
  cases e2
  exact n xs rfl
/-- a shelf beside a step of another one -/
theorem ShelfAt.step {C : Addr} {H H' : Hp} {x rd od : Addr} {le : Bool} {os : List Str} {m : Tab} {lg : V} {S S' : List Addr} (h : ShelfAt C H x rd od le os m lg) (k : Stp S H S' H') (n : ∀ c ∈ S, ∀ xs, H c ≠ some (.tup xs)) (d : ∀ c ∈ supS x rd od m, ¬ c ∈ S) : ShelfAt C H' x rd od le os m lg :=
  h.keep (k.tk n) fun c hc o e => k.fr c o (d c hc) e
theorem atT_keys {m : Tab} {k : Str} : (atT m k).isSome = decide (k ∈ m.map (·.1)) := by
  rw [← hasC_ct]
  unfold hasC ct
  rw [List.any_map]
  rw [Bool.eq_iff_iff, List.any_eq_true, decide_eq_true_eq, List.mem_map]
  exact ⟨fun ⟨p, hp, e⟩ => ⟨p, hp, of_decide_eq_true e⟩, fun ⟨p, hp, e⟩ => ⟨p, hp, decide_eq_true e⟩⟩
theorem putN_keys (m : Tab) (k : Str) (n : Addr) (e : Ent) : ∀ j, j ∈ (putN m k n e).map (·.1) ↔ j ∈ m.map (·.1) ∨ j = k := fun j => by
  unfold putN
  cases ha : atT m k with
  | none =>
    show j ∈ (m ++ [(k, n, [e])]).map (·.1) ↔ _
    rw [List.map_append, List.mem_append]
    exact or_congr Iff.rfl List.mem_singleton
  | some q =>
    show j ∈ (m.map fun p => if p.1 = k then (p.1, n, p.2.2 ++ [e]) else p).map (·.1) ↔ _
    have e1 : (m.map fun p => if p.1 = k then (p.1, n, p.2.2 ++ [e]) else p).map (·.1) = m.map (·.1) := by
      rw [List.map_map]
      refine List.map_congr_left fun p _ => ?_
      by_cases z : p.1 = k <;> simp [z]
    rw [e1]
    have hk : k ∈ m.map (·.1) := List.mem_map.mpr ⟨_, atT_mem ha, rfl⟩
    exact ⟨.inl, fun h => h.elim id fun z => z ▸ hk⟩
theorem putT_keys {m : Tab} {k : Str} {q : Addr × List Ent} (ha : atT m k = some q) (n : Addr) (e : Ent) : (putT m k n e).map (·.1) = m.map (·.1) := by
  unfold putT
  rw [ha]
  show (m.map fun p => if p.1 = k then (p.1, p.2.1, p.2.2 ++ [e]) else p).map (·.1) = _
  rw [List.map_map]
  refine List.map_congr_left fun p _ => ?_
  by_cases z : p.1 = k <;> simp [z]
theorem putT_addrs {m : Tab} {k : Str} {q : Addr × List Ent} (ha : atT m k = some q) (n : Addr) (e : Ent) : ∀ p ∈ putT m k n e, ∃ p0 ∈ m, p0.1 = p.1 ∧ p0.2.1 = p.2.1 := by
  intro p hp
  unfold putT at hp
  rw [ha] at hp
  obtain ⟨p0, h0, rfl⟩ := List.mem_map.mp hp
  refine ⟨p0, h0, ?_⟩
  by_cases z : p0.1 = k <;> simp [z]
theorem putN_addrs (m : Tab) (k : Str) (n : Addr) (e : Ent) : ∀ p ∈ putN m k n e, (p.1 = k ∧ p.2.1 = n) ∨ (p.1 ≠ k ∧ p ∈ m) := by
  intro p hp
  unfold putN at hp
  cases ha : atT m k with
  | none =>
    rw [ha] at hp
    rcases List.mem_append.mp hp with h | h
    · exact .inr ⟨fun z => atT_none ha p h z, h⟩
    · cases List.mem_singleton.mp h
      exact .inl ⟨rfl, rfl⟩
  | some q =>
    rw [ha] at hp
    obtain ⟨p0, h0, rfl⟩ := List.mem_map.mp hp
    by_cases z : p0.1 = k
    · exact .inl (by simp [z])
    · exact .inr (by rw [if_neg z]; exact ⟨z, h0⟩)
structure Kok (k : Str) : Prop where
  sh : Sh 20 k
  kd : keyD (.str k) = true
theorem k6_ok : ∀ k ∈ (["a", "b", "ab", "zzzzzz", "house", "q"] : List Str), Kok k := by
  intro k hk
  simp only [List.mem_cons, List.not_mem_nil, or_false] at hk
  rcases hk with rfl | rfl | rfl | rfl | rfl | rfl <;> exact ⟨⟨by decide, by decide⟩, by decide +kernel⟩
/-- a time that was not let go -/
def LgOk (lg : V) (t : Int) : Prop := lg = .non ∨ ∃ g : Int, lg = .int g ∧ g ≤ t
/-! ### promises -/
def spWholeD (K : PySem.W.Frag) : Sp := fun vs H Q _ => ∃ (v : V) (d : PyData), vs = [v] ∧ An K H v d ∧ Q (.bl (wholeD d)) H
def spRowN (K : PySem.W.Frag) : Sp := fun vs H Q _ => ∃ (v : V) (d : PyData) (lo hi : Nat), vs = [v, .int lo, .int hi] ∧ An K H v d ∧ hi ≤ 100 ∧ ∀ H', Same H H' → Q (.bl (rowN d lo hi)) H'
def spStampT : Sp := fun vs H Q _ => ∃ (p : Addr) (t s h : Int), vs = [.ref p] ∧ H p = some (.tup [.int t, .int s, .int h]) ∧ 0 ≤ s ∧ 0 ≤ h ∧ ∀ H', Same H H' → Q (.bl true) H'
def spKeyT : Sp := fun vs H Q _ => ∃ (k : Str), vs = [.str k] ∧ Kok k ∧ ∀ H', Same H H' → Q (.bl true) H'
def spKeyN : Sp := fun vs H Q _ => ∃ (k : Str), vs = [.str k] ∧ Kok k ∧ ∀ H', Same H H' → Q .non H'
def spWorthT : Sp := fun vs H Q _ => ∃ (p : Addr) (ns : List Int), vs = [.ref p] ∧ H p = some (.tup (ns.map V.int)) ∧ 1 ≤ ns.length ∧ ns.length ≤ 4 ∧ ∀ H', Same H H' → Q (.bl true) H'
def spTimeN : Sp := fun vs H Q _ => ∃ (t : Int), vs = [.int t] ∧ Q .non H
def spMany : Sp := fun vs H Q _ => ∃ (a : Addr) (es : List Ent) (t : Int), vs = [.ref a, .int t] ∧ RowAt H a es ∧ es.length ≤ 1000 ∧ es.Pairwise (fun a b => a.t ≤ b.t) ∧ ∀ H', Same H H' → Q (.int (es.filter fun e => decide (e.t ≤ t)).length) H'
def spRowOf (C : Addr) : Sp := fun vs H Q _ => ∃ (x rd od : Addr) (le : Bool) (os : List Str) (k : Str) (m : Tab) (lg : V), vs = [.ref x, .str k] ∧ ShelfAt C H x rd od le os m lg ∧ Kok k ∧ ∀ (r : Addr) (H' : Hp), Same H H' → RowAt H' r (esT m k) → ((∃ es, atT m k = some (r, es)) ∨ (atT m k = none ∧ H r = none)) → Q (.ref r) H'
def spVersions (C : Addr) : Sp := fun vs H Q _ => ∃ (x rd od : Addr) (le : Bool) (os : List Str) (k : Str) (m : Tab) (lg : V), vs = [.ref x, .str k] ∧ ShelfAt C H x rd od le os m lg ∧ Kok k ∧ ∀ (r : Addr) (H' : Hp), H r = none → Same H H' → RowAt H' r (esT m k) → Q (.ref r) H'
def spKeys (C : Addr) : Sp := fun vs H Q _ => ∃ (x rd od : Addr) (le : Bool) (os : List Str) (m : Tab) (lg : V), vs = [.ref x] ∧ ShelfAt C H x rd od le os m lg ∧ m.length ≤ 40 ∧ ∀ (r : Addr) (ys : List Str) (H' : Hp), H r = none → Same H H' → H' r = some (.lst (ys.map V.str)) → ys.Perm (m.map (·.1)) → PyProof.Rows.sortedS ys = true → Q (.ref r) H'
def spNewest (K : PySem.W.Frag) (C : Addr) : Sp := fun vs H Q _ => ∃ (x rd od : Addr) (le : Bool) (os : List Str) (k : Str) (m : Tab) (lg : V), vs = [.ref x, .str k] ∧ ShelfAt C H x rd od le os m lg ∧ Kok k ∧ ∀ (v : V) (H' : Hp), Same H H' → WAt H' v (lastD (esT m k)) → Q v H'
def spAt (K : PySem.W.Frag) (C : Addr) : Sp := fun vs H Q _ => ∃ (x rd od : Addr) (le : Bool) (os : List Str) (k : Str) (t : Int) (m : Tab) (lg : V), vs = [.ref x, .str k, .int t] ∧ ShelfAt C H x rd od le os m lg ∧ LgOk lg t ∧ Kok k ∧ (esT m k).length ≤ 1000 ∧ (esT m k).Pairwise (fun a b => a.t ≤ b.t) ∧ ∀ (v : V) (H' : Hp), Same H H' → WAt H' v (atD (esT m k) t) → Q v H'
def spGoneN (C : Addr) : Sp := fun vs H Q _ => ∃ (x rd od : Addr) (le : Bool) (os : List Str) (m : Tab) (t : Int) (lg : V), vs = [.ref x, .int t] ∧ ShelfAt C H x rd od le os m lg ∧ LgOk lg t ∧ Q .non H
def spLen (C : Addr) : Sp := fun vs H Q _ => ∃ (x rd od : Addr) (le : Bool) (os : List Str) (m : Tab) (lg : V), vs = [.ref x] ∧ ShelfAt C H x rd od le os m lg ∧ tot (ct m) ≤ 1000 ∧ ∀ H', Same H H' → Q (.int (tot (ct m) : Nat)) H'
theorem last_at {α : Type} {l : List α} {x : α} (h : l.getLast? = some x) : atI l (-1) = some x := by
  cases l with
  | nil => cases h
  | cons a r =>
    obtain ⟨ys, e⟩ := List.getLast?_eq_some_iff.mp h
    rw [e]
    exact atI_last _ _

theorem iq {Q : VK} {H : Hp} {i j : Int} (e : i = j) (q : Q (.int i) H) : Q (.int j) H := e ▸ q
theorem ge_no {l e : Ent} (h : l.lt e) : Ob.lexAt (fun j => decide ([l.t, l.s, l.h].getD j 0 = [e.t, e.s, e.h].getD j 0)) (fun j => decide ([e.t, e.s, e.h].getD j 0 ≤ [l.t, l.s, l.h].getD j 0)) (decide ([l.t, l.s, l.h].length ≥ [e.t, e.s, e.h].length)) 0 (min [l.t, l.s, l.h].length [e.t, e.s, e.h].length) = false := by
  show (if decide (l.t = e.t) = true then (if decide (l.s = e.s) = true then (if decide (l.h = e.h) = true then true else decide (e.h ≤ l.h)) else decide (e.s ≤ l.s)) else decide (e.t ≤ l.t)) = false
  unfold Ent.lt at h
  by_cases a : l.t = e.t
  · rw [if_pos (decide_eq_true a)]
    by_cases b : l.s = e.s
    · rw [if_pos (decide_eq_true b)]
      have c : ¬ l.h = e.h := by omega
      rw [decide_eq_false c, if_neg (by decide)]
      exact decide_eq_false (by omega)
    · rw [decide_eq_false b, if_neg (by decide)]
      exact decide_eq_false (by omega)
  · rw [decide_eq_false a, if_neg (by decide)]
    exact decide_eq_false (by omega)
theorem keys_kv (m : Tab) : ((kvT m).map fun kv => kV kv.1) = (m.map (·.1)).map V.str := by
  unfold kvT
  rw [List.map_map, List.map_map]
  rfl
theorem TabAt.at_kind {H : Hp} {d : Addr} {m : Tab} (T : TabAt H d m) {p : Str × Addr × List Ent} (hp : p ∈ m) : p.2.1 ≠ d := by
  obtain ⟨ps, hl, _⟩ := T.row p hp
  exact ne_of hl T.dict (by intro q; cases q)
section
variable {J : It} {n : Nat} {G : Hp → Prop} {Y : Nat → Hp → V → Hp → Prop}
theorem lc2_it (w : Walk J n G Y) {g g1 : TG} {tt tt1 : TT} {wi1 : TI} {te : TE} {vs vs1 : List Nat} {σ : L2.St} {H1 : Hp} {D : Addr} {Qd : Hp → Prop} (Pv : Nat → Hp → Prop) (h0 : Pv 0 (upd H1 D (.lst []))) (hG : ∀ i H, i ≤ n → Pv i H → G H)
    (hs : ∀ i x H H', i < n → Pv i H → Y i H x H' → g x (wipe σ vs) H' fun σ2 H2 => wipe σ2 vs = wipe σ vs ∧ tt σ2 H2 fun b H3 =>
      if b = true then wi1 σ2 H3 fun J1 H4 => ∃ W1 : Nat → Nat → Hp → Prop, (∃ m, W1 0 m H4) ∧ ∀ j k H, W1 j k H →
        (J1.stop j H ∧ Pv (i + 1) H) ∨ (J1.go j H ∧ ∃ Nx1 : Hp → Prop, (∀ H', Nx1 H' → ∃ k', k' < k ∧ W1 (j + 1) k' H') ∧ ∀ x H', J1.yld j H x H' → g1 x (wipe σ2 vs1) H' fun σ3 H5 => wipe σ3 vs1 = wipe σ2 vs1 ∧ tt1 σ3 H5 fun b H6 =>
          if b = true then te σ3 H6 fun y H7 => ∃ acc, H7 D = some (.lst acc) ∧ acc.length < sizeLine ∧ Nx1 (upd H7 D (.lst (acc ++ [y]))) else Nx1 H6)
      else Pv (i + 1) H3) (hd : ∀ H, Pv n H → Qd H) :
    ∃ W : Nat → Nat → Hp → Prop, (∃ m, W 0 m (upd H1 D (.lst []))) ∧ ∀ i m H, W i m H →
      (J.stop i H ∧ Qd H) ∨ (J.go i H ∧ ∃ Nx : Hp → Prop, (∀ H', Nx H' → ∃ m', m' < m ∧ W (i + 1) m' H') ∧ ∀ x H', J.yld i H x H' → g x (wipe σ vs) H' fun σ2 H2 => wipe σ2 vs = wipe σ vs ∧ tt σ2 H2 fun b H3 =>
        if b = true then wi1 σ2 H3 fun J1 H4 => ∃ W1 : Nat → Nat → Hp → Prop, (∃ m, W1 0 m H4) ∧ ∀ j k H, W1 j k H →
          (J1.stop j H ∧ Nx H) ∨ (J1.go j H ∧ ∃ Nx1 : Hp → Prop, (∀ H', Nx1 H' → ∃ k', k' < k ∧ W1 (j + 1) k' H') ∧ ∀ x H', J1.yld j H x H' → g1 x (wipe σ2 vs1) H' fun σ3 H5 => wipe σ3 vs1 = wipe σ2 vs1 ∧ tt1 σ3 H5 fun b H6 =>
            if b = true then te σ3 H6 fun y H7 => ∃ acc, H7 D = some (.lst acc) ∧ acc.length < sizeLine ∧ Nx1 (upd H7 D (.lst (acc ++ [y]))) else Nx1 H6)
        else Nx H3) := by
  refine ⟨fun i m H => m = n - i ∧ i ≤ n ∧ Pv i H, ⟨n, by simp, Nat.zero_le _, h0⟩, ?_⟩
  rintro i m H ⟨rfl, hi, p⟩
  have q := hG i H hi p
  by_cases hlt : i < n
  · refine .inr ⟨w.goes i H hlt q, Pv (i + 1), fun H' p' => ⟨n - (i + 1), by omega, rfl, hlt, p'⟩, fun x H' y => hs i x H H' hlt p (w.yields i H x H' hlt q y)⟩
  · have e : i = n := by omega
    subst e
    exact .inl ⟨w.stops H q, hd H p⟩
theorem in_it (w : Walk J n G Y) {g1 : TG} {tt1 : TT} {te : TE} {vs1 : List Nat} {σ2 : L2.St} {H4 : Hp} {D : Addr} {Nx : Hp → Prop} (Pv : Nat → Hp → Prop) (h0 : Pv 0 H4) (hG : ∀ i H, i ≤ n → Pv i H → G H)
    (hs : ∀ i x H H', i < n → Pv i H → Y i H x H' → g1 x (wipe σ2 vs1) H' fun σ3 H5 => wipe σ3 vs1 = wipe σ2 vs1 ∧ tt1 σ3 H5 fun b H6 =>
      if b = true then te σ3 H6 fun y H7 => ∃ acc, H7 D = some (.lst acc) ∧ acc.length < sizeLine ∧ Pv (i + 1) (upd H7 D (.lst (acc ++ [y]))) else Pv (i + 1) H6) (hd : ∀ H, Pv n H → Nx H) :
    ∃ W1 : Nat → Nat → Hp → Prop, (∃ m, W1 0 m H4) ∧ ∀ j k H, W1 j k H →
      (J.stop j H ∧ Nx H) ∨ (J.go j H ∧ ∃ Nx1 : Hp → Prop, (∀ H', Nx1 H' → ∃ k', k' < k ∧ W1 (j + 1) k' H') ∧ ∀ x H', J.yld j H x H' → g1 x (wipe σ2 vs1) H' fun σ3 H5 => wipe σ3 vs1 = wipe σ2 vs1 ∧ tt1 σ3 H5 fun b H6 =>
        if b = true then te σ3 H6 fun y H7 => ∃ acc, H7 D = some (.lst acc) ∧ acc.length < sizeLine ∧ Nx1 (upd H7 D (.lst (acc ++ [y]))) else Nx1 H6) := by
  refine ⟨fun i m H => m = n - i ∧ i ≤ n ∧ Pv i H, ⟨n, by simp, Nat.zero_le _, h0⟩, ?_⟩
  rintro i m H ⟨rfl, hi, p⟩
  have q := hG i H hi p
  by_cases hlt : i < n
  · refine .inr ⟨w.goes i H hlt q, Pv (i + 1), fun H' p' => ⟨n - (i + 1), by omega, rfl, hlt, p'⟩, fun x H' y => hs i x H H' hlt p (w.yields i H x H' hlt q y)⟩
  · have e : i = n := by omega
    subst e
    exact .inl ⟨w.stops H q, hd H p⟩
end

def spInit (C : Addr) : Sp := fun vs H Q _ => ∃ (x dx : Addr), vs = [.ref x] ∧ H x = some (.ins C dx []) ∧ ∀ (rd od : Addr) (H' : Hp), H rd = none → H od = none → (∀ b o, b ≠ x → H b = some o → H' b = some o) → ShelfAt C H' x rd od false [] [] .non → Q .non H'
def spOwn (C : Addr) : Sp := fun vs H Q _ => ∃ (x rd od : Addr) (le : Bool) (os : List Str) (m : Tab) (lg : V), vs = [.ref x] ∧ ShelfAt C H x rd od le os m lg ∧ ∀ (rd' od' : Addr) (H' : Hp), ShelfAt C H' x rd' od' false (if le then [] else os) m lg → (∀ b o, b ≠ x → H b = some o → H' b = some o) → (rd' = rd ∨ H rd' = none) → (od' = od ∨ H od' = none) → (le = false → rd' = rd ∧ od' = od) → (le = true → H rd' = none ∧ H od' = none) → Q .non H'
def spPut (C : Addr) : Sp := fun vs H Q _ => ∃ (x rd od sa wa : Addr) (le : Bool) (os : List Str) (k : Str) (m : Tab) (lg : V) (e : Ent), vs = [.ref x, .str k, .ref sa, .ref wa] ∧ ShelfAt C H x rd od le os m lg ∧ Kok k ∧ H sa = some (.tup [.int e.t, .int e.s, .int e.h]) ∧ H wa = some (.tup (e.w.map V.int)) ∧ e.Ok ∧ m.length ≤ 1000 ∧ (esT m k).length ≤ 1000 ∧ (∀ l, (esT m k).getLast? = some l → l.lt e) ∧
  ∀ (rd' od' : Addr) (os' : List Str) (m' : Tab) (H' : Hp), ShelfAt C H' x rd' od' false os' m' lg → ct m' = putC (ct m) k e → Stp (ownS x rd od le os m) H (ownS x rd' od' false os' m') H' → (∀ c ∈ supS x rd' od' m', c ∈ supS x rd od m ∨ H c = none) → Q .non H'
def spParts (C : Addr) : Sp := fun vs H Q _ => ∃ (x rd od : Addr) (le : Bool) (os : List Str) (m : Tab) (lg : V), vs = [.ref x] ∧ ShelfAt C H x rd od le os m lg ∧ ∀ (p : Addr) (H' : Hp), ShelfAt C H' x rd od true os m lg → (∀ b o, b ≠ x → H b = some o → H' b = some o) → H p = none → H' p = some (.tup [.ref rd, lg]) → Q (.ref p) H'
def spPutParts (C : Addr) : Sp := fun vs H Q _ => ∃ (x rd0 od p rd : Addr) (le : Bool) (os : List Str) (m0 m : Tab) (lg0 lg : V), vs = [.ref x, .ref p] ∧ ShelfAt C H x rd0 od le os m0 lg0 ∧ H p = some (.tup [.ref rd, lg]) ∧ TabAt H rd m ∧ od ≠ rd ∧ ∀ (H' : Hp), ShelfAt C H' x rd od true os m lg → (∀ b o, b ≠ x → H b = some o → H' b = some o) → Q .non H'
def spTwin (C : Addr) : Sp := fun vs H Q _ => ∃ (x rd od : Addr) (le : Bool) (os : List Str) (m : Tab) (lg : V), vs = [.ref x] ∧ ShelfAt C H x rd od le os m lg ∧ ∀ (y ody : Addr) (H' : Hp), H y = none → H ody = none → ShelfAt C H' x rd od true os m lg → ShelfAt C H' y rd ody true [] m lg → (∀ b o, b ≠ x → H b = some o → H' b = some o) → Q (.ref y) H'

theorem TabAt.setN {H H' : Hp} {rd n r : Addr} {m : Tab} {k : Str} {es es0 : List Ent} (T : TabAt H rd m) (ha : atT m k = some (r, es0)) (hn : H n = none) (hd : H' rd = some (.dK (putK (kvT m) (Sum.inr k) (.ref n)))) (hrow : RowAt H' n es)
    (keep : ∀ b o, H b = some o → b ≠ rd → H' b = some o) : TabAt H' rd (m.map fun p => if p.1 = k then (p.1, n, es) else p) := by
  have tk : Tk H H' := fun b xs z => keep b _ z (ne_of z T.dict (by intro q; cases q))
  have old : ∀ p ∈ m, RowAt H' p.2.1 p.2.2 := fun p hp => by
    obtain ⟨ps, hl, pr⟩ := T.row p hp
    exact ⟨ps, keep _ _ hl (ne_of hl T.dict (by intro q; cases q)), pr.tk tk⟩
  have new : ∀ p ∈ m, p.2.1 ≠ n := fun p hp => by
    obtain ⟨ps, hl, pr⟩ := T.row p hp
    exact ne_of_none hl hn
  refine ⟨?_, ?_, ?_, ?_⟩
  · rw [hd, putK_kv ha]
    congr 2
    unfold kvT
    rw [List.map_map]
    refine List.map_congr_left fun p hp => ?_
    by_cases z : p.1 = k <;> simp [z]
  · intro p hp
    obtain ⟨q, hq, rfl⟩ := List.mem_map.mp hp
    by_cases z : q.1 = k
    · rw [if_pos z]
      exact hrow
    · rw [if_neg z]
      exact old q hq
  · rw [List.map_map]
    have : m.map ((fun p : Str × Addr × List Ent => p.1) ∘ fun p => if p.1 = k then (p.1, n, es) else p) = m.map (·.1) := List.map_congr_left fun p _ => by
      by_cases z : p.1 = k <;> simp [z]
    rw [this]
    exact T.nd
  · have nd := T.nd
    have na := T.na
    clear hd old ha T
    induction m with
    | nil => simp
    | cons x l ih =>
      rw [List.map_cons, List.nodup_cons] at nd na
      rw [List.map_cons, List.map_cons, List.nodup_cons]
      refine ⟨?_, ih (fun p hp => new p (List.mem_cons_of_mem _ hp)) nd.2 na.2⟩
      intro z
      obtain ⟨y, hy, ey⟩ := List.mem_map.mp z
      obtain ⟨u, hu, rfl⟩ := List.mem_map.mp hy
      by_cases c1 : x.1 = k <;> by_cases c2 : u.1 = k
      · exact nd.1 (List.mem_map.mpr ⟨u, hu, c2.trans c1.symm⟩)
      · rw [if_pos c1, if_neg c2] at ey
        exact new u (List.mem_cons_of_mem _ hu) ey
      · rw [if_neg c1, if_pos c2] at ey
        exact new x (List.mem_cons_self ..) ey.symm
      · rw [if_neg c1, if_neg c2] at ey
        exact na.1 (List.mem_map.mpr ⟨u, hu, ey⟩)
theorem TabAt.addN {H H' : Hp} {rd n : Addr} {m : Tab} {k : Str} {es : List Ent} (T : TabAt H rd m) (ha : atT m k = none) (hn : H n = none) (hd : H' rd = some (.dK (putK (kvT m) (Sum.inr k) (.ref n)))) (hrow : RowAt H' n es)
    (keep : ∀ b o, H b = some o → b ≠ rd → H' b = some o) : TabAt H' rd (m ++ [(k, n, es)]) := by
  have tk : Tk H H' := fun b xs z => keep b _ z (ne_of z T.dict (by intro q; cases q))
  refine ⟨?_, ?_, ?_, ?_⟩
  · rw [hd, putK_new _ (by rw [val_kvT, ha]; rfl)]
    unfold kvT
    rw [List.map_append]
    rfl
  · intro p hp
    rcases List.mem_append.mp hp with hq | hq
    · obtain ⟨ps, hl, pr⟩ := T.row p hq
      exact ⟨ps, keep _ _ hl (ne_of hl T.dict (by intro q; cases q)), pr.tk tk⟩
    · rw [List.mem_singleton.mp hq]
      exact hrow
  · rw [List.map_append, List.nodup_append]
    refine ⟨T.nd, by simp, fun a ha' b hb => ?_⟩
    obtain ⟨p, hp, rfl⟩ := List.mem_map.mp ha'
    rw [List.mem_singleton.mp hb]
    exact atT_none ha p hp
  · rw [List.map_append, List.nodup_append]
    refine ⟨T.na, by simp, fun a ha' b hb => ?_⟩
    obtain ⟨p, hp, rfl⟩ := List.mem_map.mp ha'
    rw [List.mem_singleton.mp hb]
    obtain ⟨ps, hl, _⟩ := T.row p hp
    exact ne_of_none hl hn
/-- what is left of a row where elder ones are let go up to t -/
def goE (t : Int) (es : List Ent) : List Ent := es.drop ((es.filter fun e => decide (e.t ≤ t)).length - 1)
def goC (t : Int) (c : Ct) : Ct := c.map fun p => (p.1, goE t p.2)
theorem cut_from (xs : List V) (j : Nat) (h : j ≤ xs.length) : cutV xs (some (j : Int)) none = xs.drop j := by
  unfold cutV
  have e1 : HT.sIx xs.length 0 (some (j : Int)) = j := by
    unfold HT.sIx
    simp
    first
      | omega
      | (rw [if_neg (by omega)]; omega)
  have e2 : HT.sIx xs.length xs.length none = xs.length := rfl
  rw [e1, e2, List.take_of_length_le (by rw [List.length_drop]; exact Nat.le_refl _)]
theorem PrA.drop {H : Hp} : ∀ {ps : List Addr} {es : List Ent} (j : Nat), PrA H ps es → PrA H (ps.drop j) (es.drop j)
  | _, _, 0, h => h
  | _, _, j + 1, .nil => by simp only [List.drop_nil]; exact .nil
  | _, _, j + 1, .cons a r => PrA.drop j r
theorem val_mem2 {m : Tab} (nd : (m.map (·.1)).Nodup) {p : Str × Addr × List Ent} (hp : p ∈ m) : atT m p.1 = some p.2 := by
  cases h : atT m p.1 with
  | none => exact absurd rfl (atT_none h p hp)
  | some q =>
    have := nodup_eq nd (atT_mem h) hp rfl
    rw [← this]

theorem sf_put_r (rd rd' lg : V) (le : Bool) (od : Addr) : putF "rows" rd' (sf rd lg le od) = sf rd' lg le od := by unfold sf; rw [pf_hit]
theorem sf_put_l (rd lg lg' : V) (le : Bool) (od : Addr) : putF "let_go_to" lg' (sf rd lg le od) = sf rd lg' le od := by unfold sf; rw [pf_skip (by decide +kernel), pf_hit]
theorem sf_len (rd lg : V) (le : Bool) (od : Addr) : (sf rd lg le od).length < 1000 := by show 4 < 1000; decide
def lgMax (lg : V) (t : Int) : V := match lg with
  | .int g => if g < t then .int t else .int g
  | _ => .int t
def LgK (lg : V) : Prop := lg = .non ∨ ∃ g : Int, lg = .int g

def spLetGo (C : Addr) : Sp := fun vs H Q _ => ∃ (x rd od : Addr) (le : Bool) (os : List Str) (m : Tab) (lg : V) (t : Int), vs = [.ref x, .int t] ∧ ShelfAt C H x rd od le os m lg ∧ LgK lg ∧ m.length ≤ 1000 ∧ (∀ p ∈ m, p.2.2.length ≤ 1000 ∧ p.2.2.Pairwise fun a b => a.t ≤ b.t) ∧
  ∀ (rd' od' : Addr) (os' : List Str) (m' : Tab) (H' : Hp), ShelfAt C H' x rd' od' false os' m' (lgMax lg t) → ct m' = goC t (ct m) → Stp (ownS x rd od le os m) H (ownS x rd' od' false os' m') H' → (∀ c ∈ supS x rd' od' m', c ∈ supS x rd od m ∨ H c = none) → Q .non H'
section
variable {J : It} {n : Nat} {G : Hp → Prop} {Y : Nat → Hp → V → Hp → Prop}
theorem dc_it (w : Walk J n G Y) {g : TG} {tt : TT} {tk tv : TE} {vs : List Nat} {σ : L2.St} {H1 : Hp} {D : Addr} {Qd : Hp → Prop} (Pv : Nat → Hp → Prop) (h0 : Pv 0 (upd H1 D (.dK []))) (hG : ∀ i H, i ≤ n → Pv i H → G H)
    (hs : ∀ i x H H', i < n → Pv i H → Y i H x H' → g x (wipe σ vs) H' fun σ2 H2 => wipe σ2 vs = wipe σ vs ∧ tt σ2 H2 fun b H3 =>
      if b = true then tk σ2 H3 fun y H4 => tv σ2 H4 fun z H5 => ∃ kvs k, y = kV k ∧ H5 D = some (.dK kvs) ∧ kvs.length < sizeLine ∧ Pv (i + 1) (upd H5 D (.dK (putK kvs k z))) else Pv (i + 1) H3) (hd : ∀ H, Pv n H → Qd H) :
    ∃ W : Nat → Nat → Hp → Prop, (∃ m, W 0 m (upd H1 D (.dK []))) ∧ ∀ i m H, W i m H →
      (J.stop i H ∧ Qd H) ∨ (J.go i H ∧ ∃ Nx : Hp → Prop, (∀ H', Nx H' → ∃ m', m' < m ∧ W (i + 1) m' H') ∧ ∀ x H', J.yld i H x H' → g x (wipe σ vs) H' fun σ2 H2 => wipe σ2 vs = wipe σ vs ∧ tt σ2 H2 fun b H3 =>
        if b = true then tk σ2 H3 fun y H4 => tv σ2 H4 fun z H5 => ∃ kvs k, y = kV k ∧ H5 D = some (.dK kvs) ∧ kvs.length < sizeLine ∧ Nx (upd H5 D (.dK (putK kvs k z))) else Nx H3) := by
  refine ⟨fun i m H => m = n - i ∧ i ≤ n ∧ Pv i H, ⟨n, by simp, Nat.zero_le _, h0⟩, ?_⟩
  rintro i m H ⟨rfl, hi, p⟩
  have q := hG i H hi p
  by_cases hlt : i < n
  · refine .inr ⟨w.goes i H hlt q, Pv (i + 1), fun H' p' => ⟨n - (i + 1), by omega, rfl, hlt, p'⟩, fun x H' y => hs i x H H' hlt p (w.yields i H x H' hlt q y)⟩
  · have e : i = n := by omega
    subst e
    exact .inl ⟨w.stops H q, hd H p⟩
end
/-- contents with the first j keys let go -/
def goJ (t : Int) (c : Ct) (j : Nat) : Ct := c.map fun p => if p.1 ∈ (c.map (·.1)).take j then (p.1, goE t p.2) else p
theorem goJ_0 (t : Int) (c : Ct) : goJ t c 0 = c := by
  unfold goJ
  conv => rhs; rw [← List.map_id c]
  refine List.map_congr_left fun p _ => ?_
  rw [List.take_zero, if_neg (by simp)]
  rfl
theorem goJ_all (t : Int) (c : Ct) : goJ t c c.length = goC t c := by
  unfold goJ goC
  refine List.map_congr_left fun p hp => ?_
  rw [List.take_of_length_le (by rw [List.length_map]; exact Nat.le_refl _), if_pos (List.mem_map.mpr ⟨p, hp, rfl⟩)]
theorem goJ_keys (t : Int) (c : Ct) (j : Nat) : (goJ t c j).map (·.1) = c.map (·.1) := by
  unfold goJ
  rw [List.map_map]
  refine List.map_congr_left fun p _ => ?_
  show (if p.1 ∈ _ then (p.1, goE t p.2) else p).1 = p.1
  split <;> rfl
theorem not_take {l : List Str} (h : l.Nodup) {j : Nat} {k : Str} (hk : l[j]? = some k) : k ∉ l.take j := by
  intro z
  obtain ⟨i, hi, e⟩ := List.getElem_of_mem z
  have hl : i < j := by
    rw [List.length_take] at hi
    omega
  rw [List.getElem_take] at e
  obtain ⟨hj, ej⟩ := List.getElem?_eq_some_iff.mp hk
  exact List.pairwise_iff_getElem.mp h i j (by rw [List.length_take] at hi; omega) hj hl (e.trans ej.symm)
theorem goJ_step {t : Int} {c : Ct} (h : (c.map (·.1)).Nodup) {j : Nat} {p : Str × List Ent} (hp : c[j]? = some p) : (goJ t c j).map (fun q => if q.1 = p.1 then (q.1, goE t p.2) else q) = goJ t c (j + 1) ∧ esC (goJ t c j) p.1 = p.2 := by
  have hk : (c.map (·.1))[j]? = some p.1 := by rw [List.getElem?_map, hp]; rfl
  have nt := not_take h hk
  have et : (c.map (·.1)).take (j + 1) = (c.map (·.1)).take j ++ [p.1] := by rw [List.take_add_one, hk]; rfl
  refine ⟨?_, ?_⟩
  · unfold goJ
    rw [List.map_map]
    refine List.map_congr_left fun q hq => ?_
    show (if (if q.1 ∈ _ then (q.1, goE t q.2) else q).1 = p.1 then ((if q.1 ∈ _ then (q.1, goE t q.2) else q).1, goE t p.2) else (if q.1 ∈ _ then (q.1, goE t q.2) else q)) = _
    by_cases c1 : q.1 ∈ (c.map (·.1)).take j
    · have c2 : q.1 ∈ (c.map (·.1)).take (j + 1) := by rw [et]; exact List.mem_append.mpr (.inl c1)
      have c3 : ¬ q.1 = p.1 := fun z => nt (z ▸ c1)
      rw [if_pos c1, if_pos c2, if_neg c3]
    · by_cases c3 : q.1 = p.1
      · have c2 : q.1 ∈ (c.map (·.1)).take (j + 1) := by rw [et, c3]; simp
        have e : q = p := nodup_eq h hq (List.mem_of_getElem? hp) c3
        rw [if_neg c1, if_pos c2, if_pos c3, e]
      · have c2 : ¬ q.1 ∈ (c.map (·.1)).take (j + 1) := by
          rw [et]
          intro z
          rcases List.mem_append.mp z with z | z
          · exact c1 z
          · exact c3 (List.mem_singleton.mp z)
        rw [if_neg c1, if_neg c2, if_neg c3]
  · have hm : p ∈ goJ t c j := by
      unfold goJ
      exact List.mem_map.mpr ⟨p, List.mem_of_getElem? hp, if_neg nt⟩
    exact esC_of (by rw [goJ_keys]; exact h) hm rfl
theorem ct_get {m : Tab} {j : Nat} {p : Str × Addr × List Ent} (h : m[j]? = some p) : (ct m)[j]? = some (p.1, p.2.2) := by
  unfold ct
  rw [List.getElem?_map, h]
  rfl
theorem ct_nd {m : Tab} : (ct m).map (·.1) = m.map (·.1) := by
  unfold ct
  rw [List.map_map]
  rfl
theorem ct_set (m : Tab) (k : Str) (n : Addr) (es : List Ent) : ct (m.map fun p => if p.1 = k then (p.1, n, es) else p) = (ct m).map fun q => if q.1 = k then (q.1, es) else q := by
  unfold ct
  rw [List.map_map, List.map_map]
  refine List.map_congr_left fun p _ => ?_
  by_cases z : p.1 = k <;> simp [z]
theorem ct_len (m : Tab) : (ct m).length = m.length := by unfold ct; rw [List.length_map]
theorem len_of_ct {m m2 : Tab} (h : ct m = ct m2) : m.length = m2.length := by rw [← ct_len, ← ct_len, h]
theorem at_of_es {m : Tab} {k : Str} {es : List Ent} (h : (k, es) ∈ ct m) (nd : (m.map (·.1)).Nodup) : ∃ a, atT m k = some (a, es) := by
  unfold ct at h
  obtain ⟨p, hp, e⟩ := List.mem_map.mp h
  cases e
  exact ⟨p.2.1, val_mem2 nd hp⟩
theorem sf_put_o (rd lg : V) (le : Bool) (od od' : Addr) : putF "own_rows" (.ref od') (sf rd lg le od) = sf rd lg le od' := by unfold sf; rw [pf_skip (by decide +kernel), pf_skip (by decide +kernel), pf_skip (by decide +kernel), pf_hit]
theorem sf_put_t (rd lg : V) (le b : Bool) (od : Addr) : putF "lent" (.bl b) (sf rd lg le od) = sf rd lg b od := by unfold sf; rw [pf_skip (by decide +kernel), pf_skip (by decide +kernel), pf_hit]
theorem putN_some {m : Tab} {k : Str} {r n : Addr} {es : List Ent} {e : Ent} (h : atT m k = some (r, es)) (nd : (m.map (·.1)).Nodup) : putN m k n e = m.map fun p => if p.1 = k then (p.1, n, es ++ [e]) else p := by
  unfold putN
  rw [h]
  refine List.map_congr_left fun p hp => ?_
  by_cases c : p.1 = k
  · rw [if_pos c, if_pos c, nodup_eq nd hp (atT_mem h) c]
  · rw [if_neg c, if_neg c]
theorem esT_some {m : Tab} {k : Str} {r : Addr} {es : List Ent} (h : atT m k = some (r, es)) : esT m k = es := by unfold esT; rw [h]; rfl
theorem esT_none {m : Tab} {k : Str} (h : atT m k = none) : esT m k = [] := by unfold esT; rw [h]; rfl
/-- the keys that are own once all is its own -/
def os1 (le : Bool) (os : List Str) : List Str := if le then [] else os
theorem own_in {x rd od : Addr} {os : List Str} {m : Tab} {p : Str × Addr × List Ent} (hp : p ∈ m) (ho : p.1 ∈ os) : p.2.1 ∈ ownS x rd od false os m :=
  .tail _ (.tail _ (.tail _ (rowsO_mem.mpr ⟨p, hp, ho, rfl⟩)))
theorem own_rd {x rd od : Addr} {os : List Str} {m : Tab} : rd ∈ ownS x rd od false os m := .tail _ (.tail _ (.head _))
theorem own_x {x rd od : Addr} {le : Bool} {os : List Str} {m : Tab} : x ∈ ownS x rd od le os m := .head _
theorem own_od {x rd od : Addr} {le : Bool} {os : List Str} {m : Tab} : od ∈ ownS x rd od le os m := .tail _ (.head _)
theorem ownF {x rd od c : Addr} {os : List Str} {m : Tab} (h : c ∈ ownS x rd od false os m) : c = x ∨ c = od ∨ c = rd ∨ ∃ p ∈ m, p.1 ∈ os ∧ p.2.1 = c := by
  rcases List.mem_cons.mp h with h | h
  · exact .inl h
  rcases List.mem_cons.mp h with h | h
  · exact .inr (.inl h)
  rcases List.mem_cons.mp h with h | h
  · exact .inr (.inr (.inl h))
  · exact .inr (.inr (.inr (rowsO_mem.mp h)))
theorem supF {x rd od c : Addr} {m : Tab} : c ∈ supS x rd od m ↔ c = x ∨ c = od ∨ c = rd ∨ ∃ p ∈ m, p.2.1 = c := by
  unfold supS
  rw [List.mem_cons, List.mem_cons, List.mem_cons, List.mem_map]

def spLgo (C : Addr) : Sp := fun vs H Q _ => ∃ (x rd od : Addr) (le : Bool) (os : List Str) (m : Tab) (lg : V), vs = [.ref x] ∧ ShelfAt C H x rd od le os m lg ∧ Q lg H
theorem ShelfAt.lend {C : Addr} {H : Hp} {x rd od : Addr} {le : Bool} {os : List Str} {m : Tab} {lg : V} (h : ShelfAt C H x rd od le os m lg) {dx : Addr} (hx : H x = some (.ins C dx (sf (.ref rd) lg le od))) : ShelfAt C (upd H x (.ins C dx (sf (.ref rd) lg true od))) x rd od true os m lg := by
  have k1 : ∀ b o, b ≠ x → H b = some o → (upd H x (.ins C dx (sf (.ref rd) lg true od))) b = some o := fun b o n e => by rw [upd_ne n]; exact e
  refine ⟨⟨dx, upd_same⟩, h.tab.keep (fun b xs e => k1 b _ (ne_of e hx (by intro z; cases z)) e) (k1 _ · (ne_of h.tab.dict hx (by intro z; cases z))) (fun w hw => ?_), k1 _ _ (ne_of h.own hx (by intro z; cases z)) h.own, h.nod, fun z => by cases z⟩
  obtain ⟨ps, hl, _⟩ := h.tab.row w hw
  exact fun o e => k1 _ o (ne_of hl hx (by intro z; cases z)) e

/-! ### raw tuples -/
mutual
inductive TD (H : Hp) : V → PyData → Prop
  | non : TD H .non .none
  | bl (b : Bool) : TD H (.bl b) (.bool b)
  | int (i : Int) : TD H (.int i) (.int i)
  | str (x : Str) : TD H (.str x) (.str x)
  | tup {p : Addr} {xs : List V} {ds : List PyData} (h : H p = some (.tup xs)) (hs : TDAll H xs ds) : TD H (.ref p) (.tuple ds)
inductive TDAll (H : Hp) : List V → List PyData → Prop
  | nil : TDAll H [] []
  | cons {v : V} {d : PyData} {vs : List V} {ds : List PyData} (h : TD H v d) (hs : TDAll H vs ds) : TDAll H (v :: vs) (d :: ds)
end
mutual
theorem TD.tk {H H' : Hp} (k : Tk H H') : ∀ {v : V} {d : PyData}, TD H v d → TD H' v d
  | _, _, .non => .non
  | _, _, .bl b => .bl b
  | _, _, .int i => .int i
  | _, _, .str x => .str x
  | _, _, .tup h hs => .tup (k _ _ h) (TDAll.tk k hs)
theorem TDAll.tk {H H' : Hp} (k : Tk H H') : ∀ {vs : List V} {ds : List PyData}, TDAll H vs ds → TDAll H' vs ds
  | _, _, .nil => .nil
  | _, _, .cons h hs => .cons (TD.tk k h) (TDAll.tk k hs)
end
mutual
theorem TD.dp {K : PySem.W.Frag} {H : Hp} : ∀ {v : V} {d : PyData}, TD H v d → Dp K H v d
  | _, _, .non => .non
  | _, _, .bl b => .bl b
  | _, _, .int i => .int i
  | _, _, .str x => .str x
  | _, _, .tup h hs => .tup (SqT.of h) (TDAll.dp hs)
theorem TDAll.dp {K : PySem.W.Frag} {H : Hp} : ∀ {vs : List V} {ds : List PyData}, TDAll H vs ds → DpAll K H vs ds
  | _, _, .nil => .nil
  | _, _, .cons h hs => .cons (TD.dp h) (TDAll.dp hs)
end
theorem TDAll.len {H : Hp} : ∀ {vs : List V} {ds : List PyData}, TDAll H vs ds → vs.length = ds.length
  | _, _, .nil => rfl
  | _, _, .cons _ hs => congrArg Nat.succ hs.len
theorem TDAll.ints {H : Hp} : ∀ (ns : List Int), TDAll H (ns.map V.int) (ns.map .int)
  | [] => .nil
  | n :: r => .cons (.int n) (TDAll.ints r)
theorem TDAll.strs {H : Hp} : ∀ (ns : List Str), TDAll H (ns.map V.str) (ns.map .str)
  | [] => .nil
  | n :: r => .cons (.str n) (TDAll.strs r)
theorem TDAll.app {H : Hp} : ∀ {as bs : List V} {ds es : List PyData}, TDAll H as ds → TDAll H bs es → TDAll H (as ++ bs) (ds ++ es)
  | _, _, _, _, .nil, h => h
  | _, _, _, _, .cons a r, h => .cons a (TDAll.app r h)
theorem TDAll.get {H : Hp} : ∀ {vs : List V} {ds : List PyData}, TDAll H vs ds → ∀ {i : Nat} {d : PyData}, ds[i]? = some d → ∃ v, vs[i]? = some v ∧ TD H v d
  | _, _, .nil, i, d, e => by simp at e
  | _, _, .cons h hs, 0, d, e => by
    simp at e
    subst e
    exact ⟨_, rfl, h⟩
  | _, _, .cons h hs, i + 1, d, e => hs.get (i := i) (by simpa using e)
theorem TDAll.getV {H : Hp} : ∀ {vs : List V} {ds : List PyData}, TDAll H vs ds → ∀ {i : Nat} {v : V}, vs[i]? = some v → ∃ d, ds[i]? = some d ∧ TD H v d
  | _, _, .nil, i, d, e => by simp at e
  | _, _, .cons h hs, 0, d, e => by
    simp at e
    subst e
    exact ⟨_, rfl, h⟩
  | _, _, .cons h hs, i + 1, d, e => hs.getV (i := i) (by simpa using e)
theorem td_tup {H : Hp} {v : V} {ds : List PyData} (h : TD H v (.tuple ds)) : ∃ p xs, v = .ref p ∧ H p = some (.tup xs) ∧ TDAll H xs ds := by
  cases h with
  | tup h hs => exact ⟨_, _, rfl, h, hs⟩
theorem td_cons {H : Hp} {vs : List V} {d : PyData} {ds : List PyData} (h : TDAll H vs (d :: ds)) : ∃ v r, vs = v :: r ∧ TD H v d ∧ TDAll H r ds := by
  cases h with
  | cons h hs => exact ⟨_, _, rfl, h, hs⟩
theorem td_nil {H : Hp} {vs : List V} (h : TDAll H vs []) : vs = [] := by cases h; rfl
theorem td_int {H : Hp} {v : V} {i : Int} (h : TD H v (.int i)) : v = .int i := by cases h; rfl
theorem td_str {H : Hp} {v : V} {x : Str} (h : TD H v (.str x)) : v = .str x := by cases h; rfl
theorem td_none {H : Hp} {v : V} (h : TD H v .none) : v = .non := by cases h; rfl
theorem td_ints {H : Hp} : ∀ {vs : List V} {ns : List Int}, TDAll H vs (ns.map .int) → vs = ns.map V.int
  | _, [], h => td_nil h
  | _, n :: r, h => by
    obtain ⟨v, r', rfl, h1, h2⟩ := td_cons h
    rw [td_int h1, td_ints h2]
    rfl
theorem td_strs {H : Hp} : ∀ {vs : List V} {ns : List Str}, TDAll H vs (ns.map .str) → vs = ns.map V.str
  | _, [], h => td_nil h
  | _, n :: r, h => by
    obtain ⟨v, r', rfl, h1, h2⟩ := td_cons h
    rw [td_str h1, td_strs h2]
    rfl
/-! ### entries of a book -/
structure St3 where
  t : Int
  s : Int
  h : Int
def St3.d (x : St3) : PyData := .tuple [.int x.t, .int x.s, .int x.h]
def St3.l (x : St3) : List Int := [x.t, x.s, x.h]
inductive More
  | move (k : Str) (to : Int)
  | form (t f : Int)
def More.d : More → PyData
  | .move k to => .tuple [.str "move", .str k, .int to]
  | .form t f => .tuple [.str "form", .int t, .int f]
def moreD : Option More → PyData
  | none => .none
  | some m => m.d
structure Pl where
  n : Int
  home : Int
  hs : List Int
  st : St3
  rs : List Str
  ws : List (Str × List Int)
  more : Option More
def wrD (p : Str × List Int) : PyData := .tuple [.str p.1, .tuple (p.2.map .int)]
def Pl.d (p : Pl) : PyData := .tuple [.str "pledge", .int p.n, .int p.home, .tuple (p.hs.map .int), p.st.d, .tuple (p.rs.map .str), .tuple (p.ws.map wrD), moreD p.more]
inductive En
  | pledge (p : Pl)
  | sure (n : Int) (st : St3) (low : Int)
  | done (n : Int) (st : St3)
  | off (n : Int)
  | mark (t : Int)
  | gone (t : Int)
def En.d : En → PyData
  | .pledge p => p.d
  | .sure n st low => .tuple [.str "sure", .int n, st.d, .int low]
  | .done n st => .tuple [.str "done", .int n, st.d]
  | .off n => .tuple [.str "off", .int n]
  | .mark t => .tuple [.str "mark", .int t]
  | .gone t => .tuple [.str "gone", .int t]
structure Nt where
  w : Option Str
  p : Option Pl
  st : Option St3
  low : Option Int
def Nt.no : Nt := ⟨none, none, none, none⟩
def oSt (x : Option St3) : PyData := match x with
  | none => .none
  | some x => x.d
def oPl (x : Option Pl) : PyData := match x with
  | none => .none
  | some x => x.d
def oIn (x : Option Int) : PyData := match x with
  | none => .none
  | some x => .int x
def oSr (x : Option Str) : PyData := match x with
  | none => .none
  | some x => .str x
def Nt.d (x : Nt) : PyData := .tuple [oSr x.w, oPl x.p, oSt x.st, oIn x.low]
/-- what a ledger has noted -/
structure LS where
  nt : Int → Nt
  un : Int → Option Pl
  gs : Option St3
  gser : Int
  gm : Option Int
  sh : Ct
  lg : Option Int
  mv : Str → List (Int × Int)
  fm : List (Int × Int)
def LS.new : LS := ⟨fun _ => Nt.no, fun _ => none, none, 0, none, [], none, fun _ => [], []⟩
def setN {α : Type} (f : Int → α) (n : Int) (v : α) : Int → α := fun j => if j = n then v else f j
def setK {α : Type} (f : Str → α) (n : Str) (v : α) : Str → α := fun j => if j = n then v else f j
def LS.stamp (s : LS) (x : St3) : LS := { s with gs := (match s.gs with | none => some x | some g => if g.l < x.l then some x else some g), gser := if x.s > s.gser then x.s else s.gser }
def oLg : Option Int → V
  | none => .non
  | some g => .int g
def keyLe (p q : Int × Int) : Bool := PySem.W.dataLe false (fun p : Int × Int => PyData.int p.1) p q
def putsW (c : Ct) (st : St3) (ws : List (Str × List Int)) : Ct := ws.foldl (fun c w => putC c w.1 ⟨st.t, st.s, st.h, w.2⟩) c
def LS.moreOf (s : LS) (st : St3) : Option More → LS
  | none => s
  | some (.move k to) => { s with mv := setK s.mv k (s.mv k ++ [(st.t, to)]) }
  | some (.form t f) => { s with fm := (s.fm ++ [(t, f)]).mergeSort keyLe }
def LS.done0 (s : LS) (n : Int) (st : St3) : LS := ({ s with nt := setN s.nt n { s.nt n with w := some "done", st := some st }, un := setN s.un n none }).stamp st
def LS.note (s : LS) : En → LS
  | .pledge p => ({ s with nt := setN s.nt p.n { s.nt p.n with w := some "pledged", p := some p }, un := setN s.un p.n (some p) }).stamp p.st
  | .sure n st low => ({ s with nt := setN s.nt n ⟨some "sure", (s.nt n).p, some st, some low⟩ }).stamp st
  | .done n st => match (s.nt n).p with
    | none => s.done0 n st
    | some p => { s.done0 n st with sh := putsW s.sh st p.ws }.moreOf st p.more
  | .off n => { s with nt := setN s.nt n { s.nt n with w := some "off" }, un := setN s.un n none }
  | .mark t => { s with gm := (match s.gm with | none => some t | some g => if g < t then some t else some g) }
  | .gone t => { s with sh := goC t s.sh, lg := (match s.lg with | none => some t | some g => if g < t then some t else some g) }
/-! ### a ledger in the heap -/
structure LA where
  nd : Addr
  ud : Addr
  wx : Addr
  md : Addr
  fl : Addr
  le : Bool
  rd : Addr
  od : Addr
  sle : Bool
  sos : List Str
  m : Tab
  mls : List Addr
def prD (p : Int × Int) : PyData := .tuple [.int p.1, .int p.2]
structure NtAt (H : Hp) (nd : Addr) (N : Nat) (f : Int → Nt) : Prop where
  of ::
  ex : ∃ kv : List (Key × V), H nd = some (.dK kv) ∧ kv.length ≤ N ∧ ∀ n, match valV kv (Sum.inl n) with
    | none => f n = Nt.no
    | some v => TD H v (f n).d
structure UnAt (H : Hp) (ud : Addr) (N : Nat) (f : Int → Option Pl) : Prop where
  of ::
  ex : ∃ kv : List (Key × V), H ud = some (.dK kv) ∧ kv.length ≤ N ∧ (kv.map (·.1)).Nodup ∧ (∀ k ∈ kv.map (·.1), ∃ i : Int, k = Sum.inl i) ∧ ∀ n, match valV kv (Sum.inl n) with
    | none => f n = none
    | some v => ∃ p, f n = some p ∧ TD H v p.d
structure MvAt (H : Hp) (md : Addr) (mls : List Addr) (N : Nat) (f : Str → List (Int × Int)) : Prop where
  of ::
  ex : ∃ kv : List (Key × V), H md = some (.dK kv) ∧ kv.length ≤ N ∧ (kv.map (·.1)).Nodup ∧ ∀ k, match valV kv (Sum.inr k) with
    | none => f k = []
    | some v => ∃ a xs, v = .ref a ∧ a ∈ mls ∧ H a = some (.lst xs) ∧ TDAll H xs ((f k).map prD) ∧ (f k).length ≤ N ∧ f k ≠ []
structure FmAt (H : Hp) (fl : Addr) (N : Nat) (fm : List (Int × Int)) : Prop where
  of ::
  ex : ∃ xs, H fl = some (.lst xs) ∧ TDAll H xs (fm.map prD) ∧ fm.length ≤ N
theorem NtAt.keep {H H' : Hp} {nd : Addr} {N : Nat} {f : Int → Nt} (h : NtAt H nd N f) (tk : Tk H H') (k : ∀ o, H nd = some o → H' nd = some o) : NtAt H' nd N f := by
  obtain ⟨kv, e, l, g⟩ := h.ex
  refine ⟨kv, k _ e, l, fun n => ?_⟩
  have := g n
  cases ev : valV kv (Sum.inl n) with
  | none => rw [ev] at this; exact this
  | some v => rw [ev] at this; exact TD.tk tk this
theorem UnAt.keep {H H' : Hp} {ud : Addr} {N : Nat} {f : Int → Option Pl} (h : UnAt H ud N f) (tk : Tk H H') (k : ∀ o, H ud = some o → H' ud = some o) : UnAt H' ud N f := by
  obtain ⟨kv, e, l, n1, n2, g⟩ := h.ex
  refine ⟨kv, k _ e, l, n1, n2, fun n => ?_⟩
  have := g n
  cases ev : valV kv (Sum.inl n) with
  | none => rw [ev] at this; exact this
  | some v =>
    rw [ev] at this
    obtain ⟨p, e1, e2⟩ := this
    exact ⟨p, e1, TD.tk tk e2⟩
theorem MvAt.keep {H H' : Hp} {md : Addr} {mls : List Addr} {N : Nat} {f : Str → List (Int × Int)} (h : MvAt H md mls N f) (tk : Tk H H') (k : ∀ o, H md = some o → H' md = some o) (kl : ∀ c ∈ mls, ∀ o, H c = some o → H' c = some o) : MvAt H' md mls N f := by
  obtain ⟨kv, e, l, nd, g⟩ := h.ex
  refine ⟨kv, k _ e, l, nd, fun n => ?_⟩
  have := g n
  cases ev : valV kv (Sum.inr n) with
  | none => rw [ev] at this; exact this
  | some v =>
    rw [ev] at this
    obtain ⟨a, xs, e1, e2, e3, e4, e5⟩ := this
    exact ⟨a, xs, e1, e2, kl a e2 _ e3, TDAll.tk tk e4, e5⟩
theorem FmAt.keep {H H' : Hp} {fl : Addr} {N : Nat} {fm : List (Int × Int)} (h : FmAt H fl N fm) (tk : Tk H H') (k : ∀ o, H fl = some o → H' fl = some o) : FmAt H' fl N fm := by
  obtain ⟨xs, e, t, l⟩ := h.ex
  exact ⟨xs, k _ e, TDAll.tk tk t, l⟩
theorem NtAt.mono {H : Hp} {nd : Addr} {N M : Nat} {f : Int → Nt} (h : NtAt H nd N f) (l : N ≤ M) : NtAt H nd M f := by
  obtain ⟨kv, e, l', g⟩ := h.ex
  exact ⟨kv, e, Nat.le_trans l' l, g⟩
theorem UnAt.mono {H : Hp} {nd : Addr} {N M : Nat} {f : Int → Option Pl} (h : UnAt H nd N f) (l : N ≤ M) : UnAt H nd M f := by
  obtain ⟨kv, e, l', g⟩ := h.ex
  exact ⟨kv, e, Nat.le_trans l' l, g⟩
theorem MvAt.mono {H : Hp} {md : Addr} {mls : List Addr} {N M : Nat} {f : Str → List (Int × Int)} (h : MvAt H md mls N f) (l : N ≤ M) : MvAt H md mls M f := by
  obtain ⟨kv, e, l', nd, g⟩ := h.ex
  refine ⟨kv, e, Nat.le_trans l' l, nd, fun n => ?_⟩
  have := g n
  cases ev : valV kv (Sum.inr n) with
  | none => rw [ev] at this; exact this
  | some v =>
    rw [ev] at this
    obtain ⟨a, xs, e1, e2, e3, e4, e5, e6⟩ := this
    exact ⟨a, xs, e1, e2, e3, e4, Nat.le_trans e5 l, e6⟩
theorem FmAt.mono {H : Hp} {fl : Addr} {N M : Nat} {fm : List (Int × Int)} (h : FmAt H fl N fm) (l : N ≤ M) : FmAt H fl M fm := by
  obtain ⟨xs, e, t, l'⟩ := h.ex
  exact ⟨xs, e, t, Nat.le_trans l' l⟩
theorem NtAt.put {H : Hp} {nd : Addr} {N : Nat} {f : Int → Nt} (h : NtAt H nd N f) {kv : List (Key × V)} (e : H nd = some (.dK kv)) {n : Int} {v : V} {x : Nt} (hv : TD H v x.d) : NtAt (upd H nd (.dK (putK kv (Sum.inl n) v))) nd (N + 1) (setN f n x) := by
  obtain ⟨kv', e', l, g⟩ := h.ex
  rw [e] at e'
  cases e'
  have tk : Tk H (upd H nd (.dK (putK kv (Sum.inl n) v))) := fun b xs z => by rw [upd_ne (ne_of z e (by intro q; cases q))]; exact z
  have lk := length_putK kv (Sum.inl n) v
  refine ⟨_, upd_same, by omega, fun j => ?_⟩
  rw [valV_put]
  unfold setN
  by_cases c : j = n
  · subst c
    rw [if_pos rfl, if_pos rfl]
    exact TD.tk tk hv
  · rw [if_neg fun z => c (Sum.inl.inj z), if_neg c]
    have := g j
    cases ev : valV kv (Sum.inl j) with
    | none => rw [ev] at this; exact this
    | some v => rw [ev] at this; exact TD.tk tk this
theorem keys_put (kv : List (Key × V)) (k : Key) (v : V) : ∀ j, j ∈ (putK kv k v).map (·.1) ↔ j ∈ kv.map (·.1) ∨ j = k := fun j => by
  unfold putK
  by_cases c : (kv.any fun x => decide (x.1 = k)) = true
  · rw [if_pos c]
    have e1 : (kv.map fun x => if x.1 = k then (x.1, v) else x).map (·.1) = kv.map (·.1) := by
      rw [List.map_map]
      refine List.map_congr_left fun p _ => ?_
      by_cases z : p.1 = k <;> simp [z]
    rw [e1]
    obtain ⟨x, hx, ex⟩ := List.any_eq_true.mp c
    have hk : k ∈ kv.map (·.1) := List.mem_map.mpr ⟨x, hx, of_decide_eq_true ex⟩
    exact ⟨.inl, fun h => h.elim id fun z => z ▸ hk⟩
  · rw [if_neg c, List.map_append, List.mem_append]
    exact or_congr Iff.rfl List.mem_singleton
theorem nodup_put {kv : List (Key × V)} (h : (kv.map (·.1)).Nodup) (k : Key) (v : V) : ((putK kv k v).map (·.1)).Nodup := by
  unfold putK
  by_cases c : (kv.any fun x => decide (x.1 = k)) = true
  · rw [if_pos c]
    have e1 : (kv.map fun x => if x.1 = k then (x.1, v) else x).map (·.1) = kv.map (·.1) := by
      rw [List.map_map]
      refine List.map_congr_left fun p _ => ?_
      by_cases z : p.1 = k <;> simp [z]
    rw [e1]
    exact h
  · rw [if_neg c, List.map_append]
    refine List.nodup_append.mpr ⟨h, List.nodup_cons.mpr ⟨fun z => (by cases z), List.nodup_nil⟩, fun a ha b hb e => c ?_⟩
    cases List.mem_singleton.mp hb
    obtain ⟨x, hx, ex⟩ := List.mem_map.mp ha
    exact List.any_eq_true.mpr ⟨x, hx, decide_eq_true (ex.trans e)⟩
theorem val_dropL (k j : Key) : ∀ kv : List (Key × V), valV (dropK kv k) j = if j = k then none else valV kv j
  | [] => by split <;> rfl
  | p :: r => by
    have ih := val_dropL k j r
    unfold dropK at ih ⊢
    rw [List.filter_cons]
    by_cases h : p.1 = k
    · rw [if_neg (by simp [h]), ih]
      by_cases e : j = k
      · rw [if_pos e, if_pos e]
      · rw [if_neg e, if_neg e, valV_neg (fun z => e (z.symm.trans h))]
    · rw [if_pos (by simp [h])]
      by_cases e : p.1 = j
      · rw [valV_pos e, valV_pos e, if_neg (fun z => h (e.trans z))]
      · rw [valV_neg e, valV_neg e, ih]
theorem UnAt.put {H : Hp} {nd : Addr} {N : Nat} {f : Int → Option Pl} (h : UnAt H nd N f) {kv : List (Key × V)} (e : H nd = some (.dK kv)) {n : Int} {v : V} {x : Pl} (hv : TD H v x.d) : UnAt (upd H nd (.dK (putK kv (Sum.inl n) v))) nd (N + 1) (setN f n (some x)) := by
  obtain ⟨kv', e', l, n1, n2, g⟩ := h.ex
  rw [e] at e'
  cases e'
  have tk : Tk H (upd H nd (.dK (putK kv (Sum.inl n) v))) := fun b xs z => by rw [upd_ne (ne_of z e (by intro q; cases q))]; exact z
  have lk := length_putK kv (Sum.inl n) v
  refine ⟨_, upd_same, by omega, nodup_put n1 _ _, fun k hk => ?_, fun j => ?_⟩
  · rcases (keys_put _ _ _ _).mp hk with hk | rfl
    · exact n2 k hk
    · exact ⟨n, rfl⟩
  rw [valV_put]
  unfold setN
  by_cases c : j = n
  · subst c
    rw [if_pos rfl, if_pos rfl]
    exact ⟨x, rfl, TD.tk tk hv⟩
  · rw [if_neg fun z => c (Sum.inl.inj z), if_neg c]
    have := g j
    cases ev : valV kv (Sum.inl j) with
    | none => rw [ev] at this; exact this
    | some v =>
      rw [ev] at this
      obtain ⟨p, e1, e2⟩ := this
      exact ⟨p, e1, TD.tk tk e2⟩
theorem UnAt.drop {H : Hp} {nd : Addr} {N : Nat} {f : Int → Option Pl} (h : UnAt H nd N f) {kv : List (Key × V)} (e : H nd = some (.dK kv)) {n : Int} : UnAt (upd H nd (.dK (dropK kv (Sum.inl n)))) nd N (setN f n none) := by
  obtain ⟨kv', e', l, n1, n2, g⟩ := h.ex
  rw [e] at e'
  cases e'
  have tk : Tk H (upd H nd (.dK (dropK kv (Sum.inl n)))) := fun b xs z => by rw [upd_ne (ne_of z e (by intro q; cases q))]; exact z
  have sub : ∀ x, x ∈ dropK kv (Sum.inl n) → x ∈ kv := fun x hx => (List.mem_filter.mp hx).1
  refine ⟨_, upd_same, Nat.le_trans (List.length_filter_le _ _) l, List.Nodup.sublist (List.Sublist.map _ List.filter_sublist) n1, fun k hk => ?_, fun j => ?_⟩
  · obtain ⟨x, hx, ex⟩ := List.mem_map.mp hk
    exact n2 k (List.mem_map.mpr ⟨x, sub x hx, ex⟩)
  rw [val_dropL]
  unfold setN
  by_cases c : j = n
  · subst c
    rw [if_pos rfl, if_pos rfl]
  · rw [if_neg fun z => c (Sum.inl.inj z), if_neg c]
    have := g j
    cases ev : valV kv (Sum.inl j) with
    | none => rw [ev] at this; exact this
    | some v =>
      rw [ev] at this
      obtain ⟨p, e1, e2⟩ := this
      exact ⟨p, e1, TD.tk tk e2⟩

/-- all but the instance itself -/
structure LCore (CS : Addr) (H : Hp) (x : Addr) (A : LA) (s : LS) (N : Nat) : Prop where
  of ::
  nt : NtAt H A.nd N s.nt
  un : UnAt H A.ud N s.un
  sh : ShelfAt CS H A.wx A.rd A.od A.sle A.sos A.m (oLg s.lg)
  ct : ct A.m = s.sh
  mv : MvAt H A.md A.mls N s.mv
  fm : FmAt H A.fl N s.fm
  xw : x ≠ A.wx
  dd : [A.nd, A.ud, A.md, A.rd, A.od].Nodup
  ll : A.fl ∉ A.m.map (·.2.1) ∧ ∀ c ∈ A.mls, c ∉ A.m.map (·.2.1)
  al : ∀ c ∈ A.mls, ∃ xs, H c = some (.lst xs)
  sz : A.m.length ≤ N ∧ ∀ p ∈ s.sh, p.2.length ≤ N ∧ p.2.Pairwise fun a b => a.t ≤ b.t
def supC (A : LA) : List Addr := A.nd :: A.ud :: A.md :: A.fl :: (A.mls ++ supS A.wx A.rd A.od A.m)
def supG (x : Addr) (A : LA) : List Addr := x :: supC A
def ownC (A : LA) : List Addr := (if A.le then [] else [A.nd, A.ud]) ++ ownS A.wx A.rd A.od A.sle A.sos A.m
def ownG (x : Addr) (A : LA) : List Addr := x :: ownC A
theorem supC_mem {A : LA} {c : Addr} : c ∈ supC A ↔ c = A.nd ∨ c = A.ud ∨ c = A.md ∨ c = A.fl ∨ c ∈ A.mls ∨ c ∈ supS A.wx A.rd A.od A.m := by
  unfold supC
  rw [List.mem_cons, List.mem_cons, List.mem_cons, List.mem_cons, List.mem_append]
theorem ownC_mem {A : LA} {c : Addr} : c ∈ ownC A ↔ (A.le = false ∧ (c = A.nd ∨ c = A.ud)) ∨ c ∈ ownS A.wx A.rd A.od A.sle A.sos A.m := by
  unfold ownC
  rw [List.mem_append]
  cases A.le with
  | true => simp
  | false => simp
theorem ownC_sup {A : LA} {c : Addr} (h : c ∈ ownC A) : c ∈ supC A := by
  rw [supC_mem]
  rcases ownC_mem.mp h with ⟨_, h | h⟩ | h
  · exact .inl h
  · exact .inr (.inl h)
  · exact .inr (.inr (.inr (.inr (.inr (own_sup h)))))
section
variable {C CS : Addr} {H H' : Hp} {x : Addr} {A : LA} {s : LS} {N : Nat}
theorem LCore.keep (h : LCore CS H x A s N) (tk : Tk H H') (k : ∀ c ∈ supC A, ∀ o, H c = some o → H' c = some o) : LCore CS H' x A s N :=
  ⟨h.nt.keep tk (k _ (supC_mem.mpr (.inl rfl))), h.un.keep tk (k _ (supC_mem.mpr (.inr (.inl rfl)))), h.sh.keep tk fun c hc => k c (supC_mem.mpr (.inr (.inr (.inr (.inr (.inr hc)))))), h.ct,
    h.mv.keep tk (k _ (supC_mem.mpr (.inr (.inr (.inl rfl))))) fun c hc => k c (supC_mem.mpr (.inr (.inr (.inr (.inr (.inl hc)))))), h.fm.keep tk (k _ (supC_mem.mpr (.inr (.inr (.inr (.inl rfl)))))), h.xw, h.dd, h.ll, fun c hc => by
      obtain ⟨xs, e⟩ := h.al c hc
      exact ⟨xs, k c (supC_mem.mpr (.inr (.inr (.inr (.inr (.inl hc)))))) _ e⟩, h.sz⟩
/-- what stands at a thing of the ledger -/
theorem LCore.kind (h : LCore CS H x A s N) {c : Addr} (hc : c ∈ supC A) : (∃ kv, H c = some (.dK kv)) ∨ (∃ xs, H c = some (.lst xs)) ∨ c = A.wx := by
  rcases supC_mem.mp hc with e | e | e | e | e | e
  · obtain ⟨kv, z, _⟩ := h.nt.ex; exact .inl ⟨kv, e ▸ z⟩
  · obtain ⟨kv, z, _⟩ := h.un.ex; exact .inl ⟨kv, e ▸ z⟩
  · obtain ⟨kv, z, _⟩ := h.mv.ex; exact .inl ⟨kv, e ▸ z⟩
  · obtain ⟨kv, z, _⟩ := h.fm.ex; exact .inr (.inl ⟨kv, e ▸ z⟩)
  · exact .inr (.inl (h.al c e))
  · rcases supF.mp e with e | e | e | ⟨p, hp, e⟩
    · exact .inr (.inr e)
    · exact .inl ⟨_, e ▸ h.sh.own⟩
    · exact .inl ⟨_, e ▸ h.sh.tab.dict⟩
    · obtain ⟨ps, hl, _⟩ := h.sh.tab.row p hp
      exact .inr (.inl ⟨_, e ▸ hl⟩)
theorem LCore.nx (h : LCore CS H x A s N) {dx : Addr} {fs : List (Str × V)} (hx : H x = some (.ins C dx fs)) : ∀ c ∈ supC A, c ≠ x := fun c hc e => by
  subst e
  rcases h.kind hc with ⟨kv, z⟩ | ⟨xs, z⟩ | z
  · rw [hx] at z; cases z
  · rw [hx] at z; cases z
  · exact h.xw z
/-- the instance is changed -/
theorem LCore.atX (h : LCore CS H x A s N) {dx : Addr} {fs : List (Str × V)} (hx : H x = some (.ins C dx fs)) (o : HO) : LCore CS (upd H x o) x A s N :=
  h.keep (fun b xs e => by rw [upd_ne (ne_of e hx (by intro z; cases z))]; exact e) fun c hc o' e => by rw [upd_ne (h.nx hx c hc)]; exact e
theorem LCore.same (h : LCore CS H x A s N) (k : Same H H') : LCore CS H' x A s N := h.keep (fun b xs e => k b _ e) fun c _ o e => k c o e
theorem LCore.mono {M : Nat} (h : LCore CS H x A s N) (l : N ≤ M) : LCore CS H x A s M :=
  ⟨h.nt.mono l, h.un.mono l, h.sh, h.ct, h.mv.mono l, h.fm.mono l, h.xw, h.dd, h.ll, h.al, Nat.le_trans h.sz.1 l, fun p hp => ⟨Nat.le_trans (h.sz.2 p hp).1 l, (h.sz.2 p hp).2⟩⟩
theorem dd_facts {a b c d e : Addr} (h : [a, b, c, d, e].Nodup) : a ≠ b ∧ a ≠ c ∧ a ≠ d ∧ a ≠ e ∧ b ≠ c ∧ b ≠ d ∧ b ≠ e ∧ c ≠ d ∧ c ≠ e ∧ d ≠ e := by
  simp only [List.nodup_cons, List.mem_cons, List.not_mem_nil, or_false, not_or, List.nodup_nil, and_true, not_false_eq_true] at h
  obtain ⟨⟨h1, h2, h3, h4⟩, ⟨h5, h6, h7⟩, ⟨h8, h9⟩, h10⟩ := h
  exact ⟨h1, h2, h3, h4, h5, h6, h7, h8, h9, h10⟩
theorem dd_of {a b c d e : Addr} (h1 : a ≠ b) (h2 : a ≠ c) (h3 : a ≠ d) (h4 : a ≠ e) (h5 : b ≠ c) (h6 : b ≠ d) (h7 : b ≠ e) (h8 : c ≠ d) (h9 : c ≠ e) (h10 : d ≠ e) : [a, b, c, d, e].Nodup := by
  simp only [List.nodup_cons, List.mem_cons, List.not_mem_nil, or_false, not_or, List.nodup_nil, and_true, not_false_eq_true]
  exact ⟨⟨h1, h2, h3, h4⟩, ⟨h5, h6, h7⟩, ⟨h8, h9⟩, h10⟩
/-- one dict of the ledger's is changed, the rest stands -/
theorem LCore.others (h : LCore CS H x A s N) {d : Addr} {kv : List (Key × V)} {o : HO} (hd : H d = some (.dK kv)) : Tk H (upd H d o) ∧ ∀ c, c ≠ d → ∀ u, H c = some u → (upd H d o) c = some u :=
  ⟨fun b xs e => by rw [upd_ne (ne_of e hd (by intro z; cases z))]; exact e, fun c n u e => by rw [upd_ne n]; exact e⟩
theorem LCore.putNt (h : LCore CS H x A s N) {kv : List (Key × V)} (e : H A.nd = some (.dK kv)) {n : Int} {v : V} {y : Nt} (hv : TD H v y.d) : LCore CS (upd H A.nd (.dK (putK kv (Sum.inl n) v))) x A { s with nt := setN s.nt n y } (N + 1) := by
  obtain ⟨tk, k⟩ := h.others (o := .dK (putK kv (Sum.inl n) v)) e
  obtain ⟨d1, d2, d3, d4, d5, d6, d7, d8, d9, d10⟩ := dd_facts h.dd
  have nd : ∀ c xs, H c = some (.lst xs) → c ≠ A.nd := fun c xs z => ne_of z e (by intro q; cases q)
  obtain ⟨wdx, hw⟩ := h.sh.ins
  have g := h.mono (Nat.le_succ N)
  refine ⟨h.nt.put e hv, g.un.keep tk (k _ d1.symm), h.sh.keep tk fun c hc => k c ?_, h.ct, g.mv.keep tk (k _ d2.symm) fun c hc => k c ?_, g.fm.keep tk (k _ ?_), h.xw, h.dd, h.ll, fun c hc => ?_, g.sz⟩
  · rcases supF.mp hc with r | r | r | ⟨p, hp, r⟩
    · exact r ▸ ne_of hw e (by intro q; cases q)
    · exact r ▸ d4.symm
    · exact r ▸ d3.symm
    · obtain ⟨ps, hl, _⟩ := h.sh.tab.row p hp
      exact r ▸ nd _ _ hl
  · obtain ⟨xs, z⟩ := h.al c hc
    exact nd _ _ z
  · obtain ⟨xs, z, _⟩ := h.fm.ex
    exact nd _ _ z
  · obtain ⟨xs, z⟩ := h.al c hc
    exact ⟨xs, k c (nd _ _ z) _ z⟩
theorem LCore.atUn (h : LCore CS H x A s N) {kv kv' : List (Key × V)} {f : Int → Option Pl} {M : Nat} (l : N ≤ M) (e : H A.ud = some (.dK kv)) (hu : UnAt (upd H A.ud (.dK kv')) A.ud M f) : LCore CS (upd H A.ud (.dK kv')) x A { s with un := f } M := by
  obtain ⟨tk, k⟩ := h.others (o := .dK kv') e
  obtain ⟨d1, d2, d3, d4, d5, d6, d7, d8, d9, d10⟩ := dd_facts h.dd
  have nd : ∀ c xs, H c = some (.lst xs) → c ≠ A.ud := fun c xs z => ne_of z e (by intro q; cases q)
  obtain ⟨wdx, hw⟩ := h.sh.ins
  have g := h.mono l
  refine ⟨g.nt.keep tk (k _ d1), hu, h.sh.keep tk fun c hc => k c ?_, h.ct, g.mv.keep tk (k _ d5.symm) fun c hc => k c ?_, g.fm.keep tk (k _ ?_), h.xw, h.dd, h.ll, fun c hc => ?_, g.sz⟩
  · rcases supF.mp hc with r | r | r | ⟨p, hp, r⟩
    · exact r ▸ ne_of hw e (by intro q; cases q)
    · exact r ▸ d7.symm
    · exact r ▸ d6.symm
    · obtain ⟨ps, hl, _⟩ := h.sh.tab.row p hp
      exact r ▸ nd _ _ hl
  · obtain ⟨xs, z⟩ := h.al c hc
    exact nd _ _ z
  · obtain ⟨xs, z, _⟩ := h.fm.ex
    exact nd _ _ z
  · obtain ⟨xs, z⟩ := h.al c hc
    exact ⟨xs, k c (nd _ _ z) _ z⟩
/-- a step of the shelf's -/
theorem LCore.atSh (h : LCore CS H x A s N) {rd od : Addr} {os : List Str} {m : Tab} {lg : Option Int} {c' : Ct} {M : Nat} (l : N ≤ M) (hs : ShelfAt CS H' A.wx rd od false os m (oLg lg)) (hc : _root_.M.ct m = c') (st : Stp (ownS A.wx A.rd A.od A.sle A.sos A.m) H (ownS A.wx rd od false os m) H') (sp : ∀ c ∈ supS A.wx rd od m, c ∈ supS A.wx A.rd A.od A.m ∨ H c = none)
    (sz : m.length ≤ M ∧ ∀ p ∈ c', p.2.length ≤ M ∧ p.2.Pairwise fun a b => a.t ≤ b.t) : LCore CS H' x { A with rd := rd, od := od, sle := false, sos := os, m := m } { s with sh := c', lg := lg } M := by
  have tk := st.tk h.sh.ntup
  obtain ⟨d1, d2, d3, d4, d5, d6, d7, d8, d9, d10⟩ := dd_facts h.dd
  obtain ⟨wdx, hw⟩ := h.sh.ins
  -- what is no thing of the shelf's
  have out : ∀ c o, H c = some o → ¬ c ∈ supS A.wx A.rd A.od A.m → (H' c = some o ∧ ¬ c ∈ supS A.wx rd od m) := fun c o e n =>
    ⟨st.fr c o (fun z => n (own_sup z)) e, fun z => (sp c z).elim n fun y => by rw [e] at y; cases y⟩
  have dct : ∀ c kv, H c = some (.dK kv) → c ≠ A.od → c ≠ A.rd → ¬ c ∈ supS A.wx A.rd A.od A.m := fun c kv e n1 n2 z => by
    rcases supF.mp z with r | r | r | ⟨p, hp, r⟩
    · rw [r, hw] at e; cases e
    · exact n1 r
    · exact n2 r
    · obtain ⟨ps, hl, _⟩ := h.sh.tab.row p hp
      rw [← r, hl] at e; cases e
  have lst : ∀ c xs, H c = some (.lst xs) → ¬ c ∈ A.m.map (·.2.1) → ¬ c ∈ supS A.wx A.rd A.od A.m := fun c xs e n z => by
    rcases supF.mp z with r | r | r | ⟨p, hp, r⟩
    · rw [r, hw] at e; cases e
    · rw [r, h.sh.own] at e; cases e
    · rw [r, h.sh.tab.dict] at e; cases e
    · exact n (List.mem_map.mpr ⟨p, hp, r⟩)
  have g := h.mono l
  obtain ⟨k1, e1, _⟩ := h.nt.ex
  obtain ⟨k2, e2, _⟩ := h.un.ex
  obtain ⟨k3, e3, _⟩ := h.mv.ex
  obtain ⟨k4, e4, _⟩ := h.fm.ex
  have o1 := out _ _ e1 (dct _ _ e1 d4 d3)
  have o2 := out _ _ e2 (dct _ _ e2 d7 d6)
  have o3 := out _ _ e3 (dct _ _ e3 d9 d8)
  have o4 := out _ _ e4 (lst _ _ e4 h.ll.1)
  have ne : ∀ {c}, ¬ c ∈ supS A.wx rd od m → c ≠ rd ∧ c ≠ od ∧ ¬ c ∈ m.map (·.2.1) := fun n =>
    ⟨fun r => n (supF.mpr (.inr (.inr (.inl r)))), fun r => n (supF.mpr (.inr (.inl r))), fun r => by
      obtain ⟨p, hp, e⟩ := List.mem_map.mp r
      exact n (supF.mpr (.inr (.inr (.inr ⟨p, hp, e⟩))))⟩
  have fix : ∀ {d : Addr} {u : HO}, H d = some u → H' d = some u → ∀ o, H d = some o → H' d = some o := fun a b o z => by
    rw [a] at z
    cases z
    exact b
  refine ⟨g.nt.keep tk (fix e1 o1.1), g.un.keep tk (fix e2 o2.1), hs, hc, g.mv.keep tk (fix e3 o3.1) fun c hc o e => ?_, g.fm.keep tk (fix e4 o4.1), h.xw, dd_of d1 d2 (ne o1.2).1 (ne o1.2).2.1 d5 (ne o2.2).1 (ne o2.2).2.1 (ne o3.2).1 (ne o3.2).2.1 hs.nod.symm, ⟨(ne o4.2).2.2, fun c hc => ?_⟩, fun c hc => ?_, sz⟩
  · obtain ⟨xs, z⟩ := h.al c hc
    rw [z] at e
    cases e
    exact (out _ _ z (lst _ _ z (h.ll.2 c hc))).1
  · obtain ⟨xs, z⟩ := h.al c hc
    exact (ne (out _ _ z (lst _ _ z (h.ll.2 c hc))).2).2.2
  · obtain ⟨xs, z⟩ := h.al c hc
    exact ⟨xs, (out _ _ z (lst _ _ z (h.ll.2 c hc))).1⟩
end
def ldf (v0 v1 v2 v3 v4 v5 v6 v7 v8 v9 v10 : V) : List (Str × V) := [("at_house", v0), ("many_houses", v1), ("notes", v2), ("unended", v3), ("lent", v4), ("greatest_stamp", v5), ("greatest_serial", v6), ("greatest_mark", v7), ("worths", v8), ("moved", v9), ("forms", v10)]
section
variable (v0 v1 v2 v3 v4 v5 v6 v7 v8 v9 v10 : V)
theorem ldf_len : (ldf v0 v1 v2 v3 v4 v5 v6 v7 v8 v9 v10).length < 1000 := by show 11 < 1000; decide
theorem ldf_at_house : (ldf v0 v1 v2 v3 v4 v5 v6 v7 v8 v9 v10).lookup ("at_house" : Str) = some v0 := by unfold ldf; rw [lk_hit]
theorem ldp_at_house (u : V) : putF "at_house" u (ldf v0 v1 v2 v3 v4 v5 v6 v7 v8 v9 v10) = ldf u v1 v2 v3 v4 v5 v6 v7 v8 v9 v10 := by unfold ldf; rw [pf_hit]
theorem ldf_many_houses : (ldf v0 v1 v2 v3 v4 v5 v6 v7 v8 v9 v10).lookup ("many_houses" : Str) = some v1 := by unfold ldf; rw [lk_skip (by decide +kernel), lk_hit]
theorem ldp_many_houses (u : V) : putF "many_houses" u (ldf v0 v1 v2 v3 v4 v5 v6 v7 v8 v9 v10) = ldf v0 u v2 v3 v4 v5 v6 v7 v8 v9 v10 := by unfold ldf; rw [pf_skip (by decide +kernel), pf_hit]
theorem ldf_notes : (ldf v0 v1 v2 v3 v4 v5 v6 v7 v8 v9 v10).lookup ("notes" : Str) = some v2 := by unfold ldf; rw [lk_skip (by decide +kernel), lk_skip (by decide +kernel), lk_hit]
theorem ldp_notes (u : V) : putF "notes" u (ldf v0 v1 v2 v3 v4 v5 v6 v7 v8 v9 v10) = ldf v0 v1 u v3 v4 v5 v6 v7 v8 v9 v10 := by unfold ldf; rw [pf_skip (by decide +kernel), pf_skip (by decide +kernel), pf_hit]
theorem ldf_unended : (ldf v0 v1 v2 v3 v4 v5 v6 v7 v8 v9 v10).lookup ("unended" : Str) = some v3 := by unfold ldf; rw [lk_skip (by decide +kernel), lk_skip (by decide +kernel), lk_skip (by decide +kernel), lk_hit]
theorem ldp_unended (u : V) : putF "unended" u (ldf v0 v1 v2 v3 v4 v5 v6 v7 v8 v9 v10) = ldf v0 v1 v2 u v4 v5 v6 v7 v8 v9 v10 := by unfold ldf; rw [pf_skip (by decide +kernel), pf_skip (by decide +kernel), pf_skip (by decide +kernel), pf_hit]
theorem ldf_lent : (ldf v0 v1 v2 v3 v4 v5 v6 v7 v8 v9 v10).lookup ("lent" : Str) = some v4 := by unfold ldf; rw [lk_skip (by decide +kernel), lk_skip (by decide +kernel), lk_skip (by decide +kernel), lk_skip (by decide +kernel), lk_hit]
theorem ldp_lent (u : V) : putF "lent" u (ldf v0 v1 v2 v3 v4 v5 v6 v7 v8 v9 v10) = ldf v0 v1 v2 v3 u v5 v6 v7 v8 v9 v10 := by unfold ldf; rw [pf_skip (by decide +kernel), pf_skip (by decide +kernel), pf_skip (by decide +kernel), pf_skip (by decide +kernel), pf_hit]
theorem ldf_greatest_stamp : (ldf v0 v1 v2 v3 v4 v5 v6 v7 v8 v9 v10).lookup ("greatest_stamp" : Str) = some v5 := by unfold ldf; rw [lk_skip (by decide +kernel), lk_skip (by decide +kernel), lk_skip (by decide +kernel), lk_skip (by decide +kernel), lk_skip (by decide +kernel), lk_hit]
theorem ldp_greatest_stamp (u : V) : putF "greatest_stamp" u (ldf v0 v1 v2 v3 v4 v5 v6 v7 v8 v9 v10) = ldf v0 v1 v2 v3 v4 u v6 v7 v8 v9 v10 := by unfold ldf; rw [pf_skip (by decide +kernel), pf_skip (by decide +kernel), pf_skip (by decide +kernel), pf_skip (by decide +kernel), pf_skip (by decide +kernel), pf_hit]
theorem ldf_greatest_serial : (ldf v0 v1 v2 v3 v4 v5 v6 v7 v8 v9 v10).lookup ("greatest_serial" : Str) = some v6 := by unfold ldf; rw [lk_skip (by decide +kernel), lk_skip (by decide +kernel), lk_skip (by decide +kernel), lk_skip (by decide +kernel), lk_skip (by decide +kernel), lk_skip (by decide +kernel), lk_hit]
theorem ldp_greatest_serial (u : V) : putF "greatest_serial" u (ldf v0 v1 v2 v3 v4 v5 v6 v7 v8 v9 v10) = ldf v0 v1 v2 v3 v4 v5 u v7 v8 v9 v10 := by unfold ldf; rw [pf_skip (by decide +kernel), pf_skip (by decide +kernel), pf_skip (by decide +kernel), pf_skip (by decide +kernel), pf_skip (by decide +kernel), pf_skip (by decide +kernel), pf_hit]
theorem ldf_greatest_mark : (ldf v0 v1 v2 v3 v4 v5 v6 v7 v8 v9 v10).lookup ("greatest_mark" : Str) = some v7 := by unfold ldf; rw [lk_skip (by decide +kernel), lk_skip (by decide +kernel), lk_skip (by decide +kernel), lk_skip (by decide +kernel), lk_skip (by decide +kernel), lk_skip (by decide +kernel), lk_skip (by decide +kernel), lk_hit]
theorem ldp_greatest_mark (u : V) : putF "greatest_mark" u (ldf v0 v1 v2 v3 v4 v5 v6 v7 v8 v9 v10) = ldf v0 v1 v2 v3 v4 v5 v6 u v8 v9 v10 := by unfold ldf; rw [pf_skip (by decide +kernel), pf_skip (by decide +kernel), pf_skip (by decide +kernel), pf_skip (by decide +kernel), pf_skip (by decide +kernel), pf_skip (by decide +kernel), pf_skip (by decide +kernel), pf_hit]
theorem ldf_worths : (ldf v0 v1 v2 v3 v4 v5 v6 v7 v8 v9 v10).lookup ("worths" : Str) = some v8 := by unfold ldf; rw [lk_skip (by decide +kernel), lk_skip (by decide +kernel), lk_skip (by decide +kernel), lk_skip (by decide +kernel), lk_skip (by decide +kernel), lk_skip (by decide +kernel), lk_skip (by decide +kernel), lk_skip (by decide +kernel), lk_hit]
theorem ldp_worths (u : V) : putF "worths" u (ldf v0 v1 v2 v3 v4 v5 v6 v7 v8 v9 v10) = ldf v0 v1 v2 v3 v4 v5 v6 v7 u v9 v10 := by unfold ldf; rw [pf_skip (by decide +kernel), pf_skip (by decide +kernel), pf_skip (by decide +kernel), pf_skip (by decide +kernel), pf_skip (by decide +kernel), pf_skip (by decide +kernel), pf_skip (by decide +kernel), pf_skip (by decide +kernel), pf_hit]
theorem ldf_moved : (ldf v0 v1 v2 v3 v4 v5 v6 v7 v8 v9 v10).lookup ("moved" : Str) = some v9 := by unfold ldf; rw [lk_skip (by decide +kernel), lk_skip (by decide +kernel), lk_skip (by decide +kernel), lk_skip (by decide +kernel), lk_skip (by decide +kernel), lk_skip (by decide +kernel), lk_skip (by decide +kernel), lk_skip (by decide +kernel), lk_skip (by decide +kernel), lk_hit]
theorem ldp_moved (u : V) : putF "moved" u (ldf v0 v1 v2 v3 v4 v5 v6 v7 v8 v9 v10) = ldf v0 v1 v2 v3 v4 v5 v6 v7 v8 u v10 := by unfold ldf; rw [pf_skip (by decide +kernel), pf_skip (by decide +kernel), pf_skip (by decide +kernel), pf_skip (by decide +kernel), pf_skip (by decide +kernel), pf_skip (by decide +kernel), pf_skip (by decide +kernel), pf_skip (by decide +kernel), pf_skip (by decide +kernel), pf_hit]
theorem ldf_forms : (ldf v0 v1 v2 v3 v4 v5 v6 v7 v8 v9 v10).lookup ("forms" : Str) = some v10 := by unfold ldf; rw [lk_skip (by decide +kernel), lk_skip (by decide +kernel), lk_skip (by decide +kernel), lk_skip (by decide +kernel), lk_skip (by decide +kernel), lk_skip (by decide +kernel), lk_skip (by decide +kernel), lk_skip (by decide +kernel), lk_skip (by decide +kernel), lk_skip (by decide +kernel), lk_hit]
theorem ldp_forms (u : V) : putF "forms" u (ldf v0 v1 v2 v3 v4 v5 v6 v7 v8 v9 v10) = ldf v0 v1 v2 v3 v4 v5 v6 v7 v8 v9 u := by unfold ldf; rw [pf_skip (by decide +kernel), pf_skip (by decide +kernel), pf_skip (by decide +kernel), pf_skip (by decide +kernel), pf_skip (by decide +kernel), pf_skip (by decide +kernel), pf_skip (by decide +kernel), pf_skip (by decide +kernel), pf_skip (by decide +kernel), pf_skip (by decide +kernel), pf_hit]
theorem ldf_no {m : Str} (h0 : ¬ m = "at_house") (h1 : ¬ m = "many_houses") (h2 : ¬ m = "notes") (h3 : ¬ m = "unended") (h4 : ¬ m = "lent") (h5 : ¬ m = "greatest_stamp") (h6 : ¬ m = "greatest_serial") (h7 : ¬ m = "greatest_mark") (h8 : ¬ m = "worths") (h9 : ¬ m = "moved") (h10 : ¬ m = "forms") : (ldf v0 v1 v2 v3 v4 v5 v6 v7 v8 v9 v10).lookup m = none := by unfold ldf; rw [lk_skip h0, lk_skip h1, lk_skip h2, lk_skip h3, lk_skip h4, lk_skip h5, lk_skip h6, lk_skip h7, lk_skip h8, lk_skip h9, lk_skip h10]; rfl
theorem ldf_new : putF "forms" v10 (putF "moved" v9 (putF "worths" v8 (putF "greatest_mark" v7 (putF "greatest_serial" v6 (putF "greatest_stamp" v5 (putF "lent" v4 (putF "unended" v3 (putF "notes" v2 (putF "many_houses" v1 (putF "at_house" v0 ([]))))))))))) = ldf v0 v1 v2 v3 v4 v5 v6 v7 v8 v9 v10 := by
  have z : ∀ (k : Str) (v : V), putF k v [] = [(k, v)] := fun _ _ => rfl
  rw [z]
  repeat (first | rw [pf_skip (by decide +kernel)] | rw [z])
  rfl
end
structure LedgerAt (C CS : Addr) (H : Hp) (x : Addr) (hs hn : Int) (A : LA) (s : LS) (N : Nat) : Prop where
  of ::
  ins : ∃ dx gsv, H x = some (.ins C dx (ldf (.int hs) (.int hn) (.ref A.nd) (.ref A.ud) (.bl A.le) gsv (.int s.gser) (oLg s.gm) (.ref A.wx) (.ref A.md) (.ref A.fl))) ∧ TD H gsv (oSt s.gs)
  core : LCore CS H x A s N
section
variable {C CS : Addr} {H H' : Hp} {x : Addr} {hs hn : Int} {A : LA} {s : LS} {N : Nat}
theorem LedgerAt.keep (h : LedgerAt C CS H x hs hn A s N) (tk : Tk H H') (k : ∀ c ∈ supG x A, ∀ o, H c = some o → H' c = some o) : LedgerAt C CS H' x hs hn A s N := by
  obtain ⟨dx, gsv, e, t⟩ := h.ins
  exact ⟨⟨dx, gsv, k x (.head _) _ e, TD.tk tk t⟩, h.core.keep tk fun c hc => k c (.tail _ hc)⟩
theorem LedgerAt.same (h : LedgerAt C CS H x hs hn A s N) (k : Same H H') : LedgerAt C CS H' x hs hn A s N := h.keep (fun b xs e => k b _ e) fun c _ o e => k c o e
theorem LedgerAt.mono {M : Nat} (h : LedgerAt C CS H x hs hn A s N) (l : N ≤ M) : LedgerAt C CS H x hs hn A s M := ⟨h.ins, h.core.mono l⟩
theorem LedgerAt.ntup (h : LedgerAt C CS H x hs hn A s N) : ∀ c ∈ supG x A, ∀ xs, H c ≠ some (.tup xs) := fun c hc xs e => by
  obtain ⟨dx, gsv, e1, _⟩ := h.ins
  rcases List.mem_cons.mp hc with rfl | hc
  · rw [e1] at e; cases e
  · rcases h.core.kind hc with ⟨kv, z⟩ | ⟨ys, z⟩ | z
    · rw [e] at z; cases z
    · rw [e] at z; cases z
    · obtain ⟨w, hw⟩ := h.core.sh.ins
      rw [z, hw] at e; cases e
/-- of a pledge's entry -/
theorem pl_at {v : V} {p : Pl} (h : TD H v p.d) : ∃ q hv sv rv wv mv, v = .ref q ∧ H q = some (.tup [.str "pledge", .int p.n, .int p.home, hv, sv, rv, wv, mv]) ∧ TD H hv (.tuple (p.hs.map .int)) ∧ TD H sv p.st.d ∧ TD H rv (.tuple (p.rs.map .str)) ∧ TD H wv (.tuple (p.ws.map wrD)) ∧ TD H mv (moreD p.more) := by
  obtain ⟨q, xs, rfl, hq, t⟩ := td_tup h
  obtain ⟨_, _, rfl, t0, t⟩ := td_cons t
  obtain ⟨_, _, rfl, t1, t⟩ := td_cons t
  obtain ⟨_, _, rfl, t2, t⟩ := td_cons t
  obtain ⟨hv, _, rfl, t3, t⟩ := td_cons t
  obtain ⟨sv, _, rfl, t4, t⟩ := td_cons t
  obtain ⟨rv, _, rfl, t5, t⟩ := td_cons t
  obtain ⟨wv, _, rfl, t6, t⟩ := td_cons t
  obtain ⟨mv, _, rfl, t7, t⟩ := td_cons t
  rw [td_nil t, td_str t0, td_int t1, td_int t2] at hq
  exact ⟨q, hv, sv, rv, wv, mv, rfl, hq, t3, t4, t5, t6, t7⟩
theorem st_at {v : V} {st : St3} (h : TD H v st.d) : ∃ q, v = .ref q ∧ H q = some (.tup (st.l.map V.int)) := by
  obtain ⟨q, xs, rfl, hq, t⟩ := td_tup h
  obtain ⟨_, _, rfl, t0, t⟩ := td_cons t
  obtain ⟨_, _, rfl, t1, t⟩ := td_cons t
  obtain ⟨_, _, rfl, t2, t⟩ := td_cons t
  rw [td_nil t, td_int t0, td_int t1, td_int t2] at hq
  exact ⟨q, rfl, hq⟩
/-- what a ledger's dict of notes tells -/
theorem LedgerAt.noted (h : LedgerAt C CS H x hs hn A s N) (n : Int) : ∃ o, DGet H A.nd (.int n) o ∧ match o with
    | none => s.nt n = Nt.no
    | some v => TD H v (s.nt n).d := by
  obtain ⟨kv, e, _, g⟩ := h.core.nt.ex
  exact ⟨_, DGet.k (k := Sum.inl n) e, g n⟩
end
theorem LCore.own2 {CS : Addr} {H H' : Hp} {x : Addr} {A : LA} {s : LS} {N : Nat} (h : LCore CS H x A s N) {C dx : Addr} {fs : List (Str × V)} (hx : H x = some (.ins C dx fs)) {kn ku : List (Key × V)} (en : H A.nd = some (.dK kn)) (eu : H A.ud = some (.dK ku)) {p r : Addr} (np : H p = none) (nr : H r = none) (pr : p ≠ r) (hp : H' p = some (.dK kn)) (hr : H' r = some (.dK ku)) (k : ∀ b o, b ≠ x → H b = some o → H' b = some o) : LCore CS H' x { A with nd := p, ud := r, le := false } s N := by
  have tk : Tk H H' := fun b xs e => k b _ (ne_of e hx (by intro z; cases z)) e
  have kk : ∀ c ∈ supC A, ∀ o, H c = some o → H' c = some o := fun c hc o e => k c o (h.nx hx c hc) e
  have g := h.keep tk kk
  obtain ⟨d1, d2, d3, d4, d5, d6, d7, d8, d9, d10⟩ := dd_facts h.dd
  have al : ∀ c ∈ supC A, ∃ o, H c = some o := fun c hc => by
    rcases h.kind hc with ⟨kv, z⟩ | ⟨xs, z⟩ | z
    · exact ⟨_, z⟩
    · exact ⟨_, z⟩
    · obtain ⟨w, hw⟩ := h.sh.ins
      exact ⟨_, z ▸ hw⟩
  have ne : ∀ {c q : Addr}, c ∈ supC A → H q = none → q ≠ c := fun hc hq e => by
    obtain ⟨o, z⟩ := al _ hc
    rw [← e, hq] at z
    cases z
  have im : A.md ∈ supC A := supC_mem.mpr (.inr (.inr (.inl rfl)))
  have ir : A.rd ∈ supC A := supC_mem.mpr (.inr (.inr (.inr (.inr (.inr (supF.mpr (.inr (.inr (.inl rfl)))))))))
  have io : A.od ∈ supC A := supC_mem.mpr (.inr (.inr (.inr (.inr (.inr (supF.mpr (.inr (.inl rfl))))))))
  refine ⟨?_, ?_, g.sh, h.ct, g.mv, g.fm, h.xw, dd_of pr (ne im np) (ne ir np) (ne io np) (ne im nr) (ne ir nr) (ne io nr) d8 d9 d10, h.ll, g.al, h.sz⟩
  · obtain ⟨kv, e, l, t⟩ := h.nt.ex
    rw [en] at e
    cases e
    refine ⟨kn, hp, l, fun n => ?_⟩
    have := t n
    cases ev : valV kn (Sum.inl n) with
    | none => rw [ev] at this; exact this
    | some v => rw [ev] at this; exact TD.tk tk this
  · obtain ⟨kv, e, l, n1, n2, t⟩ := h.un.ex
    rw [eu] at e
    cases e
    refine ⟨ku, hr, l, n1, n2, fun n => ?_⟩
    have := t n
    cases ev : valV ku (Sum.inl n) with
    | none => rw [ev] at this; exact this
    | some v =>
      rw [ev] at this
      obtain ⟨p, e1, e2⟩ := this
      exact ⟨p, e1, TD.tk tk e2⟩
theorem setN_none {f : Int → Option Pl} {n : Int} (h : f n = none) : setN f n none = f := by
  funext j
  unfold setN
  by_cases c : j = n
  · rw [if_pos c, c, h]
  · rw [if_neg c]
theorem st3_lt (b a : St3) : b.l < a.l ↔ b.t < a.t ∨ (b.t = a.t ∧ (b.s < a.s ∨ (b.s = a.s ∧ b.h < a.h))) := by
  unfold St3.l
  rw [List.cons_lt_cons_iff, List.cons_lt_cons_iff, List.cons_lt_cons_iff]
  simp [List.not_lt_nil]
theorem gt3 (a b : St3) : Ob.lexAt (fun j => decide (a.l.getD j 0 = b.l.getD j 0)) (fun j => (fun a b => decide (b < a)) (a.l.getD j 0) (b.l.getD j 0)) ((fun n m => decide (n > m)) a.l.length b.l.length) 0 (min a.l.length b.l.length) = decide (b.l < a.l) := by
  show (if decide (a.t = b.t) = true then (if decide (a.s = b.s) = true then (if decide (a.h = b.h) = true then false else decide (b.h < a.h)) else decide (b.s < a.s)) else decide (b.t < a.t)) = _
  rw [decide_eq_decide.mpr (st3_lt b a)]
  by_cases h1 : a.t = b.t
  · rw [if_pos (decide_eq_true h1)]
    by_cases h2 : a.s = b.s
    · rw [if_pos (decide_eq_true h2)]
      by_cases h3 : a.h = b.h
      · rw [if_pos (decide_eq_true h3)]
        exact (decide_eq_false (by omega)).symm
      · rw [if_neg (by rw [decide_eq_false h3]; decide)]
        exact decide_eq_decide.mpr (by omega)
    · rw [if_neg (by rw [decide_eq_false h2]; decide)]
      exact decide_eq_decide.mpr (by omega)
  · rw [if_neg (by rw [decide_eq_false h1]; decide)]
    exact decide_eq_decide.mpr (by omega)
theorem iteNSDl {c A B : Prop} [Decidable c] (h : c) (b : B) : if (!decide c) = true then A else B := by
  rw [decide_eq_true h]
  exact iteF b
theorem len4 : 4 ≤ sizeLine := by decide
/-- what stands behind a word -/
def thD (m : Option More) (z : Str) : PyData := match m with
  | some (.move k to) => if ("move" : Str) = z then .tuple [.str k, .int to] else .none
  | some (.form t f) => if ("form" : Str) = z then .tuple [.int t, .int f] else .none
  | none => .none
theorem thD_mv {k z : Str} {to : Int} : thD (some (.move k to)) z = if ("move" : Str) = z then .tuple [.str k, .int to] else .none := rfl
theorem thD_fm {z : Str} {t f : Int} : thD (some (.form t f)) z = if ("form" : Str) = z then .tuple [.int t, .int f] else .none := rfl
def spStampIn : Sp := fun vs H Q _ => ∃ v p, vs = [v] ∧ TD H v (Pl.d p) ∧ ∀ u, TD H u p.st.d → Q u H
def spWritesIn : Sp := fun vs H Q _ => ∃ v p, vs = [v] ∧ TD H v (Pl.d p) ∧ ∀ u, TD H u (.tuple (p.ws.map wrD)) → Q u H
def spThings : Sp := fun vs H Q _ => ∃ v m z, vs = [v, .str z] ∧ TD H v (moreD m) ∧ ∀ u H', Same H H' → TD H' u (thD m z) → Q u H'
def spOf (z : Str) : Sp := fun vs H Q _ => ∃ v m, vs = [v] ∧ TD H v (moreD m) ∧ ∀ u H', Same H H' → TD H' u (thD m z) → Q u H'
def spIn (z : Str) : Sp := fun vs H Q _ => ∃ v p, vs = [v] ∧ TD H v (Pl.d p) ∧ ∀ u H', Same H H' → TD H' u (thD p.more z) → Q u H'
section
variable (C CS : Addr) (a : Nat → Addr)
def spLInit : Sp := fun vs H Q _ => ∃ (x dx : Addr) (hs hn : Int), vs = [.ref x, .int hs, .int hn] ∧ H x = some (.ins C dx []) ∧ ∀ A H', LedgerAt C CS H' x hs hn A LS.new 0 → A.le = false → (∀ b o, b ≠ x → H b = some o → H' b = some o) → (∀ c ∈ supC A, H c = none) → Q .non H'
def spLOwn : Sp := fun vs H Q _ => ∃ x hs hn A s N, vs = [.ref x] ∧ LedgerAt C CS H x hs hn A s N ∧ ∀ nd ud H', LedgerAt C CS H' x hs hn { A with nd := nd, ud := ud, le := false } s N → (∀ b o, b ≠ x → H b = some o → H' b = some o) → (A.le = false → nd = A.nd ∧ ud = A.ud) → (A.le = true → H nd = none ∧ H ud = none) → Q .non H'
def spNotedOf (K : PySem.W.Frag) : Sp := fun vs H Q _ => ∃ x hs hn A s N n, vs = [.ref x, .int n] ∧ LedgerAt C CS H x hs hn A s N ∧ ∀ p w1 w2 w3 w4, SqT K H p [w1, w2, w3, w4] → TD H w1 (oSr (s.nt n).w) → TD H w2 (oPl (s.nt n).p) → TD H w3 (oSt (s.nt n).st) → TD H w4 (oIn (s.nt n).low) → Q (.ref p) H
def spPart (f : Nt → PyData) : Sp := fun vs H Q _ => ∃ x hs hn A s N n, vs = [.ref x, .int n] ∧ LedgerAt C CS H x hs hn A s N ∧ ∀ v, TD H v (f (s.nt n)) → Q v H
def FrL (x : Addr) (A : LA) (H H' : Hp) : Prop := ∀ b o, b ≠ x → b ≠ A.nd → b ≠ A.ud → H b = some o → H' b = some o
def spNoteStamp : Sp := fun vs H Q _ => ∃ x hs hn A s N v st, vs = [.ref x, v] ∧ LedgerAt C CS H x hs hn A s N ∧ TD H v (St3.d st) ∧ ∀ H', LedgerAt C CS H' x hs hn A (s.stamp st) N → (∀ b o, b ≠ x → H b = some o → H' b = some o) → Q .non H'
def spNotePledge : Sp := fun vs H Q _ => ∃ x hs hn A s N v p, vs = [.ref x, v] ∧ LedgerAt C CS H x hs hn A s N ∧ A.le = false ∧ TD H v (Pl.d p) ∧ N + 2 ≤ 900 ∧ ∀ H', LedgerAt C CS H' x hs hn A (s.note (.pledge p)) (N + 2) → FrL x A H H' → Q .non H'
def spNoteSure : Sp := fun vs H Q _ => ∃ x hs hn A s N v n st low, vs = [.ref x, v] ∧ LedgerAt C CS H x hs hn A s N ∧ A.le = false ∧ TD H v (En.d (.sure n st low)) ∧ N + 2 ≤ 900 ∧ ∀ H', LedgerAt C CS H' x hs hn A (s.note (.sure n st low)) (N + 2) → FrL x A H H' → Q .non H'
def spNoteEnd : Sp := fun vs H Q _ => ∃ x hs hn A s N n, vs = [.ref x, .int n, .str "off"] ∧ LedgerAt C CS H x hs hn A s N ∧ A.le = false ∧ N + 2 ≤ 900 ∧ ∀ H', LedgerAt C CS H' x hs hn A (s.note (.off n)) (N + 2) → FrL x A H H' → Q .non H'
def spNoteMark : Sp := fun vs H Q _ => ∃ x hs hn A s N t, vs = [.ref x, .int t] ∧ LedgerAt C CS H x hs hn A s N ∧ ∀ H', LedgerAt C CS H' x hs hn A (s.note (.mark t)) N → (∀ b o, b ≠ x → H b = some o → H' b = some o) → Q .non H'
end
/-! ### steps of a ledger, beside tables of code objects -/
/-- new, or a table -/
def Nw (H : Hp) (c : Addr) : Prop := ∀ o, H c = some o → ∃ ps, o = .tbl ps
theorem Nw.of {H : Hp} {c : Addr} (h : H c = none) : Nw H c := fun o e => by rw [h] at e; cases e
structure LStp (x : Addr) (A : LA) (H : Hp) (A' : LA) (H' : Hp) : Prop where
  of ::
  fr : ∀ c o, ¬ c ∈ ownG x A → H c = some o → (∀ ps, o ≠ .tbl ps) → H' c = some o
  ow : ∀ c ∈ ownG x A', c ∈ ownG x A ∨ Nw H c
  sp : ∀ c ∈ supG x A', c ∈ supG x A ∨ Nw H c
section
variable {x : Addr} {A A1 A2 : LA} {H H1 H2 : Hp}
theorem ownG_sup {c : Addr} (h : c ∈ ownG x A) : c ∈ supG x A := by
  rcases List.mem_cons.mp h with h | h
  · exact h ▸ .head _
  · exact .tail _ (ownC_sup h)
theorem LStp.refl : LStp x A H A H := ⟨fun _ _ _ e _ => e, fun c h => .inl h, fun c h => .inl h⟩
theorem LStp.back (a : LStp x A H A1 H1) {c : Addr} (h : Nw H1 c) : c ∈ ownG x A ∨ Nw H c := by
  by_cases n : c ∈ ownG x A
  · exact .inl n
  · refine .inr fun o e => ?_
    by_cases t : ∃ ps, o = .tbl ps
    · exact t
    · exact h o (a.fr c o n e fun ps z => t ⟨ps, z⟩)
theorem LStp.trans (a : LStp x A H A1 H1) (b : LStp x A1 H1 A2 H2) : LStp x A H A2 H2 := by
  refine ⟨fun c o n e t => b.fr c o (fun z => ?_) (a.fr c o n e t) t, fun c hc => ?_, fun c hc => ?_⟩
  · rcases a.ow c z with y | y
    · exact n y
    · obtain ⟨ps, y⟩ := y o e
      exact t ps y
  · rcases b.ow c hc with h | h
    · exact a.ow c h
    · exact a.back h
  · rcases b.sp c hc with h | h
    · exact a.sp c h
    · exact (a.back h).imp ownG_sup id
theorem LStp.same (a : LStp x A H A1 H1) (k : Same H1 H2) : LStp x A H A1 H2 := ⟨fun c o n e t => k c o (a.fr c o n e t), a.ow, a.sp⟩
theorem LStp.pre (a : LStp x A H1 A1 H2) (k : Same H H1) : LStp x A H A1 H2 := ⟨fun c o n e t => a.fr c o n (k c o e) t, fun c h => (a.ow c h).imp id fun w o e => w o (k c o e), fun c h => (a.sp c h).imp id fun w o e => w o (k c o e)⟩
theorem LStp.ofX (k : ∀ b o, b ≠ x → H b = some o → H1 b = some o) : LStp x A H A H1 :=
  ⟨fun c o n e _ => k c o (fun z => n (z ▸ .head _)) e, fun c h => .inl h, fun c h => .inl h⟩
theorem LStp.ofL (hle : A.le = false) (k : FrL x A H H1) : LStp x A H A H1 :=
  ⟨fun c o n e _ => k c o (fun z => n (z ▸ .head _)) (fun z => n (.tail _ (ownC_mem.mpr (.inl ⟨hle, .inl z⟩)))) (fun z => n (.tail _ (ownC_mem.mpr (.inl ⟨hle, .inr z⟩)))) e, fun c h => .inl h, fun c h => .inl h⟩
theorem LStp.shelf {rd od : Addr} {os : List Str} {m : Tab} (st : Stp (ownS A.wx A.rd A.od A.sle A.sos A.m) H (ownS A.wx rd od false os m) H1) (sp : ∀ c ∈ supS A.wx rd od m, c ∈ supS A.wx A.rd A.od A.m ∨ H c = none) : LStp x A H { A with rd := rd, od := od, sle := false, sos := os, m := m } H1 := by
  refine ⟨fun c o n e _ => st.fr c o (fun z => n (.tail _ (ownC_mem.mpr (.inr z)))) e, fun c hc => ?_, fun c hc => ?_⟩
  · rcases List.mem_cons.mp hc with r | hc
    · exact .inl (r ▸ .head _)
    rcases ownC_mem.mp hc with ⟨h1, h2⟩ | h
    · exact .inl (.tail _ (ownC_mem.mpr (.inl ⟨h1, h2⟩)))
    · exact (st.ow c h).imp (fun z => .tail _ (ownC_mem.mpr (.inr z))) Nw.of
  · rcases List.mem_cons.mp hc with r | hc
    · exact .inl (r ▸ .head _)
    rcases supC_mem.mp hc with h | h | h | h | h | h
    · exact .inl (.tail _ (supC_mem.mpr (.inl h)))
    · exact .inl (.tail _ (supC_mem.mpr (.inr (.inl h))))
    · exact .inl (.tail _ (supC_mem.mpr (.inr (.inr (.inl h)))))
    · exact .inl (.tail _ (supC_mem.mpr (.inr (.inr (.inr (.inl h))))))
    · exact .inl (.tail _ (supC_mem.mpr (.inr (.inr (.inr (.inr (.inl h)))))))
    · exact (sp c h).imp (fun z => .tail _ (supC_mem.mpr (.inr (.inr (.inr (.inr (.inr z))))))) Nw.of
/-- its two dicts are its own -/
theorem LStp.own {nd ud : Addr} (k : ∀ b o, b ≠ x → H b = some o → H1 b = some o) (h1 : A.le = false → nd = A.nd ∧ ud = A.ud) (h2 : A.le = true → H nd = none ∧ H ud = none) : LStp x A H { A with nd := nd, ud := ud, le := false } H1 := by
  have g1 : (nd = A.nd ∧ A.le = false) ∨ Nw H nd := by
    cases e : A.le with
    | false => exact .inl ⟨(h1 e).1, rfl⟩
    | true => exact .inr (Nw.of (h2 e).1)
  have g2 : (ud = A.ud ∧ A.le = false) ∨ Nw H ud := by
    cases e : A.le with
    | false => exact .inl ⟨(h1 e).2, rfl⟩
    | true => exact .inr (Nw.of (h2 e).2)
  refine ⟨fun c o n e _ => k c o (fun z => n (z ▸ .head _)) e, fun c hc => ?_, fun c hc => ?_⟩
  · rcases List.mem_cons.mp hc with r | hc
    · exact .inl (r ▸ .head _)
    rcases ownC_mem.mp hc with ⟨_, h | h⟩ | h
    · rcases g1 with ⟨z, e⟩ | z
      · exact .inl (.tail _ (ownC_mem.mpr (.inl ⟨e, .inl (h.trans z)⟩)))
      · exact .inr (h ▸ z)
    · rcases g2 with ⟨z, e⟩ | z
      · exact .inl (.tail _ (ownC_mem.mpr (.inl ⟨e, .inr (h.trans z)⟩)))
      · exact .inr (h ▸ z)
    · exact .inl (.tail _ (ownC_mem.mpr (.inr h)))
  · rcases List.mem_cons.mp hc with r | hc
    · exact .inl (r ▸ .head _)
    rcases supC_mem.mp hc with h | h | h
    · rcases g1 with ⟨z, e⟩ | z
      · exact .inl (.tail _ (supC_mem.mpr (.inl (h.trans z))))
      · exact .inr (h ▸ z)
    · rcases g2 with ⟨z, e⟩ | z
      · exact .inl (.tail _ (supC_mem.mpr (.inr (.inl (h.trans z)))))
      · exact .inr (h ▸ z)
    · exact .inl (.tail _ (supC_mem.mpr (.inr (.inr h))))
end
theorem tabs_mut {T : List (Addr × Str)} {H H' : Hp} (t : LamX.Tabs T H) (k : ∀ b o, H b = some o → (∀ C dx fs, o ≠ .ins C dx fs) → (∀ xs, o ≠ .lst xs) → (∀ kv, o ≠ .dK kv) → H' b = some o) : LamX.Tabs T H' := fun p hp => by
  obtain ⟨ps, h1, h2, h3⟩ := t p hp
  refine ⟨ps, k _ _ h1 (fun _ _ _ z => by cases z) (fun _ z => by cases z) (fun _ z => by cases z), h2, fun pos cv hc => ?_⟩
  obtain ⟨c, e1, e2⟩ := h3 pos cv hc
  exact ⟨c, e1, k _ _ e2 (fun _ _ _ z => by cases z) (fun _ z => by cases z) (fun _ z => by cases z)⟩
section
variable {C CS : Addr} {H H' : Hp} {x : Addr} {hs hn : Int} {A : LA} {s : LS} {N : Nat}
/-- of what kinds a ledger's own things are -/
theorem LedgerAt.kinds (h : LedgerAt C CS H x hs hn A s N) : ∀ c ∈ supG x A, ∃ o, H c = some o ∧ ((∃ C dx fs, o = .ins C dx fs) ∨ (∃ xs, o = .lst xs) ∨ ∃ kv, o = .dK kv) := fun c hc => by
  obtain ⟨dx, gsv, e1, _⟩ := h.ins
  rcases List.mem_cons.mp hc with rfl | hc
  · exact ⟨_, e1, .inl ⟨_, _, _, rfl⟩⟩
  · rcases h.core.kind hc with ⟨kv, z⟩ | ⟨ys, z⟩ | z
    · exact ⟨_, z, .inr (.inr ⟨_, rfl⟩)⟩
    · exact ⟨_, z, .inr (.inl ⟨_, rfl⟩)⟩
    · obtain ⟨w, hw⟩ := h.core.sh.ins
      exact ⟨_, z ▸ hw, .inl ⟨_, _, _, rfl⟩⟩
/-- tables beside a step that leaves all but the ledger's own -/
theorem LedgerAt.tabs (h : LedgerAt C CS H x hs hn A s N) {T : List (Addr × Str)} (t : LamX.Tabs T H) (k : ∀ b o, ¬ b ∈ ownG x A → H b = some o → H' b = some o) : LamX.Tabs T H' :=
  tabs_mut t fun b o e n1 n2 n3 => k b o (fun z => by
    obtain ⟨o', e', z'⟩ := h.kinds b (ownG_sup z)
    rw [e] at e'
    cases e'
    rcases z' with ⟨_, _, _, r⟩ | ⟨_, r⟩ | ⟨_, r⟩
    · exact n1 _ _ _ r
    · exact n2 _ r
    · exact n3 _ r) e
end
theorem esC_putC {c : Ct} {k j : Str} {e : Ent} (h : j ≠ k) : esC (putC c k e) j = esC c j := by
  unfold esC putC
  have e1 : ∀ p : Str × List Ent, decide ((if p.1 = k then (p.1, p.2 ++ [e]) else p).1 = j) = decide (p.1 = j) := fun p => by
    by_cases z : p.1 = k <;> simp [z]
  split
  · induction c with
    | nil => rfl
    | cons p r ih =>
      rw [List.map_cons, List.find?_cons, List.find?_cons, e1]
      by_cases z : p.1 = j
      · rw [decide_eq_true z]
        have : ¬ p.1 = k := fun y => h (z.symm.trans y)
        simp [this]
      · rw [decide_eq_false z]
        by_cases hk : hasC r k = true
        · exact ih hk
        · have hc : ∀ q ∈ r, q.1 ≠ k := fun q hq e => hk (List.any_eq_true.mpr ⟨q, hq, decide_eq_true e⟩)
          have : r.map (fun q => if q.1 = k then (q.1, q.2 ++ [e]) else q) = r := by
            conv => rhs; rw [← List.map_id r]
            exact List.map_congr_left fun q hq => by rw [if_neg (hc q hq)]; rfl
          rw [this]
  · rw [List.find?_append]
    cases e2 : c.find? fun p => decide (p.1 = j) with
    | some p => rfl
    | none =>
      have : ([(k, [e])] : Ct).find? (fun p => decide (p.1 = j)) = none := by
        rw [List.find?_cons, decide_eq_false (fun z => h z.symm)]
        rfl
      rw [this]
      rfl
theorem esC_some {c : Ct} {q : Str × List Ent} (nd : (c.map (·.1)).Nodup) (hq : q ∈ c) : esC c q.1 = q.2 := esC_of nd hq rfl
theorem putC_keys (c : Ct) (k : Str) (e : Ent) : ∀ j, j ∈ (putC c k e).map (·.1) ↔ j ∈ c.map (·.1) ∨ j = k := fun j => by
  unfold putC
  split
  · rename_i hk
    have e1 : (c.map fun p => if p.1 = k then (p.1, p.2 ++ [e]) else p).map (·.1) = c.map (·.1) := by
      rw [List.map_map]
      refine List.map_congr_left fun p _ => ?_
      by_cases z : p.1 = k <;> simp [z]
    rw [e1]
    obtain ⟨q, hq, eq⟩ := List.any_eq_true.mp hk
    have : k ∈ c.map (·.1) := List.mem_map.mpr ⟨q, hq, of_decide_eq_true eq⟩
    exact ⟨.inl, fun h => h.elim id fun z => z ▸ this⟩
  · rw [List.map_append, List.mem_append]
    exact or_congr Iff.rfl List.mem_singleton
/-- lengths and times of a shelf with one more -/
theorem putC_sz {c : Ct} {k : Str} {e : Ent} {M : Nat} (nd : (c.map (·.1)).Nodup) (h : ∀ p ∈ c, p.2.length ≤ M ∧ p.2.Pairwise fun a b => a.t ≤ b.t) (hl : ∀ l, (esC c k).getLast? = some l → l.t ≤ e.t) : ∀ p ∈ putC c k e, p.2.length ≤ M + 1 ∧ p.2.Pairwise fun a b => a.t ≤ b.t := by
  intro p hp
  unfold putC at hp
  split at hp
  · obtain ⟨q, hq, rfl⟩ := List.mem_map.mp hp
    obtain ⟨h1, h2⟩ := h q hq
    by_cases z : q.1 = k
    · rw [if_pos z]
      refine ⟨by rw [List.length_append]; simp; exact h1, List.pairwise_append.mpr ⟨h2, List.pairwise_singleton _ _, fun a ha b hb => ?_⟩⟩
      cases List.mem_singleton.mp hb
      have e1 : esC c k = q.2 := esC_of nd hq z
      rcases List.eq_nil_or_concat q.2 with e2 | ⟨i, y, e2⟩
      · rw [e2] at ha; cases ha
      · rw [List.concat_eq_append] at e2
        have hy := hl y (by rw [e1, e2, List.getLast?_append]; rfl)
        rw [e2] at ha h2
        rcases List.mem_append.mp ha with ha | ha
        · have := (List.pairwise_append.mp h2).2.2 a ha y (.head _)
          omega
        · rw [List.mem_singleton.mp ha]
          exact hy
    · rw [if_neg z]
      exact ⟨by omega, h2⟩
  · rcases List.mem_append.mp hp with hp | hp
    · exact ⟨by have := (h p hp).1; omega, (h p hp).2⟩
    · rw [List.mem_singleton.mp hp]
      exact ⟨by show 1 ≤ M + 1; omega, List.pairwise_singleton _ _⟩
def entS (st : St3) (w : List Int) : Ent := ⟨st.t, st.s, st.h, w⟩
theorem putsW_take {c : Ct} {st : St3} {ws : List (Str × List Int)} {j : Nat} {w : Str × List Int} (h : ws[j]? = some w) : putsW c st (ws.take (j + 1)) = putC (putsW c st (ws.take j)) w.1 (entS st w.2) := by
  unfold putsW
  rw [List.take_add_one, h, List.foldl_append]
  rfl
theorem esC_puts {st : St3} : ∀ {ws : List (Str × List Int)} {c : Ct} {k : Str}, ¬ k ∈ ws.map (·.1) → esC (putsW c st ws) k = esC c k
  | [], c, k, _ => rfl
  | w :: r, c, k, h => by
    have h1 : k ≠ w.1 := fun e => h (e ▸ .head _)
    show esC (putsW (putC c w.1 _) st r) k = _
    rw [esC_puts fun z => h (.tail _ z), esC_putC h1]
/-- what a done one's writings ask -/
structure WsOk (c : Ct) (st : St3) (ws : List (Str × List Int)) : Prop where
  few : ws.length ≤ 5
  nd : (ws.map (·.1)).Nodup
  key : ∀ w ∈ ws, Kok w.1
  ent : ∀ w ∈ ws, (entS st w.2).Ok
  lt : ∀ w ∈ ws, ∀ l, (esC c w.1).getLast? = some l → l.lt (entS st w.2)
theorem TTL.one {a : Nat → Addr} : ∀ p ∈ TTL a, p.1 = a 91 → p.2 = ((("Ledger.note_done" : Str) ++ ".<locals>.") ++ "<lambda>") := fun p hp _ => by
  cases List.mem_singleton.mp hp
  rfl
theorem TTL.ne {a : Nat → Addr} {H : Hp} (t : LamX.Tabs (TTL a) H) : ∃ ps, H (a 91) = some (.tbl ps) := by
  obtain ⟨ps, h, _⟩ := t _ (.head _)
  exact ⟨ps, h⟩
section
variable {C CS : Addr} {H H' : Hp} {x : Addr} {hs hn : Int} {A : LA} {s : LS} {N : Nat}
/-- the dict of moves is another one: it, and a list in it, are new -/
theorem LCore.atMv (h : LCore CS H x A s N) {pd r : Addr} {f : Str → List (Int × Int)} {M : Nat} {xs : List V} (l : N ≤ M) (tk : Tk H H') (k : ∀ c ∈ supC A, ∀ o, H c = some o → H' c = some o) (np : H pd = none) (nr : H r = none) (hr : H' r = some (.lst xs)) (hm : MvAt H' pd (r :: A.mls) M f) : LCore CS H' x { A with md := pd, mls := r :: A.mls } { s with mv := f } M := by
  have g := (h.keep tk k).mono l
  obtain ⟨d1, d2, d3, d4, d5, d6, d7, d8, d9, d10⟩ := dd_facts h.dd
  have al : ∀ c ∈ supC A, ∃ o, H c = some o := fun c hc => by
    rcases h.kind hc with ⟨kv, z⟩ | ⟨xs, z⟩ | z
    · exact ⟨_, z⟩
    · exact ⟨_, z⟩
    · obtain ⟨w, hw⟩ := h.sh.ins
      exact ⟨_, z ▸ hw⟩
  have ne : ∀ {c q : Addr}, c ∈ supC A → H q = none → c ≠ q := fun hc hq e => by
    obtain ⟨o, z⟩ := al _ hc
    rw [e, hq] at z
    cases z
  have i1 : A.nd ∈ supC A := supC_mem.mpr (.inl rfl)
  have i2 : A.ud ∈ supC A := supC_mem.mpr (.inr (.inl rfl))
  have ir : A.rd ∈ supC A := supC_mem.mpr (.inr (.inr (.inr (.inr (.inr (supF.mpr (.inr (.inr (.inl rfl)))))))))
  have io : A.od ∈ supC A := supC_mem.mpr (.inr (.inr (.inr (.inr (.inr (supF.mpr (.inr (.inl rfl))))))))
  refine ⟨g.nt, g.un, g.sh, h.ct, hm, g.fm, h.xw, dd_of d1 (ne i1 np) d3 d4 (ne i2 np) d6 d7 (ne ir np).symm (ne io np).symm d10, ⟨h.ll.1, fun c hc => ?_⟩, fun c hc => ?_, g.sz⟩
  · rcases List.mem_cons.mp hc with e | hc
    · intro z
      obtain ⟨p, hp, e2⟩ := List.mem_map.mp z
      exact ne (supC_mem.mpr (.inr (.inr (.inr (.inr (.inr (supF.mpr (.inr (.inr (.inr ⟨p, hp, e2⟩)))))))))) (e ▸ nr) rfl
    · exact h.ll.2 c hc
  · rcases List.mem_cons.mp hc with e | hc
    · exact ⟨xs, e ▸ hr⟩
    · exact g.al c hc
theorem LCore.atFm (h : LCore CS H x A s N) {p : Addr} {f : List (Int × Int)} {M : Nat} (l : N ≤ M) (tk : Tk H H') (k : ∀ c ∈ supC A, ∀ o, H c = some o → H' c = some o) (np : Nw H p) (hm : FmAt H' p M f) : LCore CS H' x { A with fl := p } { s with fm := f } M := by
  have g := (h.keep tk k).mono l
  refine ⟨g.nt, g.un, g.sh, h.ct, g.mv, hm, h.xw, h.dd, ⟨fun z => ?_, h.ll.2⟩, g.al, g.sz⟩
  obtain ⟨q, hq, e2⟩ := List.mem_map.mp z
  obtain ⟨ps, hl, _⟩ := h.sh.tab.row q hq
  rw [e2] at hl
  obtain ⟨_, z⟩ := np _ hl
  cases z
end
section
variable {x : Addr} {A : LA} {H H1 : Hp}
theorem LStp.mvNew {pd r : Addr} (k : ∀ c o, ¬ c ∈ ownG x A → H c = some o → (∀ ps, o ≠ .tbl ps) → H1 c = some o) (np : Nw H pd) (nr : Nw H r) : LStp x A H { A with md := pd, mls := r :: A.mls } H1 := by
  refine ⟨k, fun c hc => .inl hc, fun c hc => ?_⟩
  rcases List.mem_cons.mp hc with e | hc
  · exact .inl (e ▸ .head _)
  rcases supC_mem.mp hc with h | h | h | h | h | h
  · exact .inl (.tail _ (supC_mem.mpr (.inl h)))
  · exact .inl (.tail _ (supC_mem.mpr (.inr (.inl h))))
  · exact .inr (h ▸ np)
  · exact .inl (.tail _ (supC_mem.mpr (.inr (.inr (.inr (.inl h))))))
  · rcases List.mem_cons.mp h with h | h
    · exact .inr (h ▸ nr)
    · exact .inl (.tail _ (supC_mem.mpr (.inr (.inr (.inr (.inr (.inl h)))))))
  · exact .inl (.tail _ (supC_mem.mpr (.inr (.inr (.inr (.inr (.inr h)))))))
theorem LStp.fmNew {p : Addr} (k : ∀ c o, ¬ c ∈ ownG x A → H c = some o → (∀ ps, o ≠ .tbl ps) → H1 c = some o) (np : Nw H p) : LStp x A H { A with fl := p } H1 := by
  refine ⟨k, fun c hc => .inl hc, fun c hc => ?_⟩
  rcases List.mem_cons.mp hc with e | hc
  · exact .inl (e ▸ .head _)
  rcases supC_mem.mp hc with h | h | h | h | h | h
  · exact .inl (.tail _ (supC_mem.mpr (.inl h)))
  · exact .inl (.tail _ (supC_mem.mpr (.inr (.inl h))))
  · exact .inl (.tail _ (supC_mem.mpr (.inr (.inr (.inl h)))))
  · exact .inr (h ▸ np)
  · exact .inl (.tail _ (supC_mem.mpr (.inr (.inr (.inr (.inr (.inl h)))))))
  · exact .inl (.tail _ (supC_mem.mpr (.inr (.inr (.inr (.inr (.inr h)))))))
end
theorem moreOf_some {s : LS} {st : St3} {p : Pl} : s.moreOf st p.more = match p.more with
    | none => s
    | some (.move k to) => { s with mv := setK s.mv k (s.mv k ++ [(st.t, to)]) }
    | some (.form t f) => { s with fm := (s.fm ++ [(t, f)]).mergeSort keyLe } := by
  cases p.more with
  | none => rfl
  | some m => cases m <;> rfl
def LS.done1 (s : LS) (n : Int) (st : St3) (p : Pl) : LS := { s.done0 n st with sh := putsW s.sh st p.ws }
theorem note_done {s : LS} {n : Int} {st : St3} {p : Pl} (h : (s.nt n).p = some p) : s.note (.done n st) = (s.done1 n st p).moreOf st p.more := by
  show (match (s.nt n).p with | none => s.done0 n st | some p => { s.done0 n st with sh := putsW s.sh st p.ws }.moreOf st p.more) = _
  rw [h]
  rfl
def spNoteDone (C CS : Addr) (a : Nat → Addr) : Sp := fun vs H Q _ => ∃ x hs hn A s N v n st p, vs = [.ref x, v] ∧ LedgerAt C CS H x hs hn A s N ∧ A.le = false ∧ TD H v (En.d (.done n st)) ∧ (s.nt n).p = some p ∧ WsOk s.sh st p.ws ∧ N + 8 ≤ 900 ∧ LamX.Tabs (TTL a) H ∧
  ∀ A' H', LedgerAt C CS H' x hs hn A' (s.note (.done n st)) (N + 8) → A'.le = false → LStp x A H A' H' → LamX.Tabs (TTL a) H' → Tk H H' → Q .non H'
theorem td_pairs {H : Hp} : ∀ {xs : List V} {fm : List (Int × Int)}, TDAll H xs (fm.map prD) → ∃ ps : List (V × Int × Int), ps.map (·.1) = xs ∧ ps.map (·.2) = fm ∧ ∀ z ∈ ps, TD H z.1 (prD z.2)
  | _, [], h => by
    cases td_nil h
    exact ⟨[], rfl, rfl, fun z hz => by cases hz⟩
  | _, p :: r, h => by
    obtain ⟨v, vs, rfl, h1, h2⟩ := td_cons h
    obtain ⟨ps, e1, e2, g⟩ := td_pairs h2
    refine ⟨(v, p) :: ps, by rw [List.map_cons, e1], by rw [List.map_cons, e2], fun z hz => ?_⟩
    rcases List.mem_cons.mp hz with rfl | hz
    · exact h1
    · exact g z hz
theorem td_of_pairs {H : Hp} : ∀ {ps : List (V × Int × Int)}, (∀ z ∈ ps, TD H z.1 (prD z.2)) → TDAll H (ps.map (·.1)) ((ps.map (·.2)).map prD)
  | [], _ => .nil
  | z :: r, h => .cons (h z (.head _)) (td_of_pairs fun y hy => h y (.tail _ hy))
def NoteOk (s : LS) : En → Prop
  | .done n st => ∃ p, (s.nt n).p = some p ∧ WsOk s.sh st p.ws
  | _ => True
def spNote (C CS : Addr) (a : Nat → Addr) : Sp := fun vs H Q _ => ∃ x hs hn A s N v e, vs = [.ref x, v] ∧ LedgerAt C CS H x hs hn A s N ∧ TD H v (En.d e) ∧ NoteOk s e ∧ N + 8 ≤ 900 ∧ LamX.Tabs (TTL a) H ∧
  ∀ A' H', LedgerAt C CS H' x hs hn A' (s.note e) (N + 8) → LStp x A H A' H' → LamX.Tabs (TTL a) H' → Tk H H' → Q .non H'
theorem goC_sz {c : Ct} {t : Int} {M : Nat} (h : ∀ p ∈ c, p.2.length ≤ M ∧ p.2.Pairwise fun a b => a.t ≤ b.t) : ∀ p ∈ goC t c, p.2.length ≤ M ∧ p.2.Pairwise fun a b => a.t ≤ b.t := fun p hp => by
  unfold goC at hp
  obtain ⟨q, hq, rfl⟩ := List.mem_map.mp hp
  obtain ⟨h1, h2⟩ := h q hq
  unfold goE
  refine ⟨?_, List.Pairwise.sublist (List.drop_sublist _ _) h2⟩
  rw [List.length_drop]
  omega
theorem lgMax_o (g : Option Int) (t : Int) : lgMax (oLg g) t = oLg (match g with | none => some t | some g => if g < t then some t else some g) := by
  cases g with
  | none => rfl
  | some g =>
    show (if g < t then V.int t else V.int g) = oLg (if g < t then some t else some g)
    by_cases c : g < t
    · rw [if_pos c, if_pos c]; rfl
    · rw [if_neg c, if_neg c]; rfl
theorem LgK_o (g : Option Int) : LgK (oLg g) := by
  cases g with
  | none => exact .inl rfl
  | some g => exact .inr ⟨g, rfl⟩
section
variable (C CS : Addr)
def spPending : Sp := fun vs H Q _ => ∃ x hs hn A s N, vs = [.ref x] ∧ LedgerAt C CS H x hs hn A s N ∧ ∀ p (ns : List Int) H', Same H H' → H p = none → H' p = some (.lst (ns.map V.int)) → ns.Pairwise (· < ·) → (∀ n, n ∈ ns ↔ (s.un n).isSome = true) → ns.length ≤ N → Q (.ref p) H'
def spLastStamp : Sp := fun vs H Q _ => ∃ x hs hn A s N, vs = [.ref x] ∧ LedgerAt C CS H x hs hn A s N ∧ ∀ v H', Same H H' → TD H' v (St3.d (s.gs.getD ⟨-1, 0, hs⟩)) → Q v H'
def spLastSerial : Sp := fun vs H Q _ => ∃ x hs hn A s N, vs = [.ref x] ∧ LedgerAt C CS H x hs hn A s N ∧ Q (.int s.gser) H
def spLastMark : Sp := fun vs H Q _ => ∃ x hs hn A s N, vs = [.ref x] ∧ LedgerAt C CS H x hs hn A s N ∧ Q (.int (s.gm.getD (-1))) H
end
theorem int_keys : ∀ {kv : List (Key × V)}, (kv.map (·.1)).Nodup → (∀ k ∈ kv.map (·.1), ∃ i : Int, k = Sum.inl i) → ∃ ks : List Int, kv.map (·.1) = ks.map Sum.inl ∧ ks.Nodup ∧ (kv.map fun kv => kV kv.1) = ks.map V.int
  | [], _, _ => ⟨[], rfl, List.nodup_nil, rfl⟩
  | p :: r, hn, hk => by
    obtain ⟨a, b⟩ := List.nodup_cons.mp hn
    obtain ⟨ks, e1, e2, e3⟩ := int_keys (kv := r) b fun k h => hk k (.tail _ h)
    obtain ⟨i, ei⟩ := hk p.1 (.head _)
    refine ⟨i :: ks, by rw [List.map_cons, e1, ei]; rfl, List.nodup_cons.mpr ⟨fun h => a ?_, e2⟩, by rw [List.map_cons, e3, ei]; rfl⟩
    show p.1 ∈ r.map (·.1)
    rw [e1, ei]
    exact List.mem_map_of_mem h
theorem val_some_iff {kv : List (Key × V)} {k : Key} : (valV kv k).isSome = true ↔ k ∈ kv.map (·.1) := by
  unfold valV
  rw [Option.isSome_map]
  constructor
  · intro h
    obtain ⟨p, hp⟩ := Option.isSome_iff_exists.mp h
    have h1 := List.mem_of_find?_eq_some hp
    have h2 := List.find?_some hp
    exact List.mem_map.mpr ⟨p, h1, of_decide_eq_true h2⟩
  · intro h
    obtain ⟨p, hp, e⟩ := List.mem_map.mp h
    exact List.find?_isSome.mpr ⟨p, hp, decide_eq_true e⟩
theorem lt_of_le_nodup {ns : List Int} (h : ns.Pairwise (· ≤ ·)) (n : ns.Nodup) : ns.Pairwise (· < ·) := (h.and n).imp fun {a b} z => by
  have := z.1
  have := z.2
  omega
/-! ### what a ledger tells of open ones, its safe time -/
def spPlTimes : Sp := fun vs H Q _ => ∃ (a : Addr) (us : List V) (ps : List Pl), vs = [.ref a] ∧ H a = some (.lst us) ∧ TDAll H us (ps.map Pl.d) ∧ ps.length ≤ 900 ∧ ∀ p H', Same H H' → H p = none → H' p = some (.lst ((ps.map fun q => q.st.t).map V.int)) → Q (.ref p) H'
def spPendPl (C CS : Addr) : Sp := fun vs H Q _ => ∃ x hs hn A s N, vs = [.ref x] ∧ LedgerAt C CS H x hs hn A s N ∧ N ≤ 900 ∧ ∀ p us (ns : List Int) (ps : List Pl) H', Same H H' → H p = none → H' p = some (.lst us) → TDAll H' us (ps.map Pl.d) → ns.Pairwise (· < ·) → (∀ n, n ∈ ns ↔ (s.un n).isSome = true) → ps.map some = ns.map s.un → ps.length ≤ N → Q (.ref p) H'
def mostS (s : LS) (hs : Int) : Int := if (s.gs.getD ⟨-1, 0, hs⟩).t - 1 > s.gm.getD (-1) then (s.gs.getD ⟨-1, 0, hs⟩).t - 1 else s.gm.getD (-1)
/-- a ledger's safe time -/
structure SafeOf (s : LS) (hs m : Int) : Prop where
  le : m ≤ mostS s hs
  lt : ∀ n p, s.un n = some p → m ≤ p.st.t - 1
  at_ : m = mostS s hs ∨ ∃ n p, s.un n = some p ∧ m = p.st.t - 1
theorem SafeOf.uniq {s : LS} {hs m m' : Int} (a : SafeOf s hs m) (b : SafeOf s hs m') : m = m' := by
  have h1 : m ≤ m' := by
    rcases b.at_ with e | ⟨n, p, h, e⟩
    · rw [e]; exact a.le
    · rw [e]; exact a.lt n p h
  have h2 : m' ≤ m := by
    rcases a.at_ with e | ⟨n, p, h, e⟩
    · rw [e]; exact b.le
    · rw [e]; exact b.lt n p h
  omega
def spSafe (C CS : Addr) : Sp := fun vs H Q _ => ∃ x hs hn A s N, vs = [.ref x] ∧ LedgerAt C CS H x hs hn A s N ∧ N ≤ 900 ∧ ∀ m H', Same H H' → SafeOf s hs m → Q (.int m) H'
/-! ### where keys are -/
def lastUp {α : Type} (rows : List (Int × α)) (t : Int) : Option α := (rows.reverse.find? fun p => decide (p.1 ≤ t)).map (·.2)
def spLastUp (K : PySem.W.Frag) : Sp := fun vs H Q _ => ∃ (l : Addr) (zs : List (V × Int × V)) (t : Int) (o : V), vs = [.ref l, .int t, o] ∧ SqL K H l (zs.map (·.1)) ∧ (∀ z ∈ zs, ∃ p, z.1 = .ref p ∧ SqT K H p [.int z.2.1, z.2.2]) ∧ Q ((lastUp (zs.map (·.2)) t).getD o) H
theorem lastUp_map {α β : Type} (f : α → β) (rows : List (Int × α)) (t : Int) : lastUp (rows.map fun p => (p.1, f p.2)) t = (lastUp rows t).map f := by
  unfold lastUp
  rw [← List.map_reverse, List.find?_map]
  show Option.map _ (Option.map _ (rows.reverse.find? fun p => decide (p.1 ≤ t))) = _
  cases rows.reverse.find? fun p => decide (p.1 ≤ t) <;> rfl
theorem lastUp_snoc {α : Type} (rows : List (Int × α)) (p : Int × α) (t : Int) : lastUp (rows ++ [p]) t = if p.1 ≤ t then some p.2 else lastUp rows t := by
  unfold lastUp
  rw [List.reverse_append]
  show Option.map _ ((p :: rows.reverse).find? _) = _
  rw [List.find?_cons]
  by_cases c : p.1 ≤ t
  · rw [decide_eq_true c, if_pos c]; rfl
  · rw [decide_eq_false c, if_neg c]
/-- pairs of numbers, raw -/
theorem prs_at {K : PySem.W.Frag} {H : Hp} : ∀ {xs : List V} {ps : List (Int × Int)}, TDAll H xs (ps.map prD) → ∃ zs : List (V × Int × V), zs.map (·.1) = xs ∧ zs.map (·.2) = ps.map (fun p => (p.1, V.int p.2)) ∧ ∀ z ∈ zs, ∃ p, z.1 = .ref p ∧ SqT K H p [.int z.2.1, z.2.2]
  | _, [], h => by
    cases td_nil h
    exact ⟨[], rfl, rfl, fun z hz => by cases hz⟩
  | _, p :: r, h => by
    obtain ⟨v, xs, rfl, h1, h2⟩ := td_cons h
    obtain ⟨zs, e1, e2, e3⟩ := prs_at (K := K) h2
    obtain ⟨q, ys, rfl, hq, t⟩ := td_tup h1
    obtain ⟨_, _, rfl, t0, t⟩ := td_cons t
    obtain ⟨_, _, rfl, t1, t⟩ := td_cons t
    rw [td_nil t, td_int t0, td_int t1] at hq
    refine ⟨(.ref q, p.1, .int p.2) :: zs, by rw [List.map_cons, e1], by rw [List.map_cons, e2]; rfl, fun z hz => ?_⟩
    rcases List.mem_cons.mp hz with rfl | hz
    · exact ⟨q, rfl, SqT.of hq⟩
    · exact e3 z hz
def sumK (k : Str) : Int := ((k.cps.toList.map fun c : Nat => (c : Int) - 97)).sum
def firstK (k : Str) (hn : Int) : Int := sumK k % hn
def spFirst0 : Sp := fun vs H Q _ => ∃ k hn, vs = [.str k, .int hn] ∧ k.cps.toList.length ≤ 100 ∧ 0 < hn ∧ ∀ H', Same H H' → Q (.int (firstK k hn)) H'
def spHouseOf (C CS : Addr) : Sp := fun vs H Q _ => ∃ x hs hn A s N k, vs = [.ref x, .str k] ∧ LedgerAt C CS H x hs hn A s N ∧ k.cps.toList.length ≤ 100 ∧ 0 < hn ∧ ∀ H', Same H H' → Q (.int (match (s.mv k).getLast? with | some p => p.2 | none => firstK k hn)) H'
def spHouseAt (C CS : Addr) : Sp := fun vs H Q _ => ∃ x hs hn A s N k t, vs = [.ref x, .str k, .int t] ∧ LedgerAt C CS H x hs hn A s N ∧ k.cps.toList.length ≤ 100 ∧ 0 < hn ∧ ∀ H', Same H H' → Q (.int ((lastUp (s.mv k) t).getD (firstK k hn))) H'
def spFieldsAt (C CS : Addr) : Sp := fun vs H Q _ => ∃ x hs hn A s N t, vs = [.ref x, .int t] ∧ LedgerAt C CS H x hs hn A s N ∧ ∀ H', Same H H' → Q (oLg (lastUp s.fm t)) H'
theorem sum_sub : ∀ (cs : List Nat), ((cs.map fun c : Nat => (c : Int))).sum - 97 * (cs.length : Int) = ((cs.map fun c : Nat => (c : Int) - 97)).sum
  | [] => rfl
  | c :: r => by
    have := sum_sub r
    simp only [List.map_cons, List.sum_cons, List.length_cons]
    omega
theorem td_last {H : Hp} : ∀ {ds : List PyData} {xs : List V} {d : PyData}, TDAll H xs (ds ++ [d]) → ∃ ys v, xs = ys ++ [v] ∧ TD H v d
  | [], xs, d, h => by
    obtain ⟨v, r, rfl, h1, h2⟩ := td_cons h
    cases td_nil h2
    exact ⟨[], v, rfl, h1⟩
  | e :: r, xs, d, h => by
    obtain ⟨v, r', rfl, h1, h2⟩ := td_cons (ds := r ++ [d]) h
    obtain ⟨ys, w, rfl, h3⟩ := td_last h2
    exact ⟨v :: ys, w, rfl, h3⟩

/-! max of a list of stamps -/
namespace MX
open PySem PySem.Spec PyProof.Rows L2 PySem.W
theorem lt3 (a b : St3) : dataLt a.d b.d = decide (a.l < b.l) := by
  have e1 : ∀ {x y : Int} {xs ys : List PyData}, PyProof.Rows.lexLt itemOrd (keyToksAll (.int x :: xs)) (keyToksAll (.int y :: ys)) = if x = y then PyProof.Rows.lexLt itemOrd (keyToksAll xs) (keyToksAll ys) else decide (x < y) := fun {x y xs ys} => by
    rw [dataLt_cons (by simp only [alike])]
    have : PyData.eqv (.int x) (.int y) = decide (x = y) := by
      simp only [PyData.eqv]
      rw [Bool.eq_iff_iff, beq_iff_eq, decide_eq_true_eq]
    rw [this, dataLt_int]
    by_cases h : x = y
    · rw [if_pos h, if_pos (decide_eq_true h)]
    · rw [if_neg h, if_neg (by rw [decide_eq_false h]; decide)]
  unfold St3.d
  rw [dataLt_tuple, e1, e1, e1, lex_irrefl, decide_eq_decide.mpr (st3_lt a b)]
  by_cases h1 : a.t = b.t
  · rw [if_pos h1]
    by_cases h2 : a.s = b.s
    · rw [if_pos h2]
      by_cases h3 : a.h = b.h
      · rw [if_pos h3]
        exact (decide_eq_false (by omega)).symm
      · rw [if_neg h3]
        exact decide_eq_decide.mpr (by omega)
    · rw [if_neg h2]
      exact decide_eq_decide.mpr (by omega)
  · rw [if_neg h1]
    exact decide_eq_decide.mpr (by omega)
theorem l_lt_trans {a b c : St3} (h1 : ¬ b.l < a.l) (h2 : ¬ c.l < b.l) : ¬ c.l < a.l := by
  rw [st3_lt] at *
  omega
def best (x : St3) (xs : List St3) : St3 := xs.foldl (fun a y => if a.l < y.l then y else a) x
theorem best_max : ∀ (xs : List St3) (x : St3), best x xs ∈ x :: xs ∧ ∀ z : St3, z ∈ x :: xs → ¬ (best x xs).l < z.l
  | [], x => ⟨.head _, fun z hz => by
    rw [List.mem_singleton.mp hz]
    intro h
    have : best x [] = x := rfl
    rw [this, st3_lt] at h
    omega⟩
  | y :: r, x => by
    show best (if x.l < y.l then y else x) r ∈ _ ∧ ∀ z : St3, z ∈ _ → ¬ (best (if x.l < y.l then y else x) r).l < z.l
    obtain ⟨a, b⟩ := best_max r (if x.l < y.l then y else x)
    have b0 := b _ (.head _)
    refine ⟨?_, fun z hz => ?_⟩
    · rcases List.mem_cons.mp a with e | e
      · rw [e]
        by_cases c : x.l < y.l
        · rw [if_pos c]; exact .tail _ (.head _)
        · rw [if_neg c]; exact .head _
      · exact .tail _ (.tail _ e)
    · generalize best (if x.l < y.l then y else x) r = m at b b0
      rcases List.mem_cons.mp hz with e | hz
      · subst e
        refine l_lt_trans (b := if z.l < y.l then y else z) ?_ b0
        by_cases c : z.l < y.l
        · rw [if_pos c]; rw [st3_lt] at *; omega
        · rw [if_neg c]; rw [st3_lt] at *; omega
      rcases List.mem_cons.mp hz with e | hz
      · subst e
        refine l_lt_trans (b := if x.l < z.l then z else x) ?_ b0
        by_cases c : x.l < z.l
        · rw [if_pos c]; rw [st3_lt] at *; omega
        · rw [if_neg c]; exact c
      · exact b z (.tail _ hz)
theorem maxD_best : ∀ (xs : List St3) (x : St3), maxD x.d (xs.map St3.d) = (best x xs).d
  | [], x => rfl
  | y :: r, x => by
    have := maxD_best r (if x.l < y.l then y else x)
    unfold maxD best at *
    rw [List.map_cons, List.foldl_cons, List.foldl_cons, ← this, lt3]
    by_cases c : x.l < y.l
    · rw [if_pos c, if_pos (decide_eq_true c)]
    · rw [if_neg c, if_neg (by rw [decide_eq_false c]; decide)]
theorem st3_d {a b : St3} (h : a.d = b.d) : a = b := by
  cases a; cases b
  unfold St3.d at h
  injection h with h
  injection h with h1 h
  injection h with h2 h
  injection h with h3 _
  injection h1 with h1
  injection h2 with h2
  injection h3 with h3
  simp only at h1 h2 h3
  rw [h1, h2, h3]
theorem depth_st (ss : List St3) : PyData.depthAll (ss.map St3.d) ≤ 1 := by
  induction ss with
  | nil => simp [PyData.depthAll]
  | cons s r ih =>
    rw [List.map_cons]
    simp only [PyData.depthAll, St3.d, PyData.depth]
    omega
def rMaxS (K : PySem.W.Frag) : List V → Hp → VK → Prop := fun vs H Q => ∃ (a : Addr) (us : List V) (ss : List St3), vs = [.ref a] ∧ SqL K H a us ∧ TDAll H us (ss.map St3.d) ∧ 0 < ss.length ∧ ∀ (i : Nat) (v : V) (y : St3), us[i]? = some v → ss[i]? = some y → (∀ z : St3, z ∈ ss → ¬ y.l < z.l) → Q v H
theorem cr_maxS {X : Cx} {k : Nat} (hc : X.calm = true) (hr : Room k X.A) : CallR X (.builtin "max") (rMaxS X.K) := by
  intro pins s σ H vs us Q I r h
  obtain ⟨a, ws, ss, rfl, hs, ht, hne, q⟩ := h
  obtain ⟨its, rv, hl, _⟩ := I.list hs
  rw [Vals.ref1 r]
  obtain ⟨x, xs, rfl⟩ : ∃ x xs, ss = x :: xs := by
    cases ss with
    | nil => exact absurd hne (by decide)
    | cons x xs => exact ⟨x, xs, rfl⟩
  obtain ⟨as, rd⟩ := Dp.readsAll I _ _ _ (TDAll.dp (K := X.K) ht) rv
  have hu := hr.units
  have hd := depth_st (x :: xs)
  rw [List.map_cons] at rd hd
  refine max_list_data (I.ok.hd hc) hl.isList rd ⟨fun a ha b hb => ?_, fun a ha z => ?_⟩ (by omega) fun i v h' tk bs hv rm k => ?_
  · rw [← List.map_cons] at ha hb
    obtain ⟨a, _, rfl⟩ := List.mem_map.mp ha
    obtain ⟨b, _, rfl⟩ := List.mem_map.mp hb
    show alike (.tuple _) (.tuple _) = true
    simp only [alike, alikeAll, Bool.and_self]
  · rw [← List.map_cons] at ha
    obtain ⟨a, _, rfl⟩ := List.mem_map.mp ha
    cases z
  · have hi : i < its.length := by
      have := (Array.getElem?_eq_some_iff.mp hv).1
      simpa using this
    have hv' : its[i]? = some v := by
      rw [← hv]
      simp
    have lw := rv.length
    have lt := TDAll.len ht
    rw [List.length_map] at lt
    have hwi : i < ws.length := by omega
    obtain ⟨w, hw⟩ : ∃ w, ws[i]? = some w := ⟨_, List.getElem?_eq_getElem hwi⟩
    have hyi : i < (x :: xs).length := by omega
    obtain ⟨y, hy⟩ : ∃ y, (x :: xs)[i]? = some y := ⟨_, List.getElem?_eq_getElem hyi⟩
    have rel : RelV w v := by
      obtain ⟨v2, h2, r2⟩ := rv.get hw
      rw [hv'] at h2
      cases h2
      exact r2
    obtain ⟨d2, e2, t2⟩ := TDAll.getV ht hw
    rw [List.getElem?_map, hy] at e2
    cases e2
    obtain ⟨as2, rd2⟩ := Dp.reads I _ _ _ (TD.dp (K := X.K) t2) rel
    have rd3 := PyProof.Rows.Reads.keeps k rd2
    have e3 := (PySem.Reads.unique rd3 _ _ rm).1
    rw [maxD_best] at e3
    have e4 : y = best x xs := st3_d e3
    refine ⟨w, H, I.kept k, rel, q i w y hw hy fun z hz => ?_⟩
    rw [e4]
    exact (best_max xs x).2 z hz
end MX

/-! ### what a book's rows come to -/
def En.w : En → Str
  | .pledge _ => "pledge"
  | .sure _ _ _ => "sure"
  | .done _ _ => "done"
  | .off _ => "off"
  | .mark _ => "mark"
  | .gone _ => "gone"
def En.k : En → Int
  | .pledge p => p.n
  | .sure n _ _ => n
  | .done n _ => n
  | .off n => n
  | .mark t => t
  | .gone t => t
def En.tl : En → List PyData
  | .pledge p => [.int p.home, .tuple (p.hs.map .int), p.st.d, .tuple (p.rs.map .str), .tuple (p.ws.map wrD), moreD p.more]
  | .sure _ st low => [st.d, .int low]
  | .done _ st => [st.d]
  | .off _ => []
  | .mark _ => []
  | .gone _ => []
theorem En.d_eq (e : En) : e.d = .tuple (.str e.w :: .int e.k :: e.tl) := by cases e <;> rfl
theorem en_at {H : Hp} {v : V} {e : En} (h : TD H v e.d) : ∃ q xs, v = .ref q ∧ H q = some (.tup (.str e.w :: .int e.k :: xs)) ∧ TDAll H xs e.tl := by
  rw [En.d_eq] at h
  obtain ⟨q, ys, rfl, hq, t⟩ := td_tup h
  obtain ⟨_, _, rfl, t0, t⟩ := td_cons t
  obtain ⟨_, xs, rfl, t1, t⟩ := td_cons t
  rw [td_str t0, td_int t1] at hq
  exact ⟨q, xs, rfl, hq, t⟩
def wdB (w : Str) (e : En) : Bool := decide (e.w = w)
def wkB (w : Str) (n : Int) (e : En) : Bool := decide (e.w = w) && decide (e.k = n)
theorem wd_pl {e : En} (h : e.w = "pledge") : ∃ p, e = .pledge p := by
  cases e with
  | pledge p => exact ⟨p, rfl⟩
  | sure _ _ _ => exact absurd h (by simp only [En.w]; decide +kernel)
  | done _ _ => exact absurd h (by simp only [En.w]; decide +kernel)
  | off _ => exact absurd h (by simp only [En.w]; decide +kernel)
  | mark _ => exact absurd h (by simp only [En.w]; decide +kernel)
  | gone _ => exact absurd h (by simp only [En.w]; decide +kernel)
theorem wd_su {e : En} (h : e.w = "sure") : ∃ n st low, e = .sure n st low := by
  cases e with
  | sure n st low => exact ⟨n, st, low, rfl⟩
  | pledge _ => exact absurd h (by simp only [En.w]; decide +kernel)
  | done _ _ => exact absurd h (by simp only [En.w]; decide +kernel)
  | off _ => exact absurd h (by simp only [En.w]; decide +kernel)
  | mark _ => exact absurd h (by simp only [En.w]; decide +kernel)
  | gone _ => exact absurd h (by simp only [En.w]; decide +kernel)
theorem wd_do {e : En} (h : e.w = "done") : ∃ n st, e = .done n st := by
  cases e with
  | done n st => exact ⟨n, st, rfl⟩
  | pledge _ => exact absurd h (by simp only [En.w]; decide +kernel)
  | sure _ _ _ => exact absurd h (by simp only [En.w]; decide +kernel)
  | off _ => exact absurd h (by simp only [En.w]; decide +kernel)
  | mark _ => exact absurd h (by simp only [En.w]; decide +kernel)
  | gone _ => exact absurd h (by simp only [En.w]; decide +kernel)
theorem wd_ma {e : En} (h : e.w = "mark") : ∃ t, e = .mark t := by
  cases e with
  | mark t => exact ⟨t, rfl⟩
  | pledge _ => exact absurd h (by simp only [En.w]; decide +kernel)
  | sure _ _ _ => exact absurd h (by simp only [En.w]; decide +kernel)
  | off _ => exact absurd h (by simp only [En.w]; decide +kernel)
  | done _ _ => exact absurd h (by simp only [En.w]; decide +kernel)
  | gone _ => exact absurd h (by simp only [En.w]; decide +kernel)
/-- entries with their values -/
def ZsAt (H : Hp) (zs : List (V × En)) : Prop := ∀ z ∈ zs, TD H z.1 z.2.d
def RowsL (H : Hp) (a : Addr) (zs : List (V × En)) : Prop := H a = some (.lst (zs.map (·.1))) ∧ ZsAt H zs
theorem ZsAt.tk {H H' : Hp} {zs : List (V × En)} (h : ZsAt H zs) (k : Tk H H') : ZsAt H' zs := fun z hz => TD.tk k (h z hz)
theorem ZsAt.sub {H : Hp} {zs ys : List (V × En)} (h : ZsAt H zs) (k : ∀ y ∈ ys, y ∈ zs) : ZsAt H ys := fun z hz => h z (k z hz)
theorem ZsAt.all {H : Hp} : ∀ {zs : List (V × En)}, ZsAt H zs → TDAll H (zs.map (·.1)) ((zs.map (·.2)).map En.d)
  | [], _ => .nil
  | z :: r, h => .cons (h z (.head _)) (ZsAt.all fun y hy => h y (.tail _ hy))
theorem RowsL.same {H H' : Hp} {a : Addr} {zs : List (V × En)} (h : RowsL H a zs) (k : Same H H') : RowsL H' a zs := ⟨k _ _ h.1, h.2.tk fun b xs e => k b _ e⟩
def selB (f : En → Bool) (zs : List (V × En)) : List (V × En) := zs.filter fun z => f z.2
theorem selB_yes {f : En → Bool} {zs : List (V × En)} {i : Nat} {z : V × En} (h : zs[i]? = some z) (c : f z.2 = true) : selB f (zs.take (i + 1)) = selB f (zs.take i) ++ [z] := by
  unfold selB
  rw [List.take_add_one, h]
  simp [List.filter_append, List.filter_cons, c]
theorem selB_no {f : En → Bool} {zs : List (V × En)} {i : Nat} {z : V × En} (h : zs[i]? = some z) (c : f z.2 = false) : selB f (zs.take (i + 1)) = selB f (zs.take i) := by
  unfold selB
  rw [List.take_add_one, h]
  simp [List.filter_append, List.filter_cons, c]
theorem selB_len (f : En → Bool) (zs : List (V × En)) : (selB f zs).length ≤ zs.length := List.length_filter_le _ _
theorem selB_snd (f : En → Bool) (zs : List (V × En)) : (selB f zs).map (·.2) = (zs.map (·.2)).filter f := by
  unfold selB
  rw [List.filter_map]
  rfl
theorem selB_sub {f : En → Bool} {zs : List (V × En)} : ∀ y ∈ selB f zs, y ∈ zs ∧ f y.2 = true := fun y hy => List.mem_filter.mp hy
theorem take_z {α : Type} {zs : List α} {n i : Nat} (h : n = zs.length) : zs.take n = zs := by rw [h, List.take_length]
/-! #### what a ledger has noted of them -/
def led (r : List En) : LS := r.foldl LS.note LS.new
theorem led_snoc (r : List En) (e : En) : led (r ++ [e]) = (led r).note e := by
  unfold led
  rw [List.foldl_append]
  rfl
/-- what may be noted -/
def Vd (s : LS) : En → Prop
  | .pledge p => s.nt p.n = Nt.no ∧ 0 ≤ p.st.t ∧ 0 ≤ p.st.s
  | .sure n st _ => (s.un n).isSome = true ∧ (s.nt n).low = none ∧ 0 ≤ st.t ∧ 0 ≤ st.s
  | .done n st => (s.un n).isSome = true ∧ WsOk s.sh st (match (s.nt n).p with | none => [] | some p => p.ws) ∧ 0 ≤ st.t ∧ 0 ≤ st.s
  | .off _ => True
  | .mark t => -1 ≤ t
  | .gone _ => True
inductive Gd : List En → Prop
  | nil : Gd []
  | snoc {r : List En} {e : En} (g : Gd r) (v : Vd (led r) e) : Gd (r ++ [e])
def wordE (n : Int) (w : Option Str) (e : En) : Option Str := if e.k = n then (if e.w = "pledge" then some "pledged" else if e.w = "sure" ∨ e.w = "done" ∨ e.w = "off" then some e.w else w) else w
def wordL (n : Int) (r : List En) : Option Str := r.foldl (wordE n) none
theorem wordL_snoc (n : Int) (r : List En) (e : En) : wordL n (r ++ [e]) = wordE n (wordL n r) e := by
  unfold wordL
  rw [List.foldl_append]
  rfl
theorem moreOf_nt (s : LS) (st : St3) (m : Option More) : (s.moreOf st m).nt = s.nt ∧ (s.moreOf st m).un = s.un ∧ (s.moreOf st m).gs = s.gs ∧ (s.moreOf st m).gser = s.gser ∧ (s.moreOf st m).gm = s.gm ∧ (s.moreOf st m).sh = s.sh := by
  cases m with
  | none => exact ⟨rfl, rfl, rfl, rfl, rfl, rfl⟩
  | some m => cases m <;> exact ⟨rfl, rfl, rfl, rfl, rfl, rfl⟩
/-- what a done one changes but the shelf -/
theorem note_done0 {s : LS} {n : Int} {st : St3} (h : (s.nt n).p = none) : s.note (.done n st) = s.done0 n st := by
  show (match (s.nt n).p with | none => s.done0 n st | some p => { s.done0 n st with sh := putsW s.sh st p.ws }.moreOf st p.more) = _
  rw [h]
theorem note_done_nt (s : LS) (n : Int) (st : St3) : (s.note (.done n st)).nt = setN s.nt n { s.nt n with w := some "done", st := some st } ∧ (s.note (.done n st)).un = setN s.un n none ∧ (s.note (.done n st)).gs = (s.stamp st).gs ∧ (s.note (.done n st)).gser = (s.stamp st).gser ∧ (s.note (.done n st)).gm = s.gm := by
  cases e : (s.nt n).p with
  | none =>
    rw [note_done0 e]
    exact ⟨rfl, rfl, rfl, rfl, rfl⟩
  | some p =>
    rw [note_done e]
    obtain ⟨a, b, c, d, f, _⟩ := moreOf_nt (s.done1 n st p) st p.more
    exact ⟨a, b, c, d, f⟩
theorem note_done_sh (s : LS) (n : Int) (st : St3) : (s.note (.done n st)).sh = putsW s.sh st (match (s.nt n).p with | none => [] | some p => p.ws) := by
  cases e : (s.nt n).p with
  | none => rw [note_done0 e]; rfl
  | some p =>
    rw [note_done e]
    exact (moreOf_nt (s.done1 n st p) st p.more).2.2.2.2.2
theorem setN_at {α : Type} (f : Int → α) (n : Int) (v : α) : setN f n v n = v := if_pos rfl
theorem setN_ne {α : Type} (f : Int → α) {n m : Int} (v : α) (h : m ≠ n) : setN f n v m = f m := if_neg h
theorem word_eq (n : Int) : ∀ {r : List En}, Gd r → ((led r).nt n).w = wordL n r := by
  intro r g
  induction g with
  | nil => rfl
  | @snoc r e g v ih =>
    rw [led_snoc, wordL_snoc, ← ih]
    generalize led r = s
    unfold wordE
    cases e with
    | pledge p =>
      show (setN s.nt p.n _ n).w = _
      by_cases c : p.n = n
      · subst c
        rw [setN_at, if_pos (show (En.pledge p).k = p.n from rfl), if_pos (show (En.pledge p).w = "pledge" from rfl)]
      · rw [setN_ne _ _ (Ne.symm c), if_neg (show ¬ (En.pledge p).k = n from c)]
    | sure m st low =>
      show (setN s.nt m _ n).w = _
      by_cases c : m = n
      · subst c
        rw [setN_at, if_pos (show (En.sure m st low).k = m from rfl), if_neg (show ¬ (En.sure m st low).w = "pledge" by simp only [En.w]; decide +kernel), if_pos (.inl rfl)]
        rfl
      · rw [setN_ne _ _ (Ne.symm c), if_neg (show ¬ (En.sure m st low).k = n from c)]
    | done m st =>
      rw [(note_done_nt s m st).1]
      by_cases c : m = n
      · subst c
        rw [setN_at, if_pos (show (En.done m st).k = m from rfl), if_neg (show ¬ (En.done m st).w = "pledge" by simp only [En.w]; decide +kernel), if_pos (.inr (.inl rfl))]
        rfl
      · rw [setN_ne _ _ (Ne.symm c), if_neg (show ¬ (En.done m st).k = n from c)]
    | off m =>
      show (setN s.nt m _ n).w = _
      by_cases c : m = n
      · subst c
        rw [setN_at, if_pos (show (En.off m).k = m from rfl), if_neg (show ¬ (En.off m).w = "pledge" by simp only [En.w]; decide +kernel), if_pos (.inr (.inr rfl))]
        rfl
      · rw [setN_ne _ _ (Ne.symm c), if_neg (show ¬ (En.off m).k = n from c)]
    | mark t =>
      have a : ¬ (En.mark t).w = "pledge" := by simp only [En.w]; decide +kernel
      have b : ¬ ((En.mark t).w = "sure" ∨ (En.mark t).w = "done" ∨ (En.mark t).w = "off") := by rintro (z | z | z) <;> revert z <;> simp only [En.w] <;> decide +kernel
      rw [if_neg a, if_neg b, ite_self]
      rfl
    | gone t =>
      have a : ¬ (En.gone t).w = "pledge" := by simp only [En.w]; decide +kernel
      have b : ¬ ((En.gone t).w = "sure" ∨ (En.gone t).w = "done" ∨ (En.gone t).w = "off") := by rintro (z | z | z) <;> revert z <;> simp only [En.w] <;> decide +kernel
      rw [if_neg a, if_neg b, ite_self]
      rfl
/-- what stands noted of one dealing -/
structure Of (n : Int) (r : List En) (s : LS) : Prop where
  of ::
  pl : (r.filter (wkB "pledge" n) = [] ∧ (s.nt n).p = none) ∨ ∃ p, r.filter (wkB "pledge" n) = [.pledge p] ∧ (s.nt n).p = some p ∧ p.n = n
  su : (r.filter (wkB "sure" n) = [] ∧ (s.nt n).low = none) ∨ ∃ st low, r.filter (wkB "sure" n) = [.sure n st low] ∧ (s.nt n).low = some low ∧ ((s.un n).isSome = true → (s.nt n).st = some st)
  en : ∀ e, (r.filter fun e => (wdB "sure" e || wdB "done" e) && decide (e.k = n)).getLast? = e → match e with
    | none => (s.nt n).st = none
    | some e => ∃ st, (s.nt n).st = some st ∧ (e = .done n st ∨ ∃ low, e = .sure n st low)
  un : (s.un n).isSome = true ↔ (s.nt n).p.isSome = true ∧ ((s.nt n).w = some "pledged" ∨ (s.nt n).w = some "sure")
  up : ∀ p, s.un n = some p → (s.nt n).p = some p
  ns : (s.un n).isSome = true → (s.nt n).low = none → (s.nt n).st = none
theorem filt_snoc (f : En → Bool) (r : List En) (e : En) : (r ++ [e]).filter f = if f e = true then r.filter f ++ [e] else r.filter f := by
  rw [List.filter_append]
  by_cases c : f e = true
  · rw [if_pos c]; simp [List.filter_cons, c]
  · rw [if_neg c]; simp [List.filter_cons, c]
theorem Of.keep {n : Int} {r : List En} {e : En} {s s' : LS} (h : Of n r s) (h1 : s'.nt n = s.nt n) (h2 : s'.un n = s.un n) (f1 : wkB "pledge" n e = false) (f2 : wkB "sure" n e = false) (f3 : ((wdB "sure" e || wdB "done" e) && decide (e.k = n)) = false) : Of n (r ++ [e]) s' := by
  have g1 : (r ++ [e]).filter (wkB "pledge" n) = r.filter (wkB "pledge" n) := by rw [filt_snoc, if_neg (by rw [f1]; decide)]
  have g2 : (r ++ [e]).filter (wkB "sure" n) = r.filter (wkB "sure" n) := by rw [filt_snoc, if_neg (by rw [f2]; decide)]
  have g3 : ((r ++ [e]).filter fun e => (wdB "sure" e || wdB "done" e) && decide (e.k = n)) = r.filter fun e => (wdB "sure" e || wdB "done" e) && decide (e.k = n) := by rw [filt_snoc, if_neg (by rw [f3]; decide)]
  refine ⟨?_, ?_, ?_, ?_, ?_, ?_⟩
  · rw [g1, h1]; exact h.pl
  · rw [g2, h1, h2]; exact h.su
  · rw [g3, h1]; exact h.en
  · rw [h1, h2]; exact h.un
  · rw [h1, h2]; exact h.up
  · rw [h1, h2]; exact h.ns
theorem wk_no {w : Str} {n : Int} {e : En} (h : ¬ e.k = n) : wkB w n e = false := by
  unfold wkB
  rw [decide_eq_false h, Bool.and_false]
theorem sd_no {n : Int} {e : En} (h : ¬ e.k = n) : ((wdB "sure" e || wdB "done" e) && decide (e.k = n)) = false := by
  rw [decide_eq_false h, Bool.and_false]
theorem wk_nw {w : Str} {n : Int} {e : En} (h : ¬ e.w = w) : wkB w n e = false := by
  unfold wkB
  rw [decide_eq_false h, Bool.false_and]
theorem sd_nw {n : Int} {e : En} (h1 : ¬ e.w = "sure") (h2 : ¬ e.w = "done") : ((wdB "sure" e || wdB "done" e) && decide (e.k = n)) = false := by
  unfold wdB
  rw [decide_eq_false h1, decide_eq_false h2]
  rfl
theorem of_all (n : Int) : ∀ {r : List En}, Gd r → Of n r (led r) := by
  intro r g
  induction g with
  | nil =>
    refine ⟨.inl ⟨rfl, rfl⟩, .inl ⟨rfl, rfl⟩, fun e he => ?_, ⟨fun z => ?_, fun z => ?_⟩, fun p z => ?_, fun z => ?_⟩
    · have he : none = e := he
      subst he
      rfl
    · cases z
    · have z := z.1
      cases z
    · cases z
    · cases z
  | @snoc r e g v ih =>
    rw [led_snoc]
    generalize led r = s at v ih
    cases e with
    | pledge p =>
      by_cases c : p.n = n
      · subst c
        obtain ⟨v1, v2, v3⟩ := v
        have e1 : (s.note (.pledge p)).nt p.n = { s.nt p.n with w := some "pledged", p := some p } := setN_at _ _ _
        have e2 : (s.note (.pledge p)).un p.n = some p := setN_at _ _ _
        have n0 : (s.nt p.n).p = none := by rw [v1]; rfl
        have n1 : (s.nt p.n).low = none := by rw [v1]; rfl
        have n2 : (s.nt p.n).st = none := by rw [v1]; rfl
        have f0 : r.filter (wkB "pledge" p.n) = [] := by
          rcases ih.pl with z | ⟨q, _, z, _⟩
          · exact z.1
          · rw [n0] at z; cases z
        have f1 : r.filter (wkB "sure" p.n) = [] := by
          rcases ih.su with z | ⟨_, _, _, z, _⟩
          · exact z.1
          · rw [n1] at z; cases z
        have k1 : wkB "pledge" p.n (.pledge p) = true := by unfold wkB; rw [decide_eq_true (show (En.pledge p).w = "pledge" from rfl), decide_eq_true (show (En.pledge p).k = p.n from rfl)]; rfl
        have k2 : wkB "sure" p.n (.pledge p) = false := wk_nw (by simp only [En.w]; decide +kernel)
        refine ⟨.inr ⟨p, ?_, ?_, rfl⟩, .inl ⟨?_, ?_⟩, ?_, ?_, ?_, ?_⟩
        · rw [filt_snoc, if_pos k1, f0]; rfl
        · rw [e1]
        · rw [filt_snoc, if_neg (by rw [k2]; decide), f1]
        · rw [e1]; exact n1
        · rw [filt_snoc, if_neg (by rw [sd_nw (by simp only [En.w]; decide +kernel) (by simp only [En.w]; decide +kernel)]; decide), e1]
          exact ih.en
        · rw [e1, e2]
          exact ⟨fun _ => ⟨rfl, .inl rfl⟩, fun _ => rfl⟩
        · rw [e1, e2]
          exact fun q z => z
        · rw [e1]
          exact fun _ _ => n2
      · refine ih.keep (setN_ne _ _ (Ne.symm c)) (setN_ne _ _ (Ne.symm c)) (wk_no c) (wk_no c) (sd_no c)
    | sure m st low =>
      by_cases c : m = n
      · subst c
        obtain ⟨v1, v2, v3, v4⟩ := v
        have e1 : (s.note (.sure m st low)).nt m = ⟨some "sure", (s.nt m).p, some st, some low⟩ := setN_at _ _ _
        have e2 : (s.note (.sure m st low)).un m = s.un m := rfl
        have f1 : r.filter (wkB "sure" m) = [] := by
          rcases ih.su with z | ⟨_, _, _, z, _⟩
          · exact z.1
          · rw [v2] at z; cases z
        have k1 : wkB "sure" m (.sure m st low) = true := by unfold wkB; rw [decide_eq_true (show (En.sure m st low).w = "sure" from rfl), decide_eq_true (show (En.sure m st low).k = m from rfl)]; rfl
        have k2 : wkB "pledge" m (.sure m st low) = false := wk_nw (by simp only [En.w]; decide +kernel)
        have k3 : ((wdB "sure" (.sure m st low) || wdB "done" (.sure m st low)) && decide ((En.sure m st low).k = m)) = true := by unfold wdB; rw [decide_eq_true (show (En.sure m st low).w = "sure" from rfl), decide_eq_true (show (En.sure m st low).k = m from rfl)]; rfl
        refine ⟨?_, .inr ⟨st, low, ?_, ?_, ?_⟩, fun e he => ?_, ?_, ?_, ?_⟩
        · rw [filt_snoc, if_neg (by rw [k2]; decide), e1]
          exact ih.pl
        · rw [filt_snoc, if_pos k1, f1]; rfl
        · rw [e1]
        · rw [e1]; exact fun _ => rfl
        · rw [filt_snoc, if_pos k3, List.getLast?_concat] at he
          subst he
          exact ⟨st, by rw [e1], .inr ⟨low, rfl⟩⟩
        · rw [e1, e2]
          exact ⟨fun z => ⟨(ih.un.mp z).1, .inr rfl⟩, fun _ => v1⟩
        · rw [e1, e2]
          exact ih.up
        · rw [e1]
          exact fun _ z => by cases z
      · exact ih.keep (setN_ne _ _ (Ne.symm c)) rfl (wk_no c) (wk_no c) (sd_no c)
    | done m st =>
      obtain ⟨d1, d2, _⟩ := note_done_nt s m st
      by_cases c : m = n
      · subst c
        have e1 : (s.note (.done m st)).nt m = { s.nt m with w := some "done", st := some st } := by rw [d1]; exact setN_at _ _ _
        have e2 : (s.note (.done m st)).un m = none := by rw [d2]; exact setN_at _ _ _
        have k1 : wkB "sure" m (.done m st) = false := wk_nw (by simp only [En.w]; decide +kernel)
        have k2 : wkB "pledge" m (.done m st) = false := wk_nw (by simp only [En.w]; decide +kernel)
        have k3 : ((wdB "sure" (.done m st) || wdB "done" (.done m st)) && decide ((En.done m st).k = m)) = true := by unfold wdB; rw [decide_eq_true (show (En.done m st).w = "done" from rfl), decide_eq_true (show (En.done m st).k = m from rfl), Bool.or_true]; rfl
        refine ⟨?_, ?_, fun e he => ?_, ?_, ?_, ?_⟩
        · rw [filt_snoc, if_neg (by rw [k2]; decide), e1]
          exact ih.pl
        · rw [filt_snoc, if_neg (by rw [k1]; decide), e1, e2]
          rcases ih.su with z | ⟨st', low', z1, z2, _⟩
          · exact .inl z
          · exact .inr ⟨st', low', z1, z2, fun z => by cases z⟩
        · rw [filt_snoc, if_pos k3, List.getLast?_concat] at he
          subst he
          exact ⟨st, by rw [e1], .inl rfl⟩
        · rw [e1, e2]
          refine ⟨fun z => (by cases z), fun z => ?_⟩
          have z2 : (some ("done" : Str)) = some "pledged" ∨ (some ("done" : Str)) = some "sure" := z.2
          revert z2
          decide +kernel
        · rw [e2]
          exact fun p z => by cases z
        · rw [e2]
          exact fun z => by cases z
      · exact ih.keep (by rw [d1]; exact setN_ne _ _ (Ne.symm c)) (by rw [d2]; exact setN_ne _ _ (Ne.symm c)) (wk_no c) (wk_no c) (sd_no c)
    | off m =>
      by_cases c : m = n
      · subst c
        have e1 : (s.note (.off m)).nt m = { s.nt m with w := some "off" } := setN_at _ _ _
        have e2 : (s.note (.off m)).un m = none := setN_at _ _ _
        have k1 : wkB "sure" m (.off m) = false := wk_nw (by simp only [En.w]; decide +kernel)
        have k2 : wkB "pledge" m (.off m) = false := wk_nw (by simp only [En.w]; decide +kernel)
        refine ⟨?_, ?_, fun e he => ?_, ?_, ?_, ?_⟩
        · rw [filt_snoc, if_neg (by rw [k2]; decide), e1]
          exact ih.pl
        · rw [filt_snoc, if_neg (by rw [k1]; decide), e1, e2]
          rcases ih.su with z | ⟨st', low', z1, z2, _⟩
          · exact .inl z
          · exact .inr ⟨st', low', z1, z2, fun z => by cases z⟩
        · rw [filt_snoc, if_neg (by rw [sd_nw (by simp only [En.w]; decide +kernel) (by simp only [En.w]; decide +kernel)]; decide)] at he
          rw [e1]
          exact ih.en e he
        · rw [e1, e2]
          refine ⟨fun z => (by cases z), fun z => ?_⟩
          have z2 : (some ("off" : Str)) = some "pledged" ∨ (some ("off" : Str)) = some "sure" := z.2
          revert z2
          decide +kernel
        · rw [e2]
          exact fun p z => by cases z
        · rw [e2]
          exact fun z => by cases z
      · exact ih.keep (setN_ne _ _ (Ne.symm c)) (setN_ne _ _ (Ne.symm c)) (wk_no c) (wk_no c) (sd_no c)
    | mark t => exact ih.keep rfl rfl (wk_nw (by simp only [En.w]; decide +kernel)) (wk_nw (by simp only [En.w]; decide +kernel)) (sd_nw (by simp only [En.w]; decide +kernel) (by simp only [En.w]; decide +kernel))
    | gone t => exact ih.keep rfl rfl (wk_nw (by simp only [En.w]; decide +kernel)) (wk_nw (by simp only [En.w]; decide +kernel)) (sd_nw (by simp only [En.w]; decide +kernel) (by simp only [En.w]; decide +kernel))
/-! #### stamps, serials, marks -/
def En.sts : En → List St3
  | .pledge p => [p.st]
  | .sure _ st _ => [st]
  | .done _ st => [st]
  | _ => []
def stsL (r : List En) : List St3 := r.flatMap En.sts
def En.mks : En → List Int
  | .mark t => [t]
  | _ => []
def mksL (r : List En) : List Int := r.flatMap En.mks
structure Tops (r : List En) (s : LS) : Prop where
  of ::
  gs : match s.gs with
    | none => stsL r = []
    | some g => g ∈ stsL r ∧ ∀ z : St3, z ∈ stsL r → ¬ g.l < z.l
  se : s.gser ∈ 0 :: (stsL r).map St3.s ∧ ∀ z ∈ 0 :: (stsL r).map St3.s, z ≤ s.gser
  mk : match s.gm with
    | none => mksL r = []
    | some g => g ∈ mksL r ∧ ∀ z : Int, z ∈ mksL r → z ≤ g
  t0 : ∀ z : St3, z ∈ stsL r → 0 ≤ z.t ∧ 0 ≤ z.s
  m0 : ∀ z : Int, z ∈ mksL r → -1 ≤ z
theorem stsL_snoc (r : List En) (e : En) : stsL (r ++ [e]) = stsL r ++ e.sts := by unfold stsL; simp [List.flatMap_append]
theorem mksL_snoc (r : List En) (e : En) : mksL (r ++ [e]) = mksL r ++ e.mks := by unfold mksL; simp [List.flatMap_append]
theorem Tops.stamp {r : List En} {e : En} {s s' : LS} (h : Tops r s) {st : St3} (he : e.sts = [st]) (hm : e.mks = []) (t0 : 0 ≤ st.t ∧ 0 ≤ st.s) (g1 : s'.gs = (s.stamp st).gs) (g2 : s'.gser = (s.stamp st).gser) (g3 : s'.gm = s.gm) : Tops (r ++ [e]) s' := by
  refine ⟨?_, ?_, ?_, ?_, ?_⟩
  · rw [g1, stsL_snoc, he]
    have := h.gs
    show match (match s.gs with | none => some st | some g => if g.l < st.l then some st else some g) with | none => _ | some g => _
    cases e1 : s.gs with
    | none =>
      rw [e1] at this
      have this : stsL r = [] := this
      rw [this]
      exact ⟨.head _, fun z hz => by
        rw [List.mem_singleton.mp hz, st3_lt]
        omega⟩
    | some g =>
      rw [e1] at this
      obtain ⟨a, b⟩ := this
      show match (if g.l < st.l then some st else some g) with | none => _ | some g => _
      by_cases c : g.l < st.l
      · rw [if_pos c]
        refine ⟨List.mem_append_right _ (.head _), fun z hz => ?_⟩
        rcases List.mem_append.mp hz with hz | hz
        · have := b z hz
          rw [st3_lt] at *
          omega
        · rw [List.mem_singleton.mp hz, st3_lt]
          omega
      · rw [if_neg c]
        refine ⟨List.mem_append_left _ a, fun z hz => ?_⟩
        rcases List.mem_append.mp hz with hz | hz
        · exact b z hz
        · rw [List.mem_singleton.mp hz]
          exact c
  · rw [g2, stsL_snoc, he, List.map_append]
    obtain ⟨a, b⟩ := h.se
    show (if st.s > s.gser then st.s else s.gser) ∈ 0 :: ((stsL r).map St3.s ++ [st].map St3.s) ∧ ∀ z ∈ 0 :: ((stsL r).map St3.s ++ [st].map St3.s), z ≤ (if st.s > s.gser then st.s else s.gser)
    by_cases c : st.s > s.gser
    · rw [if_pos c]
      refine ⟨.tail _ (List.mem_append_right _ (.head _)), fun z hz => ?_⟩
      rcases List.mem_cons.mp hz with rfl | hz
      · exact t0.2
      rcases List.mem_append.mp hz with hz | hz
      · have := b z (.tail _ hz)
        omega
      · rw [List.mem_singleton.mp hz]
        exact Int.le_refl _
    · rw [if_neg c]
      refine ⟨?_, fun z hz => ?_⟩
      · rcases List.mem_cons.mp a with e | e
        · rw [e]; exact .head _
        · exact .tail _ (List.mem_append_left _ e)
      · rcases List.mem_cons.mp hz with rfl | hz
        · exact b _ (.head _)
        rcases List.mem_append.mp hz with hz | hz
        · exact b z (.tail _ hz)
        · rw [List.mem_singleton.mp hz]
          show st.s ≤ s.gser
          omega
  · rw [g3, mksL_snoc, hm, List.append_nil]
    exact h.mk
  · rw [stsL_snoc, he]
    intro z hz
    rcases List.mem_append.mp hz with hz | hz
    · exact h.t0 z hz
    · rw [List.mem_singleton.mp hz]
      exact t0
  · rw [mksL_snoc, hm, List.append_nil]
    exact h.m0
theorem Tops.keep {r : List En} {e : En} {s s' : LS} (h : Tops r s) (he : e.sts = []) (hm : e.mks = []) (g1 : s'.gs = s.gs) (g2 : s'.gser = s.gser) (g3 : s'.gm = s.gm) : Tops (r ++ [e]) s' := by
  have a : stsL (r ++ [e]) = stsL r := by rw [stsL_snoc, he, List.append_nil]
  have b : mksL (r ++ [e]) = mksL r := by rw [mksL_snoc, hm, List.append_nil]
  exact ⟨by rw [g1, a]; exact h.gs, by rw [g2, a]; exact h.se, by rw [g3, b]; exact h.mk, by rw [a]; exact h.t0, by rw [b]; exact h.m0⟩
theorem tops_all : ∀ {r : List En}, Gd r → Tops r (led r) := by
  intro r g
  induction g with
  | nil => exact ⟨rfl, ⟨.head _, fun z hz => by
      rw [List.mem_singleton.mp hz]
      exact Int.le_refl _⟩, rfl, fun z hz => (by cases hz), fun z hz => by cases hz⟩
  | @snoc r e g v ih =>
    rw [led_snoc]
    generalize led r = s at v ih
    cases e with
    | pledge p => exact ih.stamp rfl rfl v.2 rfl rfl rfl
    | sure n st low => exact ih.stamp rfl rfl v.2.2 rfl rfl rfl
    | done n st =>
      obtain ⟨_, _, d3, d4, d5⟩ := note_done_nt s n st
      exact ih.stamp rfl rfl v.2.2 d3 d4 d5
    | off n => exact ih.keep rfl rfl rfl rfl rfl
    | gone t => exact ih.keep rfl rfl rfl rfl rfl
    | mark t =>
      refine ⟨?_, ?_, ?_, ?_, ?_⟩
      · have a : stsL (r ++ [.mark t]) = stsL r := by rw [stsL_snoc]; exact List.append_nil _
        rw [a]; exact ih.gs
      · have a : stsL (r ++ [.mark t]) = stsL r := by rw [stsL_snoc]; exact List.append_nil _
        rw [a]; exact ih.se
      · rw [mksL_snoc]
        have := ih.mk
        show match (match s.gm with | none => some t | some g => if g < t then some t else some g) with | none => _ | some g => _
        cases e1 : s.gm with
        | none =>
          rw [e1] at this
          have this : mksL r = [] := this
          rw [this]
          exact ⟨.head _, fun z hz => by
            rw [List.mem_singleton.mp hz]
            exact Int.le_refl _⟩
        | some g =>
          rw [e1] at this
          obtain ⟨a, b⟩ := this
          show match (if g < t then some t else some g) with | none => _ | some g => _
          by_cases c : g < t
          · rw [if_pos c]
            refine ⟨List.mem_append_right _ (.head _), fun z hz => ?_⟩
            rcases List.mem_append.mp hz with hz | hz
            · have := b z hz
              omega
            · rw [List.mem_singleton.mp hz]
              exact Int.le_refl _
          · rw [if_neg c]
            refine ⟨List.mem_append_left _ a, fun z hz => ?_⟩
            rcases List.mem_append.mp hz with hz | hz
            · exact b z hz
            · rw [List.mem_singleton.mp hz]
              omega
      · have a : stsL (r ++ [.mark t]) = stsL r := by rw [stsL_snoc]; exact List.append_nil _
        rw [a]; exact ih.t0
      · rw [mksL_snoc]
        intro z hz
        rcases List.mem_append.mp hz with hz | hz
        · exact ih.m0 z hz
        · rw [List.mem_singleton.mp hz]
          exact v

/-- all that was tracked but x stands -/
def Fr (x : Addr) (H H' : Hp) : Prop := ∀ b o, b ≠ x → H b = some o → H' b = some o
theorem Fr.refl (x : Addr) (H : Hp) : Fr x H H := fun _ _ _ e => e
theorem Fr.trans {x : Addr} {H H1 H2 : Hp} (a : Fr x H H1) (b : Fr x H1 H2) : Fr x H H2 := fun c o n e => b c o n (a c o n e)
theorem fr_same {x : Addr} {H H' : Hp} (s : Same H H') : Fr x H H' := fun b o _ e => s b o e
theorem Fr.new {x p : Addr} {H H1 : Hp} {o : HO} (k : Fr x H H1) (hp : H1 p = none) : Fr x H (upd H1 p o) := fun b u n e => by
  rw [upd_ne (ne_of_none (k b u n e) hp)]
  exact k b u n e
theorem Fr.put {x : Addr} {H H1 : Hp} {o : HO} (k : Fr x H H1) : Fr x H (upd H1 x o) := fun b u n e => by
  rw [upd_ne n]
  exact k b u n e
theorem Fr.over {x : Addr} {H0 H H1 : Hp} (a : Same H0 H) (hx : H0 x = none) (k : Fr x H H1) : Same H0 H1 := fun b o e => k b o (ne_of_none e hx) (a b o e)
/-- a thing that may be changed -/
def Mut : HO → Prop
  | .lst _ => True
  | .ins _ _ _ => True
  | _ => False
theorem Fr.tup {x p : Addr} {H H' : Hp} {o : HO} {xs : List V} (k : Fr x H H') (hx : H x = some o) (m : Mut o) (hp : H p = some (.tup xs)) : H' p = some (.tup xs) :=
  k p _ (ne_of hp hx (by intro e; subst e; exact m)) hp
theorem Fr.sqt {K : PySem.W.Frag} {x p : Addr} {H H' : Hp} {o : HO} {xs : List V} (k : Fr x H H') (hx : H x = some o) (m : Mut o) (h : SqT K H p xs) : SqT K H' p xs := by
  rcases h with (h | ⟨u, h⟩) | h
  · exact .inl (.inl (k p _ (ne_of h hx (by intro e; subst e; exact m)) h))
  · exact .inl (.inr ⟨u, k p _ (ne_of h hx (by intro e; subst e; exact m)) h⟩)
  · exact .inr h
theorem same_sqt {K : PySem.W.Frag} {p : Addr} {H H' : Hp} {xs : List V} (k : Same H H') (h : SqT K H p xs) : SqT K H' p xs := by
  rcases h with (h | ⟨u, h⟩) | h
  · exact .inl (.inl (k p _ h))
  · exact .inl (.inr ⟨u, k p _ h⟩)
  · exact .inr h
theorem sqt_ty {K : PySem.W.Frag} {H : Hp} {p : Addr} {xs : List V} (h : SqT K H p xs) : TyX K H (.ref p) (.type "tuple") := by
  rcases h with (h | ⟨u, h⟩) | ⟨o, its, n, h1, h2, _⟩
  · exact .base (.tup h)
  · exact .fTuple h
  · exact .kTuple h1 h2
/-! ### draws -/
def BagAt (H : Hp) (s : Addr) : Prop := ∃ a b : Int, H s = some (.lst [.int a, .int b]) ∧ 0 ≤ b ∧ b < 2147483647
theorem BagAt.ex {H : Hp} {s : Addr} (h : BagAt H s) : ∃ o, H s = some o ∧ Mut o := by
  obtain ⟨a, b, e, _⟩ := h
  exact ⟨_, e, trivial⟩
theorem BagAt.same {H H' : Hp} {s : Addr} (h : BagAt H s) (k : Same H H') : BagAt H' s := by
  obtain ⟨a, b, e, r⟩ := h
  exact ⟨a, b, k _ _ e, r⟩
theorem BagAt.new {H : Hp} {s p : Addr} {o : HO} (h : BagAt H s) (hp : H p = none) : BagAt (upd H p o) s := h.same (same_new (Same.refl H) hp)
theorem BagAt.ne_new {H : Hp} {s p : Addr} (h : BagAt H s) (hp : H p = none) : p ≠ s := by
  obtain ⟨a, b, e, _⟩ := h
  exact (ne_of_none e hp).symm
theorem BagAt.fr {H H' : Hp} {s x : Addr} (h : BagAt H s) (k : Fr x H H') (ne : s ≠ x) : BagAt H' s := by
  obtain ⟨a, b, e, r⟩ := h
  exact ⟨a, b, k _ _ ne e, r⟩
theorem BagAt.some_ {H : Hp} {s : Addr} (h : BagAt H s) : ∃ o, H s = some o := by
  obtain ⟨a, b, e, _⟩ := h
  exact ⟨_, e⟩
theorem BagAt.ne_none {H : Hp} {s p : Addr} (h : BagAt H s) (hp : H p = none) : s ≠ p := (h.ne_new hp).symm
theorem same_make {H : Hp} {x dx : Addr} {o1 o2 : HO} (nx : H x = none) (ndx : H dx = none) : Same H (upd (upd H dx o1) x o2) := fun b o e => by
  rw [upd_ne (ne_of_none e nx), upd_ne (ne_of_none e ndx)]
  exact e
def spBag (K : PySem.W.Frag) : Sp := fun vs H Q _ => ∃ (l : Addr) (ns : List Int) (k : Int), vs = [.ref l, .int k] ∧ SqL K H l (ns.map V.int) ∧ 0 ≤ k ∧ k ≤ 100 ∧ ∀ (p : Addr) (H' : Hp), H p = none → Same H H' → BagAt H' p → Q (.ref p) H'
def spOut : Sp := fun vs H Q _ => ∃ (s : Addr) (m : Int), vs = [.ref s, .int m] ∧ BagAt H s ∧ 0 < m ∧ m ≤ 1000000000000000000000000000000 ∧ ∀ (r : Int) (H' : Hp), 0 ≤ r → r < m → Fr s H H' → BagAt H' s → Q (.int r) H'
structure BS where
  ho : Int
  hn : Int
  nu : Int
  la : Int
  se : Int
  fl : Int
structure BA where
  m : Addr
  rw : Addr
  op : Addr
def skv (A : BA) (b : BS) : List (Key × V) := [(Sum.inr "house", .int b.ho), (Sum.inr "houses", .int b.hn), (Sum.inr "rows", .ref A.rw), (Sum.inr "open", .ref A.op), (Sum.inr "number", .int b.nu), (Sum.inr "last", .int b.la), (Sum.inr "serial", .int b.se), (Sum.inr "floor", .int b.fl)]
theorem sk_ne (a b : Str) (h : (decide (a = b)) = false) : ¬ (Sum.inr a : Key) = Sum.inr b := fun z => by
  have := Sum.inr.inj z
  rw [decide_eq_true this] at h
  cases h
theorem skv_house (A : BA) (b : BS) : valV (skv A b) (Sum.inr "house") = some (.int b.ho) := by
  unfold skv
  rw [valV_pos rfl]
theorem skv_houses (A : BA) (b : BS) : valV (skv A b) (Sum.inr "houses") = some (.int b.hn) := by
  unfold skv
  rw [valV_neg (sk_ne "house" "houses" (by decide +kernel)), valV_pos rfl]
theorem skv_rows (A : BA) (b : BS) : valV (skv A b) (Sum.inr "rows") = some (.ref A.rw) := by
  unfold skv
  rw [valV_neg (sk_ne "house" "rows" (by decide +kernel)), valV_neg (sk_ne "houses" "rows" (by decide +kernel)), valV_pos rfl]
theorem skv_open (A : BA) (b : BS) : valV (skv A b) (Sum.inr "open") = some (.ref A.op) := by
  unfold skv
  rw [valV_neg (sk_ne "house" "open" (by decide +kernel)), valV_neg (sk_ne "houses" "open" (by decide +kernel)), valV_neg (sk_ne "rows" "open" (by decide +kernel)), valV_pos rfl]
theorem skv_number (A : BA) (b : BS) : valV (skv A b) (Sum.inr "number") = some (.int b.nu) := by
  unfold skv
  rw [valV_neg (sk_ne "house" "number" (by decide +kernel)), valV_neg (sk_ne "houses" "number" (by decide +kernel)), valV_neg (sk_ne "rows" "number" (by decide +kernel)), valV_neg (sk_ne "open" "number" (by decide +kernel)), valV_pos rfl]
theorem skv_last (A : BA) (b : BS) : valV (skv A b) (Sum.inr "last") = some (.int b.la) := by
  unfold skv
  rw [valV_neg (sk_ne "house" "last" (by decide +kernel)), valV_neg (sk_ne "houses" "last" (by decide +kernel)), valV_neg (sk_ne "rows" "last" (by decide +kernel)), valV_neg (sk_ne "open" "last" (by decide +kernel)), valV_neg (sk_ne "number" "last" (by decide +kernel)), valV_pos rfl]
theorem skv_serial (A : BA) (b : BS) : valV (skv A b) (Sum.inr "serial") = some (.int b.se) := by
  unfold skv
  rw [valV_neg (sk_ne "house" "serial" (by decide +kernel)), valV_neg (sk_ne "houses" "serial" (by decide +kernel)), valV_neg (sk_ne "rows" "serial" (by decide +kernel)), valV_neg (sk_ne "open" "serial" (by decide +kernel)), valV_neg (sk_ne "number" "serial" (by decide +kernel)), valV_neg (sk_ne "last" "serial" (by decide +kernel)), valV_pos rfl]
theorem skv_floor (A : BA) (b : BS) : valV (skv A b) (Sum.inr "floor") = some (.int b.fl) := by
  unfold skv
  rw [valV_neg (sk_ne "house" "floor" (by decide +kernel)), valV_neg (sk_ne "houses" "floor" (by decide +kernel)), valV_neg (sk_ne "rows" "floor" (by decide +kernel)), valV_neg (sk_ne "open" "floor" (by decide +kernel)), valV_neg (sk_ne "number" "floor" (by decide +kernel)), valV_neg (sk_ne "last" "floor" (by decide +kernel)), valV_neg (sk_ne "serial" "floor" (by decide +kernel)), valV_pos rfl]
theorem skp_number (A : BA) (b : BS) (u : Int) : putK (skv A b) (Sum.inr "number") (.int u) = skv A { b with nu := u } := by
  have ha : ((skv A b).any fun kv => decide (kv.1 = Sum.inr ("number" : Str))) = true := by
    rw [valV_any, skv_number]
    rfl
  unfold putK
  rw [if_pos ha]
  unfold skv
  simp only [List.map_cons, List.map_nil]
  rw [if_neg (sk_ne "house" "number" (by decide +kernel)), if_neg (sk_ne "houses" "number" (by decide +kernel)), if_neg (sk_ne "rows" "number" (by decide +kernel)), if_neg (sk_ne "open" "number" (by decide +kernel)), if_true, if_neg (sk_ne "last" "number" (by decide +kernel)), if_neg (sk_ne "serial" "number" (by decide +kernel)), if_neg (sk_ne "floor" "number" (by decide +kernel))]
theorem skp_last (A : BA) (b : BS) (u : Int) : putK (skv A b) (Sum.inr "last") (.int u) = skv A { b with la := u } := by
  have ha : ((skv A b).any fun kv => decide (kv.1 = Sum.inr ("last" : Str))) = true := by
    rw [valV_any, skv_last]
    rfl
  unfold putK
  rw [if_pos ha]
  unfold skv
  simp only [List.map_cons, List.map_nil]
  rw [if_neg (sk_ne "house" "last" (by decide +kernel)), if_neg (sk_ne "houses" "last" (by decide +kernel)), if_neg (sk_ne "rows" "last" (by decide +kernel)), if_neg (sk_ne "open" "last" (by decide +kernel)), if_neg (sk_ne "number" "last" (by decide +kernel)), if_true, if_neg (sk_ne "serial" "last" (by decide +kernel)), if_neg (sk_ne "floor" "last" (by decide +kernel))]
theorem skp_serial (A : BA) (b : BS) (u : Int) : putK (skv A b) (Sum.inr "serial") (.int u) = skv A { b with se := u } := by
  have ha : ((skv A b).any fun kv => decide (kv.1 = Sum.inr ("serial" : Str))) = true := by
    rw [valV_any, skv_serial]
    rfl
  unfold putK
  rw [if_pos ha]
  unfold skv
  simp only [List.map_cons, List.map_nil]
  rw [if_neg (sk_ne "house" "serial" (by decide +kernel)), if_neg (sk_ne "houses" "serial" (by decide +kernel)), if_neg (sk_ne "rows" "serial" (by decide +kernel)), if_neg (sk_ne "open" "serial" (by decide +kernel)), if_neg (sk_ne "number" "serial" (by decide +kernel)), if_neg (sk_ne "last" "serial" (by decide +kernel)), if_true, if_neg (sk_ne "floor" "serial" (by decide +kernel))]
theorem skp_floor (A : BA) (b : BS) (u : Int) : putK (skv A b) (Sum.inr "floor") (.int u) = skv A { b with fl := u } := by
  have ha : ((skv A b).any fun kv => decide (kv.1 = Sum.inr ("floor" : Str))) = true := by
    rw [valV_any, skv_floor]
    rfl
  unfold putK
  rw [if_pos ha]
  unfold skv
  simp only [List.map_cons, List.map_nil]
  rw [if_neg (sk_ne "house" "floor" (by decide +kernel)), if_neg (sk_ne "houses" "floor" (by decide +kernel)), if_neg (sk_ne "rows" "floor" (by decide +kernel)), if_neg (sk_ne "open" "floor" (by decide +kernel)), if_neg (sk_ne "number" "floor" (by decide +kernel)), if_neg (sk_ne "last" "floor" (by decide +kernel)), if_neg (sk_ne "serial" "floor" (by decide +kernel)), if_true]
theorem sk_put0 {kv : List (Key × V)} {k : Str} {v : V} (h : ∀ p ∈ kv, ¬ p.1 = Sum.inr k) : putK kv (Sum.inr k) v = kv ++ [(Sum.inr k, v)] := by
  unfold putK
  rw [if_neg]
  intro z
  obtain ⟨p, hp, e⟩ := List.any_eq_true.mp z
  exact h p hp (of_decide_eq_true e)
theorem skv_merge (A : BA) (b : BS) : mergeK [] (skv A b) = skv A b := by
  unfold mergeK skv
  simp only [List.foldl_cons, List.foldl_nil]
  rw [sk_put0 (k := "house") (fun p hp => by cases hp)]
  rw [sk_put0 (k := "houses") (fun p hp => by
    simp only [List.nil_append, List.cons_append, List.mem_cons, List.not_mem_nil, or_false] at hp
    rcases hp with rfl <;> exact sk_ne _ _ (by decide +kernel))]
  rw [sk_put0 (k := "rows") (fun p hp => by
    simp only [List.nil_append, List.cons_append, List.mem_cons, List.not_mem_nil, or_false] at hp
    rcases hp with rfl | rfl <;> exact sk_ne _ _ (by decide +kernel))]
  rw [sk_put0 (k := "open") (fun p hp => by
    simp only [List.nil_append, List.cons_append, List.mem_cons, List.not_mem_nil, or_false] at hp
    rcases hp with rfl | rfl | rfl <;> exact sk_ne _ _ (by decide +kernel))]
  rw [sk_put0 (k := "number") (fun p hp => by
    simp only [List.nil_append, List.cons_append, List.mem_cons, List.not_mem_nil, or_false] at hp
    rcases hp with rfl | rfl | rfl | rfl <;> exact sk_ne _ _ (by decide +kernel))]
  rw [sk_put0 (k := "last") (fun p hp => by
    simp only [List.nil_append, List.cons_append, List.mem_cons, List.not_mem_nil, or_false] at hp
    rcases hp with rfl | rfl | rfl | rfl | rfl <;> exact sk_ne _ _ (by decide +kernel))]
  rw [sk_put0 (k := "serial") (fun p hp => by
    simp only [List.nil_append, List.cons_append, List.mem_cons, List.not_mem_nil, or_false] at hp
    rcases hp with rfl | rfl | rfl | rfl | rfl | rfl <;> exact sk_ne _ _ (by decide +kernel))]
  rw [sk_put0 (k := "floor") (fun p hp => by
    simp only [List.nil_append, List.cons_append, List.mem_cons, List.not_mem_nil, or_false] at hp
    rcases hp with rfl | rfl | rfl | rfl | rfl | rfl | rfl <;> exact sk_ne _ _ (by decide +kernel))]
  rfl
theorem skv_len (A : BA) (b : BS) : (skv A b).length = 8 := rfl
/-- the law's own book in the heap -/
structure BAt (H : Hp) (A : BA) (b : BS) (zs : List (V × En)) (s : LS) (N : Nat) : Prop where
  of ::
  top : H A.m = some (.dK (skv A b))
  rows : RowsL H A.rw zs
  op : UnAt H A.op N s.un
  mo : A.m ≠ A.op
def bOwn (A : BA) : List Addr := [A.m, A.rw, A.op]
theorem bOwn_mem {A : BA} {c : Addr} : c ∈ bOwn A ↔ c = A.m ∨ c = A.rw ∨ c = A.op := by
  unfold bOwn
  simp
section
variable {H H' : Hp} {A : BA} {b : BS} {zs : List (V × En)} {s : LS} {N : Nat}
theorem BAt.keep (h : BAt H A b zs s N) (tk : Tk H H') (k : ∀ c ∈ bOwn A, ∀ o, H c = some o → H' c = some o) : BAt H' A b zs s N :=
  ⟨k _ (bOwn_mem.mpr (.inl rfl)) _ h.top, ⟨k _ (bOwn_mem.mpr (.inr (.inl rfl))) _ h.rows.1, h.rows.2.tk tk⟩, h.op.keep tk (k _ (bOwn_mem.mpr (.inr (.inr rfl)))), h.mo⟩
theorem BAt.same (h : BAt H A b zs s N) (k : Same H H') : BAt H' A b zs s N := h.keep (fun b xs e => k b _ e) fun c _ o e => k c o e
theorem BAt.ne (h : BAt H A b zs s N) : A.rw ≠ A.m ∧ A.rw ≠ A.op := by
  obtain ⟨kv, e, _⟩ := h.op.ex
  exact ⟨ne_of h.rows.1 h.top (by intro z; cases z), ne_of h.rows.1 e (by intro z; cases z)⟩
theorem BAt.kind (h : BAt H A b zs s N) : ∀ c ∈ bOwn A, (∃ kv, H c = some (.dK kv)) ∨ ∃ xs, H c = some (.lst xs) := fun c hc => by
  rcases bOwn_mem.mp hc with rfl | rfl | rfl
  · exact .inl ⟨_, h.top⟩
  · exact .inr ⟨_, h.rows.1⟩
  · obtain ⟨kv, e, _⟩ := h.op.ex
    exact .inl ⟨kv, e⟩
theorem BAt.ntup (h : BAt H A b zs s N) {p : Addr} {xs : List V} (e : H p = some (.tup xs)) : ¬ p ∈ bOwn A := fun z => by
  rcases h.kind p z with ⟨_, y⟩ | ⟨_, y⟩ <;> rw [e] at y <;> cases y
theorem BAt.nnew (h : BAt H A b zs s N) {p : Addr} (e : H p = none) : ¬ p ∈ bOwn A := fun z => by
  rcases h.kind p z with ⟨_, y⟩ | ⟨_, y⟩ <;> rw [e] at y <;> cases y
theorem BAt.get (h : BAt H A b zs s N) {k : Str} {v : V} (e : valV (skv A b) (Sum.inr k) = some v) : DGet H A.m (.str k) (some v) := .inl ⟨_, Sum.inr k, .inl h.top, rfl, e.symm⟩
theorem BAt.isd (h : BAt H A b zs s N) : IsD H A.m := .inl ⟨_, .inl h.top⟩
/-- a number of the state is put -/
theorem BAt.num (h : BAt H A b zs s N) {k : Str} {u : Int} {b' : BS} (e : putK (skv A b) (Sum.inr k) (.int u) = skv A b') : BAt (upd H A.m (.dK (putK (skv A b) (Sum.inr k) (.int u)))) A b' zs s N := by
  have n := h.ne
  have tk : Tk H (upd H A.m (.dK (putK (skv A b) (Sum.inr k) (.int u)))) := fun c xs z => by rw [upd_ne (ne_of z h.top (by intro q; cases q))]; exact z
  exact ⟨by rw [upd_same, e], ⟨by rw [upd_ne n.1]; exact h.rows.1, h.rows.2.tk tk⟩, h.op.keep tk fun o z => by rw [upd_ne h.mo.symm]; exact z, h.mo⟩
/-- a row is put behind the rows -/
theorem BAt.row (h : BAt H A b zs s N) {v : V} {e : En} (hv : TD H v e.d) : BAt (upd H A.rw (.lst (zs.map (·.1) ++ [v]))) A b (zs ++ [(v, e)]) s N := by
  have n := h.ne
  have tk : Tk H (upd H A.rw (.lst (zs.map (·.1) ++ [v]))) := fun c xs z => by rw [upd_ne (ne_of z h.rows.1 (by intro q; cases q))]; exact z
  refine ⟨by rw [upd_ne n.1.symm]; exact h.top, ⟨by rw [upd_same, List.map_append]; rfl, fun z hz => ?_⟩, h.op.keep tk fun o z => by rw [upd_ne n.2.symm]; exact z, h.mo⟩
  rcases List.mem_append.mp hz with hz | hz
  · exact TD.tk tk (h.rows.2 z hz)
  · rw [List.mem_singleton.mp hz]
    exact TD.tk tk hv
/-- the dict of open ones is changed -/
theorem BAt.opn (h : BAt H A b zs s N) {kv' : List (Key × V)} {f : Int → Option Pl} {M : Nat} {s' : LS} (es : s'.un = f) (hu : UnAt (upd H A.op (.dK kv')) A.op M f) : BAt (upd H A.op (.dK kv')) A b zs s' M := by
  obtain ⟨kv, e, _⟩ := h.op.ex
  have n := h.ne
  have tk : Tk H (upd H A.op (.dK kv')) := fun c xs z => by rw [upd_ne (ne_of z e (by intro q; cases q))]; exact z
  exact ⟨by rw [upd_ne h.mo]; exact h.top, ⟨by rw [upd_ne n.2]; exact h.rows.1, h.rows.2.tk tk⟩, by rw [es]; exact hu, h.mo⟩
theorem BAt.un_eq (h : BAt H A b zs s N) {s' : LS} {M : Nat} (e : s'.un = s.un) (l : N ≤ M) : BAt H A b zs s' M := ⟨h.top, h.rows, by rw [e]; exact h.op.mono l, h.mo⟩
end
/-- all that was tracked stands, but the state of draws and the book -/
def FrB (s : Addr) (A : BA) (H H' : Hp) : Prop := ∀ c o, c ≠ s → ¬ c ∈ bOwn A → H c = some o → H' c = some o
theorem FrB.refl (s : Addr) (A : BA) (H : Hp) : FrB s A H H := fun _ _ _ _ e => e
theorem FrB.trans {s : Addr} {A : BA} {H H1 H2 : Hp} (a : FrB s A H H1) (b : FrB s A H1 H2) : FrB s A H H2 := fun c o n m e => b c o n m (a c o n m e)
theorem FrB.same {s : Addr} {A : BA} {H H1 : Hp} (a : Same H H1) : FrB s A H H1 := fun c o _ _ e => a c o e
theorem FrB.fr {s : Addr} {A : BA} {H H1 : Hp} (a : Fr s H H1) : FrB s A H H1 := fun c o n _ e => a c o n e
theorem FrB.at_ {s : Addr} {A : BA} {H : Hp} {p : Addr} {o : HO} (h : p ∈ bOwn A) : FrB s A H (upd H p o) := fun c u _ m e => by
  rw [upd_ne (fun z => m (by rw [z]; exact h))]
  exact e
theorem BagAt.frB {s : Addr} {A : BA} {H H1 : Hp} (h : BagAt H s) (a : Fr s H H1) : ∃ o, H s = some o := h.some_
/-- the four keys -/
def Kn : List Str := ["a", "b", "cc", "zzz"]
structure Pok (p : Pl) : Prop where
  n1 : 0 ≤ p.n
  n2 : p.n ≤ 1000
  h1 : 0 ≤ p.home
  h2 : p.home ≤ 10
  hl : p.hs.length ≤ 4
  hb : ∀ h ∈ p.hs, 0 ≤ h ∧ h ≤ 10
  t1 : 0 ≤ p.st.t
  t2 : p.st.t ≤ 10000
  s1 : 0 ≤ p.st.s
  s2 : p.st.s ≤ 10000
  o1 : 0 ≤ p.st.h
  o2 : p.st.h ≤ 10
  rl : p.rs.length ≤ 4
  rb : ∀ r ∈ p.rs, r ∈ Kn
  wl : p.ws.length ≤ 4
  wn : (p.ws.map (·.1)).Nodup
  wb : ∀ w ∈ p.ws, w.1 ∈ Kn ∧ 1 ≤ w.2.length ∧ w.2.length ≤ 4 ∧ ∀ i ∈ w.2, -9 ≤ i ∧ i ≤ 40
  mo : ∀ m, p.more = some m → match m with
    | .move k to => k ∈ Kn ∧ 0 ≤ to ∧ to ≤ 10
    | .form t f => p.st.t < t ∧ t ≤ 20000 ∧ 1 ≤ f ∧ f ≤ 4
def lastE (s : LS) (k : Str) (l : Ent) : Prop := (esC s.sh k).getLast? = some l
/-- what stands in a book is small -/
def EnOk : En → Prop
  | .pledge p => Pok p
  | .sure _ _ low => -10 ≤ low ∧ low ≤ 10000
  | _ => True
theorem ek_snoc {r : List En} {e' : En} (h : ∀ e ∈ r, EnOk e) (he : EnOk e') : ∀ e ∈ r ++ [e'], EnOk e := fun e hm => by
  rcases List.mem_append.mp hm with hm | hm
  · exact h e hm
  · rw [List.mem_singleton.mp hm]
    exact he
/-- what holds of a drawn book -/
structure Bw (b : BS) (r : List En) : Prop where
  of ::
  ek : ∀ e ∈ r, EnOk e
  gd : Gd r
  h0 : 0 ≤ b.ho
  h1 : b.ho < b.hn
  h2 : b.hn ≤ 5
  nu0 : 0 ≤ b.nu
  nul : b.nu ≤ r.length
  rl : r.length ≤ 60
  fresh : ∀ n, b.nu ≤ n → n < 1000 → (led r).nt n = Nt.no
  pn : ∀ n p, (led r).un n = some p → p.n = n ∧ 0 ≤ n ∧ n < b.nu ∧ Pok p
  se0 : 0 ≤ b.se
  se1 : b.se ≤ 10 * r.length
  la0 : -1 ≤ b.la
  la1 : b.la ≤ 10 * r.length
  fl0 : -1 ≤ b.fl
  fl1 : b.fl ≤ 10 * r.length
  tse : ∀ x : St3, x ∈ stsL r → x.t ≤ b.la ∧ x.s ≤ b.se ∧ 0 ≤ x.h ∧ x.h ≤ 10
  sh : ∀ k l, lastE (led r) k l → l.t ≤ b.la ∧ l.s ≤ b.se
  dj : ∀ n m p q, (led r).un n = some p → (led r).un m = some q → n ≠ m → ∀ k ∈ p.ws.map (·.1), ¬ k ∈ q.ws.map (·.1)
  lt : ∀ n p, (led r).un n = some p → ∀ k ∈ p.ws.map (·.1), ∀ l, lastE (led r) k l → l.t ≤ p.st.t ∧ l.s ≤ p.st.s
  su : ∀ n p low, (led r).un n = some p → ((led r).nt n).low = some low → ∃ st, ((led r).nt n).st = some st ∧ p.st.t ≤ st.t ∧ p.st.s < st.s ∧ st.h = p.home ∧ -10 ≤ low ∧ low ≤ 10000
theorem un_mem {r : List En} (g : Gd r) {n : Int} {p : Pl} (h : (led r).un n = some p) : En.pledge p ∈ r := by
  have o := of_all n g
  have e := o.up p h
  rcases o.pl with ⟨_, z⟩ | ⟨q, z, y, _⟩
  · rw [e] at z; cases z
  · rw [e] at y
    cases y
    have : En.pledge p ∈ r.filter (wkB "pledge" n) := by rw [z]; exact .head _
    exact (List.mem_filter.mp this).1
theorem mem_sts {r : List En} {e : En} {x : St3} (h : e ∈ r) (hx : x ∈ e.sts) : x ∈ stsL r := List.mem_flatMap.mpr ⟨e, h, hx⟩
theorem Bw.pst {b : BS} {r : List En} (w : Bw b r) {n : Int} {p : Pl} (h : (led r).un n = some p) : 0 ≤ p.st.t ∧ 0 ≤ p.st.s ∧ p.st.t ≤ b.la ∧ p.st.s ≤ b.se ∧ 0 ≤ p.st.h ∧ p.st.h ≤ 10 := by
  have m := mem_sts (un_mem w.gd h) (x := p.st) (.head _)
  have a := (tops_all w.gd).t0 _ m
  have c := w.tse _ m
  exact ⟨a.1, a.2, c.1, c.2.1, c.2.2.1, c.2.2.2⟩
theorem Bw.begin {ho hn : Int} (h0 : 0 ≤ ho) (h1 : ho < hn) (h2 : hn ≤ 5) : Bw ⟨ho, hn, 0, -1, 0, -1⟩ [] :=
  ⟨fun e he => (by cases he), .nil, h0, h1, h2, Int.le_refl _, Int.le_refl _, by decide, fun _ _ _ => rfl, fun n p z => (by cases z), Int.le_refl _, by show (0 : Int) ≤ 0; decide, Int.le_refl _, by show (-1 : Int) ≤ 0; decide, Int.le_refl _, by show (-1 : Int) ≤ 0; decide, fun x hx => (by cases hx), fun k l z => (by cases z), fun n m p q z => (by cases z), fun n p z => (by cases z), fun n p low z => by cases z⟩
theorem len_snoc {r : List En} {e : En} : ((r ++ [e]).length : Int) = (r.length : Int) + 1 := by
  rw [List.length_append]
  rfl
theorem kn_ok {k : Str} (h : k ∈ Kn) : Kok k := by
  have : ∀ k ∈ Kn, Kok k := by
    intro k hk
    unfold Kn at hk
    simp only [List.mem_cons, List.not_mem_nil, or_false] at hk
    rcases hk with rfl | rfl | rfl | rfl <;> exact ⟨⟨by decide, by decide⟩, by decide +kernel⟩
  exact this k h

theorem esC_putSame {c : Ct} {k : Str} {e : Ent} : esC (putC c k e) k = esC c k ++ [e] := by
  unfold esC putC
  split
  · rename_i hk
    have e1 : ∀ p : Str × List Ent, decide ((if p.1 = k then (p.1, p.2 ++ [e]) else p).1 = k) = decide (p.1 = k) := fun p => by
      by_cases z : p.1 = k <;> simp [z]
    induction c with
    | nil => cases hk
    | cons p r ih =>
      rw [List.map_cons, List.find?_cons, List.find?_cons, e1]
      by_cases z : p.1 = k
      · rw [decide_eq_true z]
        simp [z]
      · rw [decide_eq_false z]
        refine ih ?_
        unfold hasC at hk ⊢
        rw [List.any_cons, decide_eq_false z, Bool.false_or] at hk
        exact hk
  · rename_i hk
    rw [List.find?_append]
    have e2 : c.find? (fun p => decide (p.1 = k)) = none := List.find?_eq_none.mpr fun p hp z => hk (List.any_eq_true.mpr ⟨p, hp, z⟩)
    rw [e2]
    have : ([(k, [e])] : Ct).find? (fun p => decide (p.1 = k)) = some (k, [e]) := by
      rw [List.find?_cons, decide_eq_true rfl]
    rw [this]
    rfl
theorem esC_putsIn {st : St3} : ∀ {ws : List (Str × List Int)} {c : Ct} {w : Str × List Int}, (ws.map (·.1)).Nodup → w ∈ ws → esC (putsW c st ws) w.1 = esC c w.1 ++ [entS st w.2]
  | [], c, w, _, h => by cases h
  | v :: r, c, w, nd, h => by
    obtain ⟨a, b⟩ := List.nodup_cons.mp nd
    show esC (putsW (putC c v.1 _) st r) w.1 = _
    rcases List.mem_cons.mp h with rfl | h
    · rw [esC_puts a, esC_putSame]
      rfl
    · rw [esC_putsIn b h, esC_putC]
      intro e
      refine a ?_
      show v.1 ∈ r.map (·.1)
      rw [← e]
      exact List.mem_map_of_mem h
theorem esC_go' (t : Int) (c : Ct) (k : Str) : esC (goC t c) k = goE t (esC c k) := by
  unfold esC goC
  induction c with
  | nil => rfl
  | cons p r ih =>
    rw [List.map_cons, List.find?_cons, List.find?_cons]
    show Option.getD (Option.map _ (match decide (p.1 = k) with | true => _ | false => _)) [] = _
    by_cases z : p.1 = k
    · rw [decide_eq_true z]
      rfl
    · rw [decide_eq_false z]
      exact ih
theorem last_go {t : Int} {es : List Ent} {l : Ent} (h : (goE t es).getLast? = some l) : es.getLast? = some l := by
  unfold goE at h
  rw [List.getLast?_drop] at h
  split at h
  · cases h
  · exact h
theorem mem_stsn {r : List En} {e : En} {x : St3} (h : x ∈ stsL (r ++ [e])) : x ∈ stsL r ∨ x ∈ e.sts := by
  rw [stsL_snoc] at h
  exact List.mem_append.mp h
theorem Pok.wsok {s : LS} {p : Pl} {st : St3} (o : Pok p) (t0 : 0 ≤ st.t) (t1 : st.t ≤ 100000) (s0 : 0 ≤ st.s) (s1 : st.s ≤ 100000) (q0 : 0 ≤ st.h) (q1 : st.h ≤ 10) (h1 : p.st.t ≤ st.t) (h2 : p.st.s < st.s) (lt : ∀ k ∈ p.ws.map (·.1), ∀ l, lastE s k l → l.t ≤ p.st.t ∧ l.s ≤ p.st.s) : WsOk s.sh st p.ws := by
  refine ⟨Nat.le_trans o.wl (by decide), o.wn, fun w hw => kn_ok (o.wb w hw).1, fun w hw => ?_, fun w hw l hl => ?_⟩
  · obtain ⟨_, b, c, d⟩ := o.wb w hw
    exact ⟨by show -1000000000000 ≤ st.t; omega, by show st.t ≤ 1000000000000; omega, s0, by show st.s ≤ 1000000000000; omega, q0, by show st.h ≤ 1000000000000; omega, b, c, fun i hi => by have := d i hi; omega⟩
  · obtain ⟨a, b⟩ := lt w.1 (List.mem_map_of_mem hw) l hl
    show l.t < st.t ∨ (l.t = st.t ∧ (l.s < st.s ∨ (l.s = st.s ∧ l.h < st.h)))
    omega
section
variable {b : BS} {r : List En}
theorem Bw.pledge (w : Bw b r) {p : Pl} {t : Int} (hn : p.n = b.nu) (ok : Pok p) (hs : p.st = ⟨t, b.se + 1, b.ho⟩) (t1 : b.la ≤ t) (t2 : t ≤ 10 * r.length + 10) (l : r.length + 1 ≤ 60) (free : ∀ k ∈ p.ws.map (·.1), ∀ n q, (led r).un n = some q → ¬ k ∈ q.ws.map (·.1)) : Bw { b with nu := b.nu + 1, la := t, se := b.se + 1 } (r ++ [.pledge p]) := by
  have hh1 := w.h1; have hh2 := w.h2; have hh0 := w.h0; have nul := w.nul; have nu0 := w.nu0; have se0 := w.se0; have se1 := w.se1; have la0 := w.la0; have fl0 := w.fl0; have fl1 := w.fl1
  have st0 := ok.t1
  rw [hs] at st0
  have v : Vd (led r) (.pledge p) := ⟨w.fresh _ (by omega) (by omega), ok.t1, ok.s1⟩
  have e0 : led (r ++ [.pledge p]) = (led r).note (.pledge p) := led_snoc _ _
  have eu : (led (r ++ [.pledge p])).un = setN (led r).un p.n (some p) := by rw [e0]; rfl
  have en : (led (r ++ [.pledge p])).nt = setN (led r).nt p.n { (led r).nt p.n with w := some "pledged", p := some p } := by rw [e0]; rfl
  have es : (led (r ++ [.pledge p])).sh = (led r).sh := by rw [e0]; rfl
  have unn : ∀ n q, setN (led r).un p.n (some p) n = some q → (n = p.n ∧ q = p) ∨ (n ≠ p.n ∧ (led r).un n = some q) := fun n q h => by
    unfold setN at h
    by_cases c : n = p.n
    · rw [if_pos c] at h
      cases h
      exact .inl ⟨c, rfl⟩
    · rw [if_neg c] at h
      exact .inr ⟨c, h⟩
  refine ⟨ek_snoc w.ek ok, w.gd.snoc v, w.h0, w.h1, w.h2, by show 0 ≤ b.nu + 1; omega, by rw [len_snoc]; show b.nu + 1 ≤ _; omega, by rw [List.length_append]; exact l, fun n h1 h2 => ?_, fun n q h => ?_, by show 0 ≤ b.se + 1; omega, by rw [len_snoc]; show b.se + 1 ≤ _; omega, by show -1 ≤ t; omega, by rw [len_snoc]; show t ≤ _; omega, w.fl0, by rw [len_snoc]; show b.fl ≤ _; omega, fun x hx => ?_, fun k y h => ?_, fun n m q q' h h' ne => ?_, fun n q h k hk y hy => ?_, fun n q low h hl => ?_⟩
  · have h1 : b.nu + 1 ≤ n := h1
    rw [en, setN_ne _ _ (by omega)]
    exact w.fresh n (by omega) h2
  · rw [eu] at h
    rcases unn n q h with ⟨a, c⟩ | ⟨a, c⟩
    · subst c
      exact ⟨a.symm, by omega, by show n < b.nu + 1; omega, ok⟩
    · obtain ⟨x1, x2, x3, x4⟩ := w.pn n q c
      exact ⟨x1, x2, by show n < b.nu + 1; omega, x4⟩
  · rcases mem_stsn hx with h | h
    · obtain ⟨x1, x2, x3⟩ := w.tse x h
      exact ⟨by show x.t ≤ t; omega, by show x.s ≤ b.se + 1; omega, x3⟩
    · have : x = p.st := List.mem_singleton.mp h
      rw [this, hs]
      exact ⟨Int.le_refl _, Int.le_refl _, by show 0 ≤ b.ho; omega, by show b.ho ≤ 10; omega⟩
  · unfold lastE at h
    rw [es] at h
    obtain ⟨x1, x2⟩ := w.sh k y h
    exact ⟨by show y.t ≤ t; omega, by show y.s ≤ b.se + 1; omega⟩
  · rw [eu] at h h'
    rcases unn n q h with ⟨a, c⟩ | ⟨a, c⟩ <;> rcases unn m q' h' with ⟨a', c'⟩ | ⟨a', c'⟩
    · exact absurd (a.trans a'.symm) ne
    · subst c
      exact fun k hk => free k hk m q' c'
    · subst c'
      exact fun k hk hk' => free k hk' n q c hk
    · exact w.dj n m q q' c c' ne
  · unfold lastE at hy
    rw [es] at hy
    rw [eu] at h
    rcases unn n q h with ⟨a, c⟩ | ⟨a, c⟩
    · subst c
      obtain ⟨x1, x2⟩ := w.sh k y hy
      rw [hs]
      exact ⟨by show y.t ≤ t; omega, by show y.s ≤ b.se + 1; omega⟩
    · exact w.lt n q c k hk y hy
  · rw [eu] at h
    rw [en] at hl ⊢
    rcases unn n q h with ⟨a, c⟩ | ⟨a, c⟩
    · subst a
      rw [setN_at] at hl
      have z : ((led r).nt p.n).low = some low := hl
      rw [v.1] at z
      cases z
    · rw [setN_ne _ _ a] at hl ⊢
      exact w.su n q low c hl
theorem Bw.sure (w : Bw b r) {n : Int} {p : Pl} {st : St3} {low : Int} (hp : (led r).un n = some p) (hl : ((led r).nt n).low = none) (t1 : p.st.t ≤ st.t) (t2 : st.t ≤ 10 * r.length + 10) (s1 : p.st.s < st.s) (s2 : st.s ≤ 10 * r.length + 10) (hh : st.h = p.home) (l1 : -10 ≤ low) (l2 : low ≤ 10000) (l : r.length + 1 ≤ 60) {la se : Int} (ela : b.la ≤ la) (ela2 : st.t ≤ la) (ela3 : la ≤ 10 * r.length + 10) (ese : b.se ≤ se) (ese2 : st.s ≤ se) (ese3 : se ≤ 10 * r.length + 10) : Bw { b with la := la, se := se } (r ++ [.sure n st low]) := by
  have hh1 := w.h1; have hh2 := w.h2; have hh0 := w.h0; have nul := w.nul; have nu0 := w.nu0; have se0 := w.se0; have se1 := w.se1; have la0 := w.la0; have fl0 := w.fl0; have fl1 := w.fl1
  obtain ⟨q1, q2, q3, q4, q5, q6⟩ := w.pst hp
  obtain ⟨pn1, pn2, pn3, pk⟩ := w.pn n p hp
  have v : Vd (led r) (.sure n st low) := ⟨by rw [hp]; rfl, hl, by omega, by omega⟩
  have e0 : led (r ++ [.sure n st low]) = (led r).note (.sure n st low) := led_snoc _ _
  have eu : (led (r ++ [.sure n st low])).un = (led r).un := by rw [e0]; rfl
  have en : (led (r ++ [.sure n st low])).nt = setN (led r).nt n ⟨some "sure", ((led r).nt n).p, some st, some low⟩ := by rw [e0]; rfl
  have es : (led (r ++ [.sure n st low])).sh = (led r).sh := by rw [e0]; rfl
  have ho1 := pk.h1; have ho2 := pk.h2
  refine ⟨ek_snoc w.ek ⟨l1, l2⟩, w.gd.snoc v, w.h0, w.h1, w.h2, w.nu0, by rw [len_snoc]; show b.nu ≤ _; omega, by rw [List.length_append]; exact l, fun m h1 h2 => ?_, fun m q h => ?_, by show 0 ≤ se; omega, by rw [len_snoc]; show se ≤ _; omega, by show -1 ≤ la; omega, by rw [len_snoc]; show la ≤ _; omega, w.fl0, by rw [len_snoc]; show b.fl ≤ _; omega, fun x hx => ?_, fun k y h => ?_, fun m m' q q' h h' ne => ?_, fun m q h k hk y hy => ?_, fun m q lw h hlw => ?_⟩
  · rw [en, setN_ne _ _ (by have h1 : b.nu ≤ m := h1; omega)]
    exact w.fresh m h1 h2
  · rw [eu] at h
    exact w.pn m q h
  · rcases mem_stsn hx with h | h
    · obtain ⟨x1, x2, x3⟩ := w.tse x h
      exact ⟨by show x.t ≤ la; omega, by show x.s ≤ se; omega, x3⟩
    · have : x = st := List.mem_singleton.mp h
      rw [this]
      exact ⟨ela2, ese2, by omega, by omega⟩
  · unfold lastE at h
    rw [es] at h
    obtain ⟨x1, x2⟩ := w.sh k y h
    exact ⟨by show y.t ≤ la; omega, by show y.s ≤ se; omega⟩
  · rw [eu] at h h'
    exact w.dj m m' q q' h h' ne
  · unfold lastE at hy
    rw [es] at hy
    rw [eu] at h
    exact w.lt m q h k hk y hy
  · rw [eu] at h
    rw [en] at hlw ⊢
    by_cases c : m = n
    · subst c
      rw [hp] at h
      cases h
      rw [setN_at] at hlw ⊢
      have hlw : some low = some lw := hlw
      cases hlw
      exact ⟨st, rfl, t1, s1, hh, l1, l2⟩
    · rw [setN_ne _ _ c] at hlw ⊢
      exact w.su m q lw h hlw
theorem Bw.done (w : Bw b r) {n : Int} {p : Pl} {st : St3} (hp : (led r).un n = some p) (t1 : p.st.t ≤ st.t) (t2 : st.t ≤ 10 * r.length + 10) (s1 : p.st.s < st.s) (s2 : st.s ≤ 10 * r.length + 10) (hh : st.h = p.home) (l : r.length + 1 ≤ 60) {la se : Int} (ela : b.la ≤ la) (ela2 : st.t ≤ la) (ela3 : la ≤ 10 * r.length + 10) (ese : b.se ≤ se) (ese2 : st.s ≤ se) (ese3 : se ≤ 10 * r.length + 10) : Bw { b with la := la, se := se } (r ++ [.done n st]) := by
  have hh1 := w.h1; have hh2 := w.h2; have hh0 := w.h0; have nul := w.nul; have nu0 := w.nu0; have se0 := w.se0; have se1 := w.se1; have la0 := w.la0; have fl0 := w.fl0; have fl1 := w.fl1
  obtain ⟨q1, q2, q3, q4, q5, q6⟩ := w.pst hp
  obtain ⟨pn1, pn2, pn3, pk⟩ := w.pn n p hp
  have ho1 := pk.h1; have ho2 := pk.h2
  have rl : (r.length : Int) ≤ 59 := by omega
  have ep := (of_all n w.gd).up p hp
  have wo : WsOk (led r).sh st p.ws := pk.wsok (by omega) (by omega) (by omega) (by omega) (by omega) (by omega) t1 s1 (w.lt n p hp)
  have v : Vd (led r) (.done n st) := ⟨by rw [hp]; rfl, by rw [ep]; exact wo, by omega, by omega⟩
  have e0 : led (r ++ [.done n st]) = (led r).note (.done n st) := led_snoc _ _
  obtain ⟨dn, du, _⟩ := note_done_nt (led r) n st
  have ds := note_done_sh (led r) n st
  rw [ep] at ds
  have eu : (led (r ++ [.done n st])).un = setN (led r).un n none := by rw [e0]; exact du
  have en : (led (r ++ [.done n st])).nt = setN (led r).nt n { (led r).nt n with w := some "done", st := some st } := by rw [e0]; exact dn
  have es : (led (r ++ [.done n st])).sh = putsW (led r).sh st p.ws := by rw [e0]; exact ds
  have unn : ∀ m q, setN (led r).un n none m = some q → m ≠ n ∧ (led r).un m = some q := fun m q h => by
    unfold setN at h
    by_cases c : m = n
    · rw [if_pos c] at h
      cases h
    · rw [if_neg c] at h
      exact ⟨c, h⟩
  refine ⟨ek_snoc w.ek trivial, w.gd.snoc v, w.h0, w.h1, w.h2, w.nu0, by rw [len_snoc]; show b.nu ≤ _; omega, by rw [List.length_append]; exact l, fun m h1 h2 => ?_, fun m q h => ?_, by show 0 ≤ se; omega, by rw [len_snoc]; show se ≤ _; omega, by show -1 ≤ la; omega, by rw [len_snoc]; show la ≤ _; omega, w.fl0, by rw [len_snoc]; show b.fl ≤ _; omega, fun x hx => ?_, fun k y h => ?_, fun m m' q q' h h' ne => ?_, fun m q h k hk y hy => ?_, fun m q lw h hlw => ?_⟩
  · rw [en, setN_ne _ _ (by have h1 : b.nu ≤ m := h1; omega)]
    exact w.fresh m h1 h2
  · rw [eu] at h
    exact w.pn m q (unn m q h).2
  · rcases mem_stsn hx with h | h
    · obtain ⟨x1, x2, x3⟩ := w.tse x h
      exact ⟨by show x.t ≤ la; omega, by show x.s ≤ se; omega, x3⟩
    · have : x = st := List.mem_singleton.mp h
      rw [this]
      exact ⟨ela2, ese2, by omega, by omega⟩
  · unfold lastE at h
    rw [es] at h
    by_cases c : k ∈ p.ws.map (·.1)
    · obtain ⟨u, hu, rfl⟩ := List.mem_map.mp c
      rw [esC_putsIn pk.wn hu, List.getLast?_concat] at h
      cases h
      exact ⟨ela2, ese2⟩
    · rw [esC_puts c] at h
      obtain ⟨x1, x2⟩ := w.sh k y h
      exact ⟨by show y.t ≤ la; omega, by show y.s ≤ se; omega⟩
  · rw [eu] at h h'
    exact w.dj m m' q q' (unn _ _ h).2 (unn _ _ h').2 ne
  · unfold lastE at hy
    rw [eu] at h
    obtain ⟨c, h⟩ := unn m q h
    rw [es, esC_puts (w.dj m n q p h hp c k hk)] at hy
    exact w.lt m q h k hk y hy
  · rw [eu] at h
    obtain ⟨c, h⟩ := unn m q h
    rw [en] at hlw ⊢
    rw [setN_ne _ _ c] at hlw ⊢
    exact w.su m q lw h hlw
/-- one ended, or a number never pledged -/
theorem Bw.off (w : Bw b r) {n : Int} {nu : Int} (hn : (n < b.nu ∧ nu = b.nu) ∨ (n = 1000 + b.nu ∧ nu = b.nu + 1)) (l : r.length + 1 ≤ 60) : Bw { b with nu := nu } (r ++ [.off n]) := by
  have hh1 := w.h1; have hh2 := w.h2; have hh0 := w.h0; have nul := w.nul; have nu0 := w.nu0; have se0 := w.se0; have se1 := w.se1; have la0 := w.la0; have la1 := w.la1; have fl0 := w.fl0; have fl1 := w.fl1
  have v : Vd (led r) (.off n) := trivial
  have e0 : led (r ++ [.off n]) = (led r).note (.off n) := led_snoc _ _
  have eu : (led (r ++ [.off n])).un = setN (led r).un n none := by rw [e0]; rfl
  have en : (led (r ++ [.off n])).nt = setN (led r).nt n { (led r).nt n with w := some "off" } := by rw [e0]; rfl
  have es : (led (r ++ [.off n])).sh = (led r).sh := by rw [e0]; rfl
  have unn : ∀ m q, setN (led r).un n none m = some q → m ≠ n ∧ (led r).un m = some q := fun m q h => by
    unfold setN at h
    by_cases c : m = n
    · rw [if_pos c] at h
      cases h
    · rw [if_neg c] at h
      exact ⟨c, h⟩
  refine ⟨ek_snoc w.ek trivial, w.gd.snoc v, w.h0, w.h1, w.h2, by show 0 ≤ nu; omega, by rw [len_snoc]; show nu ≤ _; omega, by rw [List.length_append]; exact l, fun m h1 h2 => ?_, fun m q h => ?_, w.se0, by rw [len_snoc]; show b.se ≤ _; omega, w.la0, by rw [len_snoc]; show b.la ≤ _; omega, w.fl0, by rw [len_snoc]; show b.fl ≤ _; omega, fun x hx => ?_, fun k y h => ?_, fun m m' q q' h h' ne => ?_, fun m q h k hk y hy => ?_, fun m q lw h hlw => ?_⟩
  · have h1 : nu ≤ m := h1
    rw [en, setN_ne _ _ (by omega)]
    exact w.fresh m (by omega) h2
  · rw [eu] at h
    obtain ⟨x1, x2, x3, x4⟩ := w.pn m q (unn m q h).2
    exact ⟨x1, x2, by show m < nu; omega, x4⟩
  · rcases mem_stsn hx with h | h
    · exact w.tse x h
    · cases h
  · unfold lastE at h
    rw [es] at h
    exact w.sh k y h
  · rw [eu] at h h'
    exact w.dj m m' q q' (unn _ _ h).2 (unn _ _ h').2 ne
  · unfold lastE at hy
    rw [es] at hy
    rw [eu] at h
    exact w.lt m q (unn _ _ h).2 k hk y hy
  · rw [eu] at h
    obtain ⟨c, h⟩ := unn m q h
    rw [en] at hlw ⊢
    rw [setN_ne _ _ c] at hlw ⊢
    exact w.su m q lw h hlw
/-- a mark, or elder ones let go -/
theorem Bw.flo (w : Bw b r) {e : En} {t fl : Int} (he : (e = .mark t ∧ -1 ≤ t) ∨ e = .gone t) (f1 : b.fl ≤ fl) (f2 : fl ≤ 10 * r.length + 10) (l : r.length + 1 ≤ 60) : Bw { b with fl := fl } (r ++ [e]) := by
  have hh1 := w.h1; have hh2 := w.h2; have hh0 := w.h0; have nul := w.nul; have nu0 := w.nu0; have se0 := w.se0; have se1 := w.se1; have la0 := w.la0; have la1 := w.la1; have fl0 := w.fl0; have fl1 := w.fl1
  have e0 : led (r ++ [e]) = (led r).note e := led_snoc _ _
  have v : Vd (led r) e := by
    rcases he with ⟨rfl, h⟩ | rfl
    · exact h
    · trivial
  have eu : (led (r ++ [e])).un = (led r).un := by rw [e0]; rcases he with ⟨rfl, _⟩ | rfl <;> rfl
  have en : (led (r ++ [e])).nt = (led r).nt := by rw [e0]; rcases he with ⟨rfl, _⟩ | rfl <;> rfl
  have es : ∀ k y, lastE (led (r ++ [e])) k y → lastE (led r) k y := fun k y h => by
    rw [e0] at h
    rcases he with ⟨rfl, _⟩ | rfl
    · exact h
    · have h : (esC (goC t (led r).sh) k).getLast? = some y := h
      rw [esC_go'] at h
      exact last_go h
  have et : e.sts = [] := by rcases he with ⟨rfl, _⟩ | rfl <;> rfl
  refine ⟨ek_snoc w.ek (by rcases he with ⟨rfl, _⟩ | rfl <;> trivial), w.gd.snoc v, w.h0, w.h1, w.h2, w.nu0, by rw [len_snoc]; show b.nu ≤ _; omega, by rw [List.length_append]; exact l, fun m h1 h2 => ?_, fun m q h => ?_, w.se0, by rw [len_snoc]; show b.se ≤ _; omega, w.la0, by rw [len_snoc]; show b.la ≤ _; omega, by show -1 ≤ fl; omega, by rw [len_snoc]; show fl ≤ _; omega, fun x hx => ?_, fun k y h => w.sh k y (es k y h), fun m m' q q' h h' ne => ?_, fun m q h k hk y hy => ?_, fun m q lw h hlw => ?_⟩
  · rw [en]
    exact w.fresh m h1 h2
  · rw [eu] at h
    exact w.pn m q h
  · rcases mem_stsn hx with h | h
    · exact w.tse x h
    · rw [et] at h
      cases h
  · rw [eu] at h h'
    exact w.dj m m' q q' h h' ne
  · rw [eu] at h
    exact w.lt m q h k hk y (es k y hy)
  · rw [eu] at h
    rw [en] at hlw ⊢
    exact w.su m q lw h hlw
end

/-! ### promises of the law's own book -/
def BPok (s : Addr) (A : BA) : Prop := ¬ s ∈ bOwn A
structure WB (H : Hp) (s : Addr) (A : BA) (b : BS) (zs : List (V × En)) : Prop where
  of ::
  bag : BagAt H s
  bk : BAt H A b zs (led (zs.map (·.2))) zs.length
  w : Bw b (zs.map (·.2))
  ns : ¬ s ∈ bOwn A
section
variable {H H' : Hp} {s : Addr} {A : BA} {b : BS} {zs : List (V × En)}
theorem Fr.tkS {H H' : Hp} {s : Addr} (k : Fr s H H') (h : BagAt H s) : Tk H H' := fun c xs e => by
  obtain ⟨x, y, hs, _⟩ := h
  exact k c _ (ne_of e hs (by intro z; cases z)) e
theorem Fr.tupB {H H' : Hp} {s p : Addr} {xs : List V} (k : Fr s H H') (h : BagAt H s) (e : H p = some (.tup xs)) : H' p = some (.tup xs) := k.tkS h _ _ e
/-- the state of draws alone goes on -/
theorem WB.fr (h : WB H s A b zs) (k : Fr s H H') (hb : BagAt H' s) : WB H' s A b zs :=
  ⟨hb, h.bk.keep (k.tkS h.bag) fun c hc o e => k c o (fun z => h.ns (z ▸ hc)) e, h.w, h.ns⟩
theorem WB.same (h : WB H s A b zs) (k : Same H H') : WB H' s A b zs := ⟨h.bag.same k, h.bk.same k, h.w, h.ns⟩
theorem WB.upd (h : WB H s A b zs) {D : Addr} {xs : List V} {o : HO} (hD : H D = some (.lst xs)) (n1 : D ≠ s) (n2 : ¬ D ∈ bOwn A) : WB (upd H D o) s A b zs :=
  ⟨by
    obtain ⟨x, y, e, r⟩ := h.bag
    exact ⟨x, y, by rw [upd_ne (Ne.symm n1)]; exact e, r⟩, h.bk.keep (fun c xs e => by rw [upd_ne (ne_of e hD (by intro z; cases z))]; exact e) fun c hc o e => by rw [upd_ne (fun z => n2 (by rw [← z]; exact hc))]; exact e, h.w, h.ns⟩
theorem WB.new (h : WB H s A b zs) {D : Addr} (nD : H D = none) : D ≠ s ∧ ¬ D ∈ bOwn A := ⟨h.bag.ne_new nD, h.bk.nnew nD⟩
theorem WB.len (h : WB H s A b zs) : zs.length ≤ 60 := by
  have := h.w.rl
  rw [List.length_map] at this
  exact this
end
theorem BagAt.keepU {H : Hp} {s D : Addr} {o : HO} (h : BagAt H s) (n : D ≠ s) : BagAt (upd H D o) s := by
  obtain ⟨a, b, e, r⟩ := h
  exact ⟨a, b, by rw [upd_ne (Ne.symm n)]; exact e, r⟩
theorem Fr.freeB {H H1 : Hp} {s p : Addr} (k : Fr s H H1) (h : BagAt H1 s) (e : H1 p = none) : H p = none := by
  cases z : H p with
  | none => rfl
  | some o =>
    have := k p o (h.ne_new e) z
    rw [e] at this
    cases this
theorem FrB.newD {s : Addr} {A : BA} {H H1 : Hp} {D : Addr} {o : HO} (a : FrB s A H H1) (h : H D = none) : FrB s A H (upd H1 D o) := fun c u n m e => by
  rw [upd_ne (ne_of_none e h)]
  exact a c u n m e
theorem FrB.free {s : Addr} {A : BA} {b : BS} {zs : List (V × En)} {H H1 : Hp} {D : Addr} (a : FrB s A H H1) (w : WB H1 s A b zs) (h : H1 D = none) : H D = none := by
  obtain ⟨n1, n2⟩ := w.new h
  cases e : H D with
  | none => rfl
  | some o =>
    have := a D o n1 n2 e
    rw [h] at this
    cases this
def spWorth : Sp := fun vs H Q _ => ∃ s, vs = [.ref s] ∧ BagAt H s ∧ ∀ (ns : List Int) (p : Addr) (H' : Hp), Fr s H H' → BagAt H' s → H p = none → H' p = some (.tup (ns.map V.int)) → 1 ≤ ns.length → ns.length ≤ 4 → (∀ i ∈ ns, -9 ≤ i ∧ i ≤ 40) → Q (.ref p) H'
/-- letters a to z alone -/
def letN (c : Nat) : Prop := 97 ≤ c ∧ c ≤ 122
def KLet (k : Str) : Prop := ∀ c ∈ k.cps.toList, letN c
def spFirst : Sp := fun vs H Q _ => ∃ k hn, vs = [.str k, .int hn] ∧ KLet k ∧ k.cps.toList.length ≤ 100 ∧ 0 < hn ∧ ∀ H', Same H H' → Q (.int (firstK k hn)) H'
def spStateB : Sp := fun vs H Q _ => ∃ ho hn, vs = [.int ho, .int hn] ∧ 0 ≤ ho ∧ ho < hn ∧ hn ≤ 5 ∧ ∀ A H', Same H H' → BAt H' A ⟨ho, hn, 0, -1, 0, -1⟩ [] (led []) 0 → (∀ c ∈ bOwn A, H c = none) → Q (.ref A.m) H'
def freeK (s : LS) (k : Str) : Prop := ∀ n q, s.un n = some q → ¬ k ∈ q.ws.map (·.1)
def spBusy : Sp := fun vs H Q _ => ∃ A b zs s k N, vs = [.ref A.m, .str k] ∧ BAt H A b zs s N ∧ N ≤ 60 ∧ (∀ n q, s.un n = some q → Pok q) ∧ ∀ (p : Addr) (xs : List Str) (H' : Hp), Same H H' → H p = none → H' p = some (.lst (xs.map V.str)) → (xs = [] → freeK s k) → xs.length ≤ 200 → Q (.ref p) H'
def spForms : Sp := fun vs H Q _ => ∃ A b zs s N, vs = [.ref A.m] ∧ BAt H A b zs s N ∧ N ≤ 60 ∧ ∀ (p : Addr) (ts : List Int) (H' : Hp), Same H H' → H p = none → H' p = some (.lst (ts.map V.int)) → ts.length ≤ 60 → Q (.ref p) H'
/-! #### what is done -/
def More.w : More → Str
  | .move _ _ => "move"
  | .form _ _ => "form"
def plF (r : List En) (n : Int) : Option Pl := match r.filter (wkB "pledge" n) with
  | .pledge p :: _ => some p
  | _ => none
def doneE (r : List En) (z : Str) : En → Option (St3 × More)
  | .done n st => match plF r n with
    | some p => match p.more with
      | some m => if m.w = z then some (st, m) else none
      | none => none
    | none => none
  | _ => none
def doneL (r : List En) (z : Str) : List (St3 × More) := r.filterMap (doneE r z)
def dmD (x : St3 × More) : PyData := .tuple [x.1.d, x.2.d]
theorem doneL_w {r : List En} {z : Str} {x : St3 × More} (h : x ∈ doneL r z) : x.2.w = z := by
  obtain ⟨e, _, he⟩ := List.mem_filterMap.mp h
  cases e with
  | done n st =>
    have he : (match plF r n with | some p => (match p.more with | some m => if m.w = z then some (st, m) else none | none => none) | none => none) = some x := he
    cases e1 : plF r n with
    | none => rw [e1] at he; cases he
    | some p =>
      rw [e1] at he
      have he : (match p.more with | some m => if m.w = z then some (st, m) else none | none => none) = some x := he
      cases e2 : p.more with
      | none => rw [e2] at he; cases he
      | some m =>
        rw [e2] at he
        have he : (if m.w = z then some (st, m) else none) = some x := he
        by_cases c : m.w = z
        · rw [if_pos c] at he
          cases he
          exact c
        · rw [if_neg c] at he
          cases he
  | _ => cases he
def moveAt (k : Str) (t : Int) (a : Int) (x : St3 × More) : Int := match x.2 with
  | .move k' to => if k' = k ∧ x.1.t ≤ t then to else a
  | _ => a
def atL (r : List En) (k : Str) (t hn : Int) : Int := (doneL r "move").foldl (moveAt k t) (firstK k hn)
def spDoneB : Sp := fun vs H Q _ => ∃ a zs z, vs = [.ref a, .str z] ∧ RowsL H a zs ∧ Gd (zs.map (·.2)) ∧ zs.length ≤ 60 ∧ ∀ (p : Addr) (xs : List V) (H' : Hp), Same H H' → H p = none → H' p = some (.lst xs) → TDAll H' xs ((doneL (zs.map (·.2)) z).map dmD) → (doneL (zs.map (·.2)) z).length ≤ 60 → Q (.ref p) H'
def spAtB : Sp := fun vs H Q _ => ∃ a zs k t ho hn, vs = [.ref a, .str k, .int t, .int ho, .int hn] ∧ RowsL H a zs ∧ Gd (zs.map (·.2)) ∧ zs.length ≤ 60 ∧ KLet k ∧ k.cps.toList.length ≤ 100 ∧ 0 < hn ∧ ∀ H', Same H H' → Q (.int (atL (zs.map (·.2)) k t hn)) H'
def moreOk (s : LS) (k : Str) (t : Int) : Option More → Prop
  | none => True
  | some (.move k' to) => k' = k ∧ 0 ≤ to ∧ to ≤ 10 ∧ freeK s k
  | some (.form t' f) => t < t' ∧ t' ≤ 20000 ∧ 1 ≤ f ∧ f ≤ 4
def spMoreB : Sp := fun vs H Q _ => ∃ s A b zs k t, vs = [.ref s, .ref A.m, .str k, .int t] ∧ WB H s A b zs ∧ k ∈ Kn ∧ t ≤ 1000 ∧ ∀ (m : Option More) (v : V) (H' : Hp), Fr s H H' → BagAt H' s → TD H' v (moreD m) → moreOk (led (zs.map (·.2))) k t m → Q v H'
/-- a step of the law's: at most one row more -/
def spStepB (P : LS → Prop) : Sp := fun vs H Q _ => ∃ s A b zs, vs = [.ref s, .ref A.m] ∧ WB H s A b zs ∧ zs.length + 1 ≤ 60 ∧ P (led (zs.map (·.2))) ∧ ∀ (b' : BS) (ys : List (V × En)) (H' : Hp), FrB s A H H' → WB H' s A b' (zs ++ ys) → ys.length ≤ 1 → b'.ho = b.ho → b'.hn = b.hn → Q .non H'
theorem un_at {H : Hp} {kv : List (Key × V)} {f : Int → Option Pl} (nd : (kv.map (·.1)).Nodup) (ks : ∀ k ∈ kv.map (·.1), ∃ i : Int, k = Sum.inl i) (g : ∀ n, match valV kv (Sum.inl n) with
    | none => f n = none
    | some v => ∃ p, f n = some p ∧ TD H v p.d) {i : Nat} {k : Key} {v : V} (h : kv[i]? = some (k, v)) : ∃ n p, k = Sum.inl n ∧ valV kv (Sum.inl n) = some v ∧ f n = some p ∧ TD H v p.d := by
  have hm := List.mem_of_getElem? h
  obtain ⟨n, rfl⟩ := ks k (List.mem_map.mpr ⟨_, hm, rfl⟩)
  have hv : valV kv (Sum.inl n) = some v := by
    unfold valV
    have : kv.find? (fun kv => decide (kv.1 = Sum.inl n)) = some (Sum.inl n, v) := by
      cases e : kv.find? (fun kv => decide (kv.1 = Sum.inl n)) with
      | none => exact absurd (decide_eq_true rfl) (List.find?_eq_none.mp e _ hm)
      | some q =>
        have h1 := List.mem_of_find?_eq_some e
        have h2 : q.1 = Sum.inl n := of_decide_eq_true (List.find?_some (p := fun kv : Key × V => decide (kv.1 = Sum.inl n)) e)
        have := nodup_eq nd h1 hm h2
        rw [this]
    rw [this]
    rfl
  have := g n
  rw [hv] at this
  obtain ⟨p, e, t⟩ := this
  exact ⟨n, p, rfl, hv, e, t⟩
theorem un_in {H : Hp} {kv : List (Key × V)} {f : Int → Option Pl} (g : ∀ n, match valV kv (Sum.inl n) with
    | none => f n = none
    | some v => ∃ p, f n = some p ∧ TD H v p.d) {n : Int} {p : Pl} (h : f n = some p) : ∃ (i : Nat) (v : V), kv[i]? = some (Sum.inl n, v) := by
  have := g n
  cases e : valV kv (Sum.inl n) with
  | none => rw [e, h] at this; cases this
  | some v =>
    have hk : (Sum.inl n : Key) ∈ kv.map (·.1) := val_some_iff.mp (by rw [e]; rfl)
    obtain ⟨x, hx, ex⟩ := List.mem_map.mp hk
    obtain ⟨i, hi⟩ := List.getElem?_of_mem hx
    exact ⟨i, x.2, by rw [hi, ← ex]⟩
theorem lock_same' {H H2 : Hp} {a : Addr} {od : Obj} {u : HO} (e : H a = some u) (s : Same (upd H a (.frz od u)) H2) : Same H (upd H2 a u) := fun b o z => by
  by_cases c : b = a
  · subst c
    rw [upd_same, ← z]
    exact e.symm
  · rw [upd_ne c]
    exact s b o (by rw [upd_ne c]; exact z)
theorem inV_strs (k : Str) (xs : List Str) : inV (.str k) (xs.map V.str) = decide (k ∈ xs) := by
  unfold inV
  rw [List.any_map, Bool.eq_iff_iff, List.any_eq_true, decide_eq_true_eq]
  constructor
  · rintro ⟨x, hx, e⟩
    have e : (x == k) = true := e
    rw [beq_iff_eq] at e
    exact e ▸ hx
  · intro h
    exact ⟨k, h, by show (k == k) = true; exact beq_self_eq_true _⟩
theorem flat_strs (xs : List Str) : (xs.map V.str).all flatV = true := List.all_eq_true.mpr fun v hv => by
  obtain ⟨x, _, rfl⟩ := List.mem_map.mp hv
  rfl
theorem alpha_index {c : Nat} (h : letN c) : ∃ k : Nat, Txt.index0 ("abcdefghijklmnopqrstuvwxyz" : Str) ⟨#[c]⟩ = some k ∧ (k : Int) = (c : Int) - 97 := by
  have all : ∀ i < 26, Txt.index0 ("abcdefghijklmnopqrstuvwxyz" : Str) ⟨#[97 + i]⟩ = some i := by decide +kernel
  obtain ⟨h1, h2⟩ := h
  refine ⟨c - 97, ?_, by omega⟩
  have := all (c - 97) (by omega)
  rw [show 97 + (c - 97) = c by omega] at this
  exact this
/-- a pledge's own parts, raw -/
theorem wr_at {H : Hp} {v : V} {w : Str × List Int} (h : TD H v (wrD w)) : ∃ q b, v = .ref q ∧ H q = some (.tup [.str w.1, .ref b]) ∧ H b = some (.tup (w.2.map V.int)) := by
  obtain ⟨q, xs, rfl, hq, t⟩ := td_tup h
  obtain ⟨_, _, rfl, t1, t⟩ := td_cons t
  obtain ⟨u, _, rfl, t2, t⟩ := td_cons t
  rw [td_nil t, td_str t1] at hq
  obtain ⟨b, ys, rfl, hb, t⟩ := td_tup t2
  rw [td_ints t] at hb
  exact ⟨q, b, rfl, hq, hb⟩
theorem more_at {H : Hp} {v : V} {m : More} (h : TD H v m.d) : ∃ q x y, v = .ref q ∧ H q = some (.tup [.str m.w, x, y]) ∧ (∀ k to, m = .move k to → x = .str k ∧ y = .int to) ∧ (∀ t f, m = .form t f → x = .int t ∧ y = .int f) := by
  cases m with
  | move k to =>
    obtain ⟨q, xs, rfl, hq, t⟩ := td_tup h
    obtain ⟨_, _, rfl, t0, t⟩ := td_cons t
    obtain ⟨_, _, rfl, t1, t⟩ := td_cons t
    obtain ⟨_, _, rfl, t2, t⟩ := td_cons t
    rw [td_nil t, td_str t0, td_str t1, td_int t2] at hq
    exact ⟨q, _, _, rfl, hq, fun k' to' e => by cases e; exact ⟨rfl, rfl⟩, fun t f e => by cases e⟩
  | form t f =>
    obtain ⟨q, xs, rfl, hq, tt⟩ := td_tup h
    obtain ⟨_, _, rfl, t0, tt⟩ := td_cons tt
    obtain ⟨_, _, rfl, t1, tt⟩ := td_cons tt
    obtain ⟨_, _, rfl, t2, tt⟩ := td_cons tt
    rw [td_nil tt, td_str t0, td_int t1, td_int t2] at hq
    exact ⟨q, _, _, rfl, hq, fun k' to' e => (by cases e), fun t f e => by cases e; exact ⟨rfl, rfl⟩⟩
/-- of what is done the pledge stands -/
theorem done_pl {r : List En} (g : Gd r) : ∀ {n : Int} {st : St3}, En.done n st ∈ r → ∃ p, r.filter (wkB "pledge" n) = [.pledge p] ∧ p.n = n := by
  induction g with
  | nil => intro n st h; cases h
  | @snoc r e g v ih =>
    intro n st h
    have o := of_all n (g.snoc v)
    have key : ∃ p, r.filter (wkB "pledge" n) = [.pledge p] := by
      rcases List.mem_append.mp h with h | h
      · obtain ⟨p, e1, _⟩ := ih h
        exact ⟨p, e1⟩
      · have e1 : e = .done n st := (List.mem_singleton.mp h).symm
        subst e1
        have o' := of_all n g
        have hu : ((led r).un n).isSome = true := v.1
        obtain ⟨p, hp⟩ := Option.isSome_iff_exists.mp hu
        have hp := o'.up p hp
        rcases o'.pl with ⟨_, z⟩ | ⟨q, z, _, _⟩
        · rw [hp] at z; cases z
        · exact ⟨q, z⟩
    obtain ⟨p, e1⟩ := key
    rcases o.pl with ⟨z, _⟩ | ⟨q, z, _, eq⟩
    · rw [filt_snoc, e1] at z
      split at z
      · cases z
      · cases z
    · rw [filt_snoc] at z ⊢
      by_cases c : wkB "pledge" n e = true
      · rw [if_pos c, e1] at z
        exact absurd (congrArg List.length z) (by simp)
      · rw [if_neg c, e1] at z ⊢
        cases z
        exact ⟨p, rfl, eq⟩
theorem selB_one {f : En → Bool} {zs : List (V × En)} {e : En} (h : (zs.map (·.2)).filter f = [e]) : ∃ v, selB f zs = [(v, e)] ∧ (v, e) ∈ zs := by
  have h1 := selB_snd f zs
  rw [h] at h1
  cases e2 : selB f zs with
  | nil => rw [e2] at h1; cases h1
  | cons z r =>
    rw [e2] at h1
    cases r with
    | cons _ _ => exact absurd (congrArg List.length h1) (by simp)
    | nil =>
      have : z.2 = e := by simpa using h1
      subst this
      exact ⟨z.1, rfl, (selB_sub z (by rw [e2]; exact .head _)).1⟩
theorem fm_take {α β : Type} {l : List α} {i : Nat} {a : α} {f : α → Option β} (h : l[i]? = some a) : (l.take (i + 1)).filterMap f = (l.take i).filterMap f ++ (match f a with | none => [] | some b => [b]) := by
  rw [List.take_add_one, List.filterMap_append, h]
  show _ ++ List.filterMap f [a] = _
  cases e : f a with
  | none => rw [List.filterMap_cons, e]; rfl
  | some b => rw [List.filterMap_cons, e]; rfl
theorem doneE_done {r : List En} {z : Str} {n : Int} {st : St3} {p : Pl} (h : r.filter (wkB "pledge" n) = [.pledge p]) : doneE r z (.done n st) = match p.more with
    | some m => if m.w = z then some (st, m) else none
    | none => none := by
  have : plF r n = some p := by unfold plF; rw [h]
  show (match plF r n with | some p => (match p.more with | some m => if m.w = z then some (st, m) else none | none => none) | none => none) = _
  rw [this]
theorem doneE_no {r : List En} {z : Str} {e : En} (h : ¬ e.w = "done") : doneE r z e = none := by
  cases e with
  | done n st => exact absurd rfl h
  | _ => rfl
theorem max3_int (x y z : Int) : ∃ m, nuMax3 (.int x) (.int y) (.int z) = some (.int m) ∧ x ≤ m ∧ y ≤ m ∧ z ≤ m ∧ (m = x ∨ m = y ∨ m = z) := by
  have e2 : ∀ a b : Int, nuMax2 (.int a) (.int b) = some (.int (if a < b then b else a)) := fun a b => by
    show some (if decide (a < b) = true then V.int b else V.int a) = _
    by_cases c : a < b
    · rw [if_pos c, if_pos (decide_eq_true c)]
    · rw [if_neg c, if_neg (by rw [decide_eq_false c]; decide)]
  refine ⟨if (if x < y then y else x) < z then z else (if x < y then y else x), ?_, ?_, ?_, ?_, ?_⟩
  · show (nuMax2 (.int x) (.int y)).bind (fun m => nuMax2 m (.int z)) = _
    rw [e2]
    exact e2 _ _
  all_goals (repeat' split) <;> omega
theorem kn_let {k : Str} (h : k ∈ Kn) : KLet k ∧ k.cps.toList.length ≤ 100 := by
  have all : ∀ k ∈ Kn, (k.cps.toList.all fun c => decide (97 ≤ c) && decide (c ≤ 122)) = true ∧ k.cps.toList.length ≤ 100 := by decide +kernel
  obtain ⟨a, b⟩ := all k h
  refine ⟨fun c hc => ?_, b⟩
  have := List.all_eq_true.mp a c hc
  rw [Bool.and_eq_true, decide_eq_true_eq, decide_eq_true_eq] at this
  exact this
theorem WB.pok {H : Hp} {s : Addr} {A : BA} {b : BS} {zs : List (V × En)} (h : WB H s A b zs) : ∀ n q, (led (zs.map (·.2))).un n = some q → Pok q := fun n q e => (h.w.pn n q e).2.2.2

/-! ### a pledge in the making -/
structure Mkg (H0 H : Hp) (s : Addr) (A : BA) (b : BS) (zs : List (V × En)) (Nm R Wd : Addr) (mv : V) (m : Option More) (rs : List Str) (ws : List (Str × List Int)) : Prop where
  of ::
  fr : FrB s A H0 H
  w : WB H s A b zs
  hN : H Nm = some (.lst (Kn.map V.str))
  hR : H R = some (.lst (rs.map V.str))
  hW : ∃ vs, H Wd = some (.lst vs) ∧ TDAll H vs (ws.map wrD)
  nN : H0 Nm = none
  nR : H0 R = none
  nW : H0 Wd = none
  NR : Nm ≠ R
  NW : Nm ≠ Wd
  RW : R ≠ Wd
  bn : ¬ Nm ∈ bOwn A ∧ ¬ R ∈ bOwn A ∧ ¬ Wd ∈ bOwn A ∧ Nm ≠ s ∧ R ≠ s ∧ Wd ≠ s
  tm : TD H mv (moreD m)
  rb : ∀ r ∈ rs, r ∈ Kn
  wb : ∀ w ∈ ws, w.1 ∈ Kn ∧ 1 ≤ w.2.length ∧ w.2.length ≤ 4 ∧ ∀ i ∈ w.2, -9 ≤ i ∧ i ≤ 40
  wf : ∀ k ∈ ws.map (·.1), freeK (led (zs.map (·.2))) k
  wn : (ws.map (·.1)).Nodup
section
variable {H0 H H' : Hp} {s : Addr} {A : BA} {b : BS} {zs : List (V × En)} {Nm R Wd : Addr} {mv : V} {m : Option More} {rs : List Str} {ws : List (Str × List Int)}
theorem Mkg.same (h : Mkg H0 H s A b zs Nm R Wd mv m rs ws) (k : Same H H') : Mkg H0 H' s A b zs Nm R Wd mv m rs ws := by
  obtain ⟨vs, e, t⟩ := h.hW
  have tk : Tk H H' := fun c xs e => k c _ e
  exact ⟨h.fr.trans (FrB.same k), h.w.same k, k _ _ h.hN, k _ _ h.hR, ⟨vs, k _ _ e, TDAll.tk tk t⟩, h.nN, h.nR, h.nW, h.NR, h.NW, h.RW, h.bn, TD.tk tk h.tm, h.rb, h.wb, h.wf, h.wn⟩
theorem Mkg.fr' (h : Mkg H0 H s A b zs Nm R Wd mv m rs ws) (k : Fr s H H') (hb : BagAt H' s) : Mkg H0 H' s A b zs Nm R Wd mv m rs ws := by
  obtain ⟨vs, e, t⟩ := h.hW
  obtain ⟨_, _, _, n1, n2, n3⟩ := h.bn
  have tk := k.tkS h.w.bag
  exact ⟨h.fr.trans (FrB.fr k), h.w.fr k hb, k _ _ n1 h.hN, k _ _ n2 h.hR, ⟨vs, k _ _ n3 e, TDAll.tk tk t⟩, h.nN, h.nR, h.nW, h.NR, h.NW, h.RW, h.bn, TD.tk tk h.tm, h.rb, h.wb, h.wf, h.wn⟩
theorem Mkg.putR (h : Mkg H0 H s A b zs Nm R Wd mv m rs ws) {x : Str} (hx : x ∈ Kn) : Mkg H0 (upd H R (.lst (rs.map V.str ++ [.str x]))) s A b zs Nm R Wd mv m (rs ++ [x]) ws := by
  obtain ⟨vs, e, t⟩ := h.hW
  obtain ⟨_, m2, _, n1, n2, n3⟩ := h.bn
  have tk : Tk H (upd H R (.lst (rs.map V.str ++ [.str x]))) := fun c xs e => by rw [upd_ne (ne_of e h.hR (by intro z; cases z))]; exact e
  refine ⟨h.fr.newD h.nR, h.w.upd h.hR n2 m2, by rw [upd_ne h.NR]; exact h.hN, by rw [upd_same, List.map_append]; rfl, ⟨vs, by rw [upd_ne h.RW.symm]; exact e, TDAll.tk tk t⟩, h.nN, h.nR, h.nW, h.NR, h.NW, h.RW, h.bn, TD.tk tk h.tm, fun r hr => ?_, h.wb, h.wf, h.wn⟩
  rcases List.mem_append.mp hr with hr | hr
  · exact h.rb r hr
  · rw [List.mem_singleton.mp hr]
    exact hx
theorem Mkg.putW (h : Mkg H0 H s A b zs Nm R Wd mv m rs ws) {vs : List V} {v : V} {w : Str × List Int} (e : H Wd = some (.lst vs)) (hv : TD H v (wrD w)) (ok : w.1 ∈ Kn ∧ 1 ≤ w.2.length ∧ w.2.length ≤ 4 ∧ ∀ i ∈ w.2, -9 ≤ i ∧ i ≤ 40) (fk : freeK (led (zs.map (·.2))) w.1) (nk : ¬ w.1 ∈ ws.map (·.1)) : Mkg H0 (upd H Wd (.lst (vs ++ [v]))) s A b zs Nm R Wd mv m rs (ws ++ [w]) := by
  obtain ⟨vs', e', t⟩ := h.hW
  rw [e] at e'
  cases e'
  obtain ⟨_, _, m3, n1, n2, n3⟩ := h.bn
  have tk : Tk H (upd H Wd (.lst (vs ++ [v]))) := fun c xs z => by rw [upd_ne (ne_of z e (by intro y; cases y))]; exact z
  refine ⟨h.fr.newD h.nW, h.w.upd e n3 m3, by rw [upd_ne h.NW]; exact h.hN, by rw [upd_ne h.RW]; exact h.hR, ⟨_, upd_same, by rw [List.map_append]; exact TDAll.app (TDAll.tk tk t) (.cons (TD.tk tk hv) .nil)⟩, h.nN, h.nR, h.nW, h.NR, h.NW, h.RW, h.bn, TD.tk tk h.tm, h.rb, fun x hx => ?_, fun k hk => ?_, ?_⟩
  · rcases List.mem_append.mp hx with hx | hx
    · exact h.wb x hx
    · rw [List.mem_singleton.mp hx]
      exact ok
  · rw [List.map_append] at hk
    rcases List.mem_append.mp hk with hk | hk
    · exact h.wf k hk
    · rw [List.mem_singleton.mp hk]
      exact fk
  · rw [List.map_append]
    refine List.nodup_append.mpr ⟨h.wn, List.nodup_cons.mpr ⟨fun z => (by cases z), List.nodup_nil⟩, fun x hx y hy e => nk ?_⟩
    rw [List.mem_singleton.mp hy] at e
    have e : x = w.1 := e
    rw [← e]
    exact hx
end
theorem ite_any {c : Prop} [Decidable c] {A B : Prop} (a : A) (b : B) : if c then A else B := by
  by_cases h : c
  · rw [if_pos h]; exact a
  · rw [if_neg h]; exact b
theorem kn_new {j : Nat} {k : Str} (h : Kn[j]? = some k) : ¬ k ∈ Kn.take j ∧ k ∈ Kn.take (j + 1) := by
  have nd : Kn.Nodup := by decide +kernel
  have e := List.take_append_drop j Kn
  have hd : k ∈ Kn.drop j := by
    rw [List.mem_iff_getElem?]
    exact ⟨0, by rw [List.getElem?_drop]; exact h⟩
  rw [← e] at nd
  refine ⟨fun z => (List.nodup_append.mp nd).2.2 k z k hd rfl, ?_⟩
  rw [List.take_add_one, h]
  exact List.mem_append_right _ (.head _)
theorem kn_mono {j : Nat} {k : Str} (h : k ∈ Kn.take j) : k ∈ Kn.take (j + 1) := by
  rw [List.take_add_one]
  exact List.mem_append_left _ h
section
variable {H0 H : Hp} {s : Addr} {A : BA} {b : BS} {zs : List (V × En)} {Nm R Wd R' Wd' : Addr} {mv : V} {m : Option More} {rs rs' : List Str} {ws ws' : List (Str × List Int)}
/-- other reads and writings, new -/
theorem Mkg.reR (h : Mkg H0 H s A b zs Nm R Wd mv m rs ws) (hR : H R' = some (.lst (rs'.map V.str))) (nR : H0 R' = none) (NR : Nm ≠ R') (RW : R' ≠ Wd) (b1 : ¬ R' ∈ bOwn A) (b2 : R' ≠ s) (rb : ∀ r ∈ rs', r ∈ Kn) : Mkg H0 H s A b zs Nm R' Wd mv m rs' ws :=
  ⟨h.fr, h.w, h.hN, hR, h.hW, h.nN, nR, h.nW, NR, h.NW, RW, ⟨h.bn.1, b1, h.bn.2.2.1, h.bn.2.2.2.1, b2, h.bn.2.2.2.2.2⟩, h.tm, rb, h.wb, h.wf, h.wn⟩
theorem Mkg.reW (h : Mkg H0 H s A b zs Nm R Wd mv m rs ws) {vs : List V} (hW : H Wd' = some (.lst vs)) (tW : TDAll H vs (ws'.map wrD)) (nW : H0 Wd' = none) (NW : Nm ≠ Wd') (RW : R ≠ Wd') (b1 : ¬ Wd' ∈ bOwn A) (b2 : Wd' ≠ s) (wb : ∀ w ∈ ws', w.1 ∈ Kn ∧ 1 ≤ w.2.length ∧ w.2.length ≤ 4 ∧ ∀ i ∈ w.2, -9 ≤ i ∧ i ≤ 40) (wf : ∀ k ∈ ws'.map (·.1), freeK (led (zs.map (·.2))) k) (wn : (ws'.map (·.1)).Nodup) : Mkg H0 H s A b zs Nm R Wd' mv m rs ws' :=
  ⟨h.fr, h.w, h.hN, h.hR, ⟨vs, hW, tW⟩, h.nN, h.nR, nW, h.NR, NW, RW, ⟨h.bn.1, h.bn.2.1, b1, h.bn.2.2.2.1, h.bn.2.2.2.2.1, b2⟩, h.tm, h.rb, wb, wf, wn⟩
/-- what is new now -/
theorem Mkg.nw (h : Mkg H0 H s A b zs Nm R Wd mv m rs ws) {p : Addr} (np : H p = none) : H0 p = none ∧ Nm ≠ p ∧ R ≠ p ∧ Wd ≠ p ∧ ¬ p ∈ bOwn A ∧ p ≠ s := by
  obtain ⟨vs, e, _⟩ := h.hW
  obtain ⟨a, c⟩ := h.w.new np
  exact ⟨h.fr.free h.w np, ne_of_none h.hN np, ne_of_none h.hR np, ne_of_none e np, c, a⟩
end
theorem atI_two (x y : V) (c : Bool) : atI [x, y] (if c = true then 1 else 0) = some (if c = true then y else x) := by
  cases c
  · exact atI_nat (j := 0) rfl
  · exact atI_nat (j := 1) rfl
theorem len8 : 8 ≤ sizeLine := by decide
theorem Mkg.pok {H0 H : Hp} {s : Addr} {A : BA} {b : BS} {zs : List (V × En)} {Nm R Wd : Addr} {mv : V} {m : Option More} {rs : List Str} {ws : List (Str × List Int)} (h : Mkg H0 H s A b zs Nm R Wd mv m rs ws) {t : Int} {ys : List Int} {y0 : Int} {key : Str} (t0 : 0 ≤ t) (t2 : t ≤ 1000) (rl : rs.length ≤ 4) (wl : ws.length ≤ 4) (yl : ys.length ≤ 4) (yb : ∀ y ∈ ys, 0 ≤ y ∧ y ≤ 10) (y0m : y0 ∈ ys) (hk : key ∈ Kn) (mok : moreOk (led (zs.map (·.2))) key t m) : Pok ⟨b.nu, y0, ys, ⟨t, b.se + 1, b.ho⟩, rs, ws, m⟩ := by
  have z := h.w.len
  have a1 := h.w.w.nu0; have a2 := h.w.w.nul; have a3 := h.w.w.se0; have a4 := h.w.w.se1; have a5 := h.w.w.h0; have a6 := h.w.w.h1; have a7 := h.w.w.h2
  rw [List.length_map] at a2 a4
  refine ⟨a1, ?_, (yb y0 y0m).1, (yb y0 y0m).2, yl, yb, t0, ?_, ?_, ?_, a5, ?_, rl, h.rb, wl, h.wn, h.wb, fun mm e => ?_⟩
  · show b.nu ≤ 1000; omega
  · show t ≤ 10000; omega
  · show 0 ≤ b.se + 1; omega
  · show b.se + 1 ≤ 10000; omega
  · show b.ho ≤ 10; omega
  · have e : m = some mm := e
    subst e
    cases mm with
    | move k' to => exact ⟨mok.1 ▸ hk, mok.2.1, mok.2.2.1⟩
    | form t' f => exact mok
theorem set_two {x y : Int} {S : Key → Bool} {n : Nat} (g : SM.GotM [Sum.inl x, Sum.inl y] 2 S n) (hx : 0 ≤ x ∧ x ≤ 10) (hy : 0 ≤ y ∧ y ≤ 10) : n ≤ 1000 ∧ (∀ k, S k = true → k ∈ [x, y].map Sum.inl) ∧ (∀ z ∈ [x, y], S (Sum.inl z) = true) ∧ ∀ ys : List Int, (∀ z, z ∈ ys ↔ z ∈ [x, y]) → ys.length = n → (∃ y0 r, ys = y0 :: r) ∧ ys.length ≤ 4 ∧ ∀ z ∈ ys, 0 ≤ z ∧ z ≤ 10 := by
  have l := g.le
  refine ⟨by omega, fun k hk => (g.mem k).mp hk, fun z hz => (g.mem _).mpr ?_, fun ys hm hl => ⟨?_, by omega, fun z hz => ?_⟩⟩
  · have : (Sum.inl z : Key) ∈ [x, y].map Sum.inl := List.mem_map_of_mem hz
    exact this
  · cases ys with
    | nil => exact absurd ((hm x).mpr (.head _)) (fun z => by cases z)
    | cons y0 r => exact ⟨y0, r, rfl⟩
  · have := (hm z).mp hz
    simp only [List.mem_cons, List.not_mem_nil, or_false] at this
    rcases this with rfl | rfl
    · exact hx
    · exact hy
theorem ne_mem {l : List Addr} {a c : Addr} (h : ¬ c ∈ l) (m : a ∈ l) : c ≠ a := fun z => h (by rw [z]; exact m)

/-! ### the book, looked at -/
theorem gd_snoc {r : List En} {e : En} (h : Gd (r ++ [e])) : Gd r ∧ Vd (led r) e := by
  generalize hx : r ++ [e] = x at h
  cases h with
  | nil => exact absurd (congrArg List.length hx) (by simp)
  | snoc g v =>
    obtain ⟨e1, e2⟩ := List.append_inj' hx rfl
    cases e1
    cases e2
    exact ⟨g, v⟩
theorem note_ok {r : List En} {e : En} (g : Gd r) (v : Vd (led r) e) : NoteOk (led r) e := by
  cases e with
  | done n st =>
    obtain ⟨v1, v2, _⟩ := v
    obtain ⟨p, hp⟩ := Option.isSome_iff_exists.mp v1
    have e1 := (of_all n g).up p hp
    rw [e1] at v2
    exact ⟨p, e1, v2⟩
  | _ => trivial
theorem lt_uniq : ∀ {as bs : List Int}, as.Pairwise (· < ·) → bs.Pairwise (· < ·) → (∀ n, n ∈ as ↔ n ∈ bs) → as = bs
  | [], [], _, _, _ => rfl
  | [], b :: r, _, _, h => absurd ((h b).mpr (.head _)) (fun z => by cases z)
  | a :: r, [], _, _, h => absurd ((h a).mp (.head _)) (fun z => by cases z)
  | a :: r, b :: q, ha, hb, h => by
    obtain ⟨a1, a2⟩ := List.pairwise_cons.mp ha
    obtain ⟨b1, b2⟩ := List.pairwise_cons.mp hb
    have e : a = b := by
      have h1 := (h a).mp (.head _)
      have h2 := (h b).mpr (.head _)
      rcases List.mem_cons.mp h1 with e | h1
      · exact e
      rcases List.mem_cons.mp h2 with e | h2
      · exact e.symm
      have := a1 b h2
      have := b1 a h1
      omega
    subst e
    refine congrArg (a :: ·) (lt_uniq a2 b2 fun n => ⟨fun hn => ?_, fun hn => ?_⟩)
    · have := a1 n hn
      rcases List.mem_cons.mp ((h n).mp (.tail _ hn)) with e | z
      · omega
      · exact z
    · have := b1 n hn
      rcases List.mem_cons.mp ((h n).mpr (.tail _ hn)) with e | z
      · omega
      · exact z
theorem wk_mem {r : List En} {w : Str} {n : Int} {e : En} : e ∈ r.filter (wkB w n) ↔ e ∈ r ∧ e.w = w ∧ e.k = n := by
  rw [List.mem_filter]
  unfold wkB
  rw [Bool.and_eq_true, decide_eq_true_eq, decide_eq_true_eq]
theorem pend_iff {r : List En} (g : Gd r) (n : Int) : ((∃ p, En.pledge p ∈ r ∧ p.n = n) ∧ (wordL n r = some "pledged" ∨ wordL n r = some "sure")) ↔ ((led r).un n).isSome = true := by
  have o := of_all n g
  rw [o.un, word_eq n g]
  have : (∃ p, En.pledge p ∈ r ∧ p.n = n) ↔ ((led r).nt n).p.isSome = true := by
    rcases o.pl with ⟨e, z⟩ | ⟨q, e, z, eq⟩
    · rw [z]
      refine ⟨fun ⟨p, hp, hn⟩ => ?_, fun z => by cases z⟩
      have : En.pledge p ∈ r.filter (wkB "pledge" n) := wk_mem.mpr ⟨hp, rfl, hn⟩
      rw [e] at this
      cases this
    · rw [z]
      refine ⟨fun _ => rfl, fun _ => ⟨q, ?_, eq⟩⟩
      have : En.pledge q ∈ r.filter (wkB "pledge" n) := by rw [e]; exact .head _
      exact (wk_mem.mp this).1
  rw [this]
theorem st3_eq {a b : St3} (h1 : ¬ a.l < b.l) (h2 : ¬ b.l < a.l) : a = b := by
  rw [st3_lt] at h1 h2
  obtain ⟨x, y, z⟩ := a
  obtain ⟨x', y', z'⟩ := b
  simp only at h1 h2
  have e1 : x = x' := by omega
  have e2 : y = y' := by omega
  have e3 : z = z' := by omega
  rw [e1, e2, e3]
theorem last_st {r : List En} (g : Gd r) {ss : List St3} {y : St3} {ho : Int} (hm : ∀ z : St3, z ∈ ss ↔ z ∈ stsL r ∨ z = ⟨-1, 0, ho⟩) (hy : y ∈ ss) (mx : ∀ z : St3, z ∈ ss → ¬ y.l < z.l) : (led r).gs.getD ⟨-1, 0, ho⟩ = y := by
  have t := tops_all g
  have tg := t.gs
  cases eg : (led r).gs with
  | none =>
    rw [eg] at tg
    have tg : stsL r = [] := tg
    rcases (hm y).mp hy with z | z
    · rw [tg] at z; cases z
    · exact z.symm
  | some x =>
    rw [eg] at tg
    obtain ⟨a, b⟩ := tg
    show x = y
    have hx := (t.t0 x a).1
    have hyx := mx x ((hm x).mpr (.inl a))
    rcases (hm y).mp hy with z | z
    · exact st3_eq (b y z) hyx
    · exfalso
      rw [z, st3_lt] at hyx
      simp only at hyx
      omega
theorem last_se {r : List En} (g : Gd r) {ns : List Int} {m : Int} (hm : ∀ z, z ∈ ns ↔ z = 0 ∨ ∃ x : St3, x ∈ stsL r ∧ x.s = z) (hy : m ∈ ns) (mx : ∀ z ∈ ns, z ≤ m) : (led r).gser = m := by
  obtain ⟨a, b⟩ := (tops_all g).se
  have e : ∀ z, z ∈ ns ↔ z ∈ 0 :: (stsL r).map St3.s := fun z => by
    rw [hm, List.mem_cons, List.mem_map]
  have h1 := b m ((e m).mp hy)
  have h2 := mx _ ((e _).mpr a)
  omega
theorem last_mk {r : List En} (g : Gd r) {ns : List Int} {m : Int} (hm : ∀ z, z ∈ ns ↔ z = -1 ∨ z ∈ mksL r) (hy : m ∈ ns) (mx : ∀ z ∈ ns, z ≤ m) : (led r).gm.getD (-1) = m := by
  have t := tops_all g
  have tg := t.mk
  cases eg : (led r).gm with
  | none =>
    rw [eg] at tg
    have tg : mksL r = [] := tg
    rcases (hm m).mp hy with z | z
    · exact z.symm
    · rw [tg] at z; cases z
  | some x =>
    rw [eg] at tg
    obtain ⟨a, b⟩ := tg
    show x = m
    have h0 := t.m0 x a
    have h1 := mx x ((hm x).mpr (.inr a))
    rcases (hm m).mp hy with z | z
    · omega
    · have := b m z
      omega
theorem mks_mem {r : List En} {z : Int} : z ∈ mksL r ↔ ∃ e, e ∈ r ∧ e.w = "mark" ∧ e.k = z := by
  unfold mksL
  rw [List.mem_flatMap]
  constructor
  · rintro ⟨e, he, hz⟩
    cases e with
    | mark t => exact ⟨_, he, rfl, (List.mem_singleton.mp hz).symm⟩
    | _ => cases hz
  · rintro ⟨e, he, hw, hk⟩
    obtain ⟨t, rfl⟩ := wd_ma hw
    exact ⟨_, he, List.mem_singleton.mpr hk.symm⟩
/-- of one that is open: what is sure of it -/
theorem su_cases {b : BS} {r : List En} (w : Bw b r) {n : Int} {p : Pl} (h : (led r).un n = some p) : (r.filter (wkB "sure" n) = [] ∧ ((led r).nt n).low = none) ∨ ∃ st low, r.filter (wkB "sure" n) = [.sure n st low] ∧ p.st.t ≤ st.t ∧ p.st.s < st.s ∧ st.h = p.home ∧ st.t ≤ b.la ∧ st.s ≤ b.se := by
  rcases (of_all n w.gd).su with z | ⟨st, low, e1, e2, e3⟩
  · exact .inl z
  · obtain ⟨st', a1, a2, a3, a4, _⟩ := w.su n p low h e2
    have e4 := e3 (by rw [h]; rfl)
    rw [a1] at e4
    cases e4
    have hm : En.sure n st low ∈ r.filter (wkB "sure" n) := by rw [e1]; exact .head _
    have := w.tse st (mem_sts (wk_mem.mp hm).1 (.head _))
    exact .inr ⟨st, low, e1, a2, a3, a4, this.1, this.2.1⟩
/-! ### what is shown of a book -/
structure Sz (n k : Nat) (d : PyData) : Prop where
  sh : d.showable = true
  nd : d.hasDict = false
  dp : d.depth ≤ k
  lv : d.leavesShort 200 = true
  wt : d.weight ≤ n
structure SzA (n k : Nat) (ds : List PyData) : Prop where
  sh : PyData.showableAll ds = true
  nd : PyData.hasDictAll ds = false
  dp : PyData.depthAll ds ≤ k
  lv : PyData.leavesShortAll 200 ds = true
  wt : PyData.weightAll ds ≤ n
theorem Sz.mono {n k n' k' : Nat} {d : PyData} (h : Sz n k d) (h1 : n ≤ n') (h2 : k ≤ k') : Sz n' k' d := ⟨h.sh, h.nd, Nat.le_trans h.dp h2, h.lv, Nat.le_trans h.wt h1⟩
theorem SzA.mono {n k n' k' : Nat} {d : List PyData} (h : SzA n k d) (h1 : n ≤ n') (h2 : k ≤ k') : SzA n' k' d := ⟨h.sh, h.nd, Nat.le_trans h.dp h2, h.lv, Nat.le_trans h.wt h1⟩
theorem SzA.nil {k : Nat} : SzA 0 k [] := ⟨rfl, rfl, Nat.zero_le _, rfl, Nat.le_refl _⟩
theorem SzA.cons {n m k : Nat} {d : PyData} {ds : List PyData} (h : Sz n k d) (g : SzA m k ds) : SzA (n + 1 + m) k (d :: ds) := by
  refine ⟨by simp only [PyData.showableAll, h.sh, g.sh, Bool.and_self], by simp only [PyData.hasDictAll, h.nd, g.nd, Bool.or_self], ?_, by simp only [PyData.leavesShortAll, h.lv, g.lv, Bool.and_self], ?_⟩
  · simp only [PyData.depthAll]
    have := h.dp
    have := g.dp
    omega
  · simp only [PyData.weightAll]
    have := h.wt
    have := g.wt
    omega
theorem SzA.tup {n k : Nat} {ds : List PyData} (h : SzA n k ds) : Sz n (k + 1) (.tuple ds) :=
  ⟨by simp only [PyData.showable]; exact h.sh, by simp only [PyData.hasDict]; exact h.nd, by simp only [PyData.depth]; have := h.dp; omega, by simp only [PyData.leavesShort]; exact h.lv, by simp only [PyData.weight]; exact h.wt⟩
theorem SzA.lst {n k : Nat} {ds : List PyData} (h : SzA n k ds) : Sz n (k + 1) (.list ds) :=
  ⟨by simp only [PyData.showable]; exact h.sh, by simp only [PyData.hasDict]; exact h.nd, by simp only [PyData.depth]; have := h.dp; omega, by simp only [PyData.leavesShort]; exact h.lv, by simp only [PyData.weight]; exact h.wt⟩
theorem SzA.of {n k : Nat} : ∀ {ds : List PyData}, (∀ d ∈ ds, Sz n k d) → SzA ((n + 1) * ds.length) k ds
  | [], _ => .nil
  | d :: r, h => (SzA.cons (h d (.head _)) (SzA.of fun x hx => h x (.tail _ hx))).mono (by rw [List.length_cons, Nat.mul_succ]; omega) (Nat.le_refl _)
theorem Sz.small {n k : Nat} {d : PyData} (h : Sz n k d) (h1 : n ≤ 60000) : d.shown.length ≤ sizeLine := by
  have z := PyData.shown_le 200 (by decide) d h.lv
  have w := h.wt
  rw [sizeLine_eq]
  omega
theorem Sz.non {k : Nat} : Sz 0 k .none := ⟨rfl, rfl, Nat.zero_le _, rfl, Nat.le_refl _⟩
theorem Sz.int {i : Int} {k : Nat} (h1 : -1000000000000 ≤ i) (h2 : i ≤ 1000000000000) : Sz 200 k (.int i) := by
  have l := int_leaf2 (i := i) (by omega) (by omega)
  unfold lf at l
  simp only [Bool.and_eq_true, decide_eq_true_eq] at l
  obtain ⟨⟨⟨⟨a, b⟩, c⟩, d⟩, _⟩ := l
  exact ⟨a, rfl, by rw [b]; exact Nat.zero_le _, c, d⟩
def strS (x : Str) : Bool := (x.cps.toList.all fun c => decide (c < 16 ^ 8)) && decide (x.cps.size ≤ 200)
theorem Sz.str {x : Str} {k : Nat} (h : strS x = true) : Sz 200 k (.str x) := by
  unfold strS at h
  rw [Bool.and_eq_true, decide_eq_true_eq] at h
  exact ⟨rfl, rfl, Nat.zero_le _, h.1, h.2⟩
theorem kn_strS {k : Str} (h : k ∈ Kn) : strS k = true := by
  have : ∀ k ∈ Kn, strS k = true := by decide +kernel
  exact this k h
theorem Sz.st {x : St3} {k : Nat} (h1 : -1 ≤ x.t) (h2 : x.t ≤ 100000) (h3 : 0 ≤ x.s) (h4 : x.s ≤ 100000) (h5 : 0 ≤ x.h) (h6 : x.h ≤ 100000) : Sz 603 (k + 1) x.d :=
  (SzA.cons (k := k) (Sz.int (by omega) (by omega)) (SzA.cons (Sz.int (by omega) (by omega)) (SzA.cons (Sz.int (by omega) (by omega)) SzA.nil))).tup.mono (by omega) (by omega)
theorem Sz.pl {p : Pl} (h : Pok p) : Sz 20000 4 p.d := by
  have i1 := h.n1; have i2 := h.n2; have i3 := h.h1; have i4 := h.h2; have i5 := h.t1; have i6 := h.t2; have i7 := h.s1; have i8 := h.s2; have i9 := h.o1; have i10 := h.o2
  have a : Sz 804 1 (.tuple (p.hs.map .int)) := by
    refine ((SzA.of (n := 200) (k := 0) fun d hd => ?_).mono (n' := 804) ?_ (Nat.le_refl _)).tup
    · obtain ⟨x, hx, rfl⟩ := List.mem_map.mp hd
      have := h.hb x hx
      exact Sz.int (by omega) (by omega)
    · rw [List.length_map]
      have := h.hl
      omega
  have r : Sz 804 1 (.tuple (p.rs.map .str)) := by
    refine ((SzA.of (n := 200) (k := 0) fun d hd => ?_).mono (n' := 804) ?_ (Nat.le_refl _)).tup
    · obtain ⟨x, hx, rfl⟩ := List.mem_map.mp hd
      exact Sz.str (kn_strS (h.rb x hx))
    · rw [List.length_map]
      have := h.rl
      omega
  have ww : Sz 4032 3 (.tuple (p.ws.map wrD)) := by
    refine ((SzA.of (n := 1007) (k := 2) fun d hd => ?_).mono (n' := 4032) ?_ (Nat.le_refl _)).tup
    · obtain ⟨x, hx, rfl⟩ := List.mem_map.mp hd
      obtain ⟨k1, k2, k3, k4⟩ := h.wb x hx
      have u : Sz 804 1 (.tuple (x.2.map .int)) := by
        refine ((SzA.of (n := 200) (k := 0) fun d hd => ?_).mono (n' := 804) ?_ (Nat.le_refl _)).tup
        · obtain ⟨y, hy, rfl⟩ := List.mem_map.mp hd
          have := k4 y hy
          exact Sz.int (by omega) (by omega)
        · rw [List.length_map]
          omega
      exact (SzA.cons (k := 1) (Sz.str (kn_strS k1)) (SzA.cons u SzA.nil)).tup.mono (by omega) (by omega)
    · rw [List.length_map]
      have := h.wl
      omega
  have m : Sz 603 3 (moreD p.more) := by
    cases e : p.more with
    | none => exact (Sz.non (k := 0)).mono (by omega) (by omega)
    | some m =>
      have mo := h.mo m e
      cases m with
      | move k to =>
        obtain ⟨m1, m2, m3⟩ := mo
        exact (SzA.cons (k := 2) (Sz.str (by decide +kernel)) (SzA.cons (Sz.str (kn_strS m1)) (SzA.cons (Sz.int (by omega) (by omega)) SzA.nil))).tup.mono (by omega) (by omega)
      | form t f =>
        obtain ⟨m1, m2, m3, m4⟩ := mo
        exact (SzA.cons (k := 2) (Sz.str (by decide +kernel)) (SzA.cons (Sz.int (by omega) (by omega)) (SzA.cons (Sz.int (by omega) (by omega)) SzA.nil))).tup.mono (by omega) (by omega)
  have s : Sz 603 3 p.st.d := Sz.st (by omega) (by omega) (by omega) (by omega) (by omega) (by omega)
  exact (SzA.cons (k := 3) (Sz.str (by decide +kernel)) (SzA.cons (Sz.int (by omega) (by omega)) (SzA.cons (Sz.int (by omega) (by omega)) (SzA.cons (a.mono (Nat.le_refl _) (by omega)) (SzA.cons s (SzA.cons (r.mono (Nat.le_refl _) (by omega)) (SzA.cons ww (SzA.cons m SzA.nil)))))))).tup.mono (by omega) (Nat.le_refl 4)
theorem szw {x : Option Str} (h : x = none ∨ x = some "pledged" ∨ x = some "sure" ∨ x = some "done" ∨ x = some "off") : Sz 200 4 (oSr x) := by
  rcases h with rfl | rfl | rfl | rfl | rfl
  · exact (Sz.non (k := 0)).mono (by omega) (by omega)
  all_goals exact Sz.str (by decide +kernel)
theorem wordL_in (n : Int) (r : List En) : wordL n r = none ∨ wordL n r = some "pledged" ∨ wordL n r = some "sure" ∨ wordL n r = some "done" ∨ wordL n r = some "off" := by
  suffices h : ∀ (r : List En) (w : Option Str), (w = none ∨ w = some "pledged" ∨ w = some "sure" ∨ w = some "done" ∨ w = some "off") → (r.foldl (wordE n) w = none ∨ r.foldl (wordE n) w = some "pledged" ∨ r.foldl (wordE n) w = some "sure" ∨ r.foldl (wordE n) w = some "done" ∨ r.foldl (wordE n) w = some "off") from h r none (.inl rfl)
  intro r
  induction r with
  | nil => exact fun w h => h
  | cons e r ih =>
    intro w h
    refine ih _ ?_
    unfold wordE
    by_cases c : e.k = n
    · rw [if_pos c]
      by_cases c1 : e.w = "pledge"
      · rw [if_pos c1]; exact .inr (.inl rfl)
      · rw [if_neg c1]
        by_cases c2 : e.w = "sure" ∨ e.w = "done" ∨ e.w = "off"
        · rw [if_pos c2]
          rcases c2 with z | z | z <;> rw [z]
          · exact .inr (.inr (.inl rfl))
          · exact .inr (.inr (.inr (.inl rfl)))
          · exact .inr (.inr (.inr (.inr rfl)))
        · rw [if_neg c2]; exact h
    · rw [if_neg c]; exact h
/-- what is told of one dealing -/
def dueD (x : Nt) : PyData := .list [oSr x.w, oPl x.p, oSt x.st, oIn x.low]
theorem due_sz {b : BS} {r : List En} (w : Bw b r) (n : Int) : Sz 30000 5 (dueD ((led r).nt n)) := by
  have o := of_all n w.gd
  have l1 := w.la1; have s1 := w.se1; have rl := w.rl
  have a : Sz 200 4 (oSr ((led r).nt n).w) := by
    rw [word_eq n w.gd]
    exact szw (wordL_in n r)
  have p : Sz 20000 4 (oPl ((led r).nt n).p) := by
    rcases o.pl with ⟨_, z⟩ | ⟨q, e, z, _⟩
    · rw [z]; exact (Sz.non (k := 0)).mono (by omega) (by omega)
    · rw [z]
      have hm : En.pledge q ∈ r.filter (wkB "pledge" n) := by rw [e]; exact .head _
      exact Sz.pl (w.ek _ (wk_mem.mp hm).1)
  have s : Sz 603 4 (oSt ((led r).nt n).st) := by
    have he := o.en _ rfl
    cases e : (r.filter fun e => (wdB "sure" e || wdB "done" e) && decide (e.k = n)).getLast? with
    | none =>
      rw [e] at he
      have he : ((led r).nt n).st = none := he
      rw [he]
      exact (Sz.non (k := 0)).mono (by omega) (by omega)
    | some x =>
      rw [e] at he
      obtain ⟨st, e1, e2⟩ := he
      rw [e1]
      have hm := (List.mem_filter.mp (List.mem_of_getLast? e)).1
      have hs : st ∈ stsL r := by
        rcases e2 with rfl | ⟨low, rfl⟩
        · exact mem_sts hm (.head _)
        · exact mem_sts hm (.head _)
      have t0 := (tops_all w.gd).t0 st hs
      obtain ⟨x1, x2, x3, x4⟩ := w.tse st hs
      exact Sz.st (by omega) (by omega) (by omega) (by omega) (by omega) (by omega)
  have l : Sz 200 4 (oIn ((led r).nt n).low) := by
    rcases o.su with ⟨_, z⟩ | ⟨st, low, e, z, _⟩
    · rw [z]; exact (Sz.non (k := 0)).mono (by omega) (by omega)
    · rw [z]
      have hm : En.sure n st low ∈ r.filter (wkB "sure" n) := by rw [e]; exact .head _
      obtain ⟨x1, x2⟩ := w.ek _ (wk_mem.mp hm).1
      exact Sz.int (by omega) (by omega)
  exact (SzA.cons (k := 4) a (SzA.cons p (SzA.cons s (SzA.cons l SzA.nil)))).lst.mono (by omega) (by omega)
/-- a row of the book, raw -/
theorem row_at {H : Hp} {zs : List (V × En)} {i : Nat} {v0 : V} (h : ZsAt H zs) (hi : (zs.map (·.1))[i]? = some v0) : ∃ e q xs, zs[i]? = some (.ref q, e) ∧ v0 = .ref q ∧ H q = some (.tup (.str e.w :: .int e.k :: xs)) ∧ TDAll H xs e.tl := by
  rw [List.getElem?_map] at hi
  obtain ⟨u, hu, rfl⟩ := Option.map_eq_some_iff.mp hi
  obtain ⟨q, xs, e1, e2, e3⟩ := en_at (h u (List.mem_of_getElem? hu))
  obtain ⟨uv, ue⟩ := u
  cases e1
  exact ⟨ue, q, xs, hu, rfl, e2, e3⟩
theorem RowsL.keep {H H' : Hp} {a : Addr} {zs : List (V × En)} (h : RowsL H a zs) (tk : Tk H H') (k : ∀ o, H a = some o → H' a = some o) : RowsL H' a zs := ⟨k _ h.1, h.2.tk tk⟩
theorem sel_len {f : En → Bool} {zs : List (V × En)} {i : Nat} (hl : zs.length ≤ 100) : ((selB f (zs.take i)).map (·.1)).length < sizeLine := by
  rw [List.length_map]
  exact Nat.lt_of_le_of_lt (Nat.le_trans (selB_len _ _) (List.length_take_le' _ _)) (Nat.lt_of_le_of_lt hl (by decide))
theorem wk_yes {w : Str} {n : Int} {e : En} (h1 : e.w = w) (h2 : e.k = n) : wkB w n e = true := by
  unfold wkB
  rw [decide_eq_true h1, decide_eq_true h2]
  rfl
theorem un_put {kv : List (Key × V)} {k : Int} {v : V} (h : valV kv (Sum.inl k) = some v) {H : Hp} {d : Addr} (e : H d = some (.dK kv)) : DGet H d (.int k) (some v) := .inl ⟨kv, Sum.inl k, .inl e, rfl, h.symm⟩
section
variable {H : Hp} {s : Addr} {A : BA} {b : BS} {zs : List (V × En)}
theorem BagAt.atO {H : Hp} {s c : Addr} {o : HO} (h : BagAt H s) (n : s ≠ c) : BagAt (upd H c o) s := by
  obtain ⟨x, y, e, r⟩ := h
  exact ⟨x, y, by rw [upd_ne n]; exact e, r⟩
theorem WB.sne (h : WB H s A b zs) : s ≠ A.m ∧ s ≠ A.rw ∧ s ≠ A.op :=
  ⟨fun z => h.ns (bOwn_mem.mpr (.inl z)), fun z => h.ns (bOwn_mem.mpr (.inr (.inl z))), fun z => h.ns (bOwn_mem.mpr (.inr (.inr z)))⟩
theorem map_snoc {zs : List (V × En)} {v : V} {e : En} : (zs ++ [(v, e)]).map (·.2) = zs.map (·.2) ++ [e] := by rw [List.map_append]; rfl
/-- a row, then the floor -/
theorem wb_flo (h : WB H s A b zs) {v : V} {e : En} {t fl : Int} (hv : TD H v e.d) (he : (e = .mark t ∧ -1 ≤ t) ∨ e = .gone t) (f1 : b.fl ≤ fl) (f2 : fl ≤ 10 * zs.length + 10) (l : zs.length + 1 ≤ 60) : WB (upd (upd H A.rw (.lst (zs.map (·.1) ++ [v]))) A.m (.dK (putK (skv A b) (Sum.inr "floor") (.int fl)))) s A { b with fl := fl } (zs ++ [(v, e)]) := by
  obtain ⟨n1, n2, n3⟩ := h.sne
  have k := (h.bk.row hv).num (skp_floor A b fl)
  have eu : (led (zs.map (·.2) ++ [e])).un = (led (zs.map (·.2))).un := by
    rw [led_snoc]
    rcases he with ⟨rfl, _⟩ | rfl <;> rfl
  refine ⟨(h.bag.atO n2).atO n1, ?_, ?_, h.ns⟩
  · rw [map_snoc, List.length_append]
    exact k.un_eq eu (Nat.le_succ _)
  · rw [map_snoc]
    exact h.w.flo he f1 (by rw [List.length_map]; exact f2) (by rw [List.length_map]; exact l)
theorem FrB.two {H : Hp} {o o' : HO} {c c' : Addr} (h : c ∈ bOwn A) (h' : c' ∈ bOwn A) : FrB s A H (upd (upd H c o) c' o') := (FrB.at_ h).trans (FrB.at_ h')
theorem ints_snoc {H : Hp} {D : Addr} {ts : List Int} {x : Int} (h : H D = some (.lst (ts.map V.int ++ [V.int x]))) : H D = some (.lst ((ts ++ [x]).map V.int)) := by
  rw [List.map_append]
  exact h
theorem row_lt {zs : List (V × En)} (h : zs.length ≤ 60) : (zs.map (·.1)).length < sizeLine := by
  rw [List.length_map]
  exact Nat.lt_of_le_of_lt h (by decide)
end
def oSv : Option Str → V
  | none => .non
  | some x => .str x
def spWordB : Sp := fun vs H Q _ => ∃ a zs n, vs = [.ref a, .int n] ∧ RowsL H a zs ∧ zs.length ≤ 60 ∧ ∀ H', Same H H' → Q (oSv (wordL n (zs.map (·.2)))) H'
def spPendB : Sp := fun vs H Q _ => ∃ a zs, vs = [.ref a] ∧ RowsL H a zs ∧ Gd (zs.map (·.2)) ∧ zs.length ≤ 60 ∧ ∀ (p : Addr) (ns : List Int) (H' : Hp), Same H H' → H p = none → H' p = some (.lst (ns.map V.int)) → ns.Pairwise (· < ·) → (∀ n, n ∈ ns ↔ ((led (zs.map (·.2))).un n).isSome = true) → ns.length ≤ 60 → Q (.ref p) H'
def spStampsB : Sp := fun vs H Q _ => ∃ a zs, vs = [.ref a] ∧ RowsL H a zs ∧ zs.length ≤ 60 ∧ ∀ (p : Addr) (us : List V) (ss : List St3) (H' : Hp), Same H H' → H p = none → H' p = some (.lst us) → TDAll H' us (ss.map St3.d) → (∀ x : St3, x ∈ ss ↔ x ∈ stsL (zs.map (·.2))) → ss.length ≤ 120 → Q (.ref p) H'
def Wd4 : List Str := ["pledge", "sure", "done", "off"]
theorem wd4_in {e : En} : e.w ∈ Wd4 ↔ e.w = "pledge" ∨ (e.w = "sure" ∨ e.w = "done" ∨ e.w = "off") := by
  unfold Wd4
  simp only [List.mem_cons, List.not_mem_nil, or_false]
abbrev plKv : List (Key × V) := [((Sum.inr ("pledge" : Str) : Key), V.str "pledged")]
theorem dget_pl {H : Hp} {d : Addr} (h : H d = some (.dK plKv)) (x : Str) : DGet H d (.str x) (if x = "pledge" then some (V.str "pledged") else none) := by
  have e : valV plKv (Sum.inr x) = (if x = "pledge" then some (V.str "pledged") else none) := by
    by_cases c : x = "pledge"
    · rw [if_pos c, c]
      exact valV_pos rfl
    · rw [if_neg c, valV_neg (fun z => c (Sum.inr.inj z).symm)]
      rfl
  rw [← e]
  exact DGet.k (k := Sum.inr x) h
theorem take_snoc {α : Type} {l : List α} {i : Nat} {a : α} (h : l[i]? = some a) : l.take (i + 1) = l.take i ++ [a] := by
  rw [List.take_add_one, h]
  rfl
def stP : En → Option St3
  | .pledge p => some p.st
  | _ => none
def stS : En → Option St3
  | .sure _ st _ => some st
  | .done _ st => some st
  | _ => none
theorem stP_no {e : En} (h : ¬ e.w = "pledge") : stP e = none := by
  cases e with
  | pledge p => exact absurd rfl h
  | _ => rfl
theorem stS_no {e : En} (h : ¬ e.w ∈ (["sure", "done"] : List Str)) : stS e = none := by
  cases e with
  | sure n st low => exact absurd (List.mem_cons_self ..) h
  | done n st => exact absurd (List.mem_cons_of_mem _ (List.mem_cons_self ..)) h
  | _ => rfl
theorem sts_split {r : List En} {x : St3} : x ∈ r.filterMap stP ++ r.filterMap stS ↔ x ∈ stsL r := by
  unfold stsL
  rw [List.mem_append, List.mem_filterMap, List.mem_filterMap, List.mem_flatMap]
  constructor
  · rintro (⟨e, he, h⟩ | ⟨e, he, h⟩)
    · refine ⟨e, he, ?_⟩
      cases e with
      | pledge p => cases h; exact .head _
      | _ => cases h
    · refine ⟨e, he, ?_⟩
      cases e with
      | sure n st low => cases h; exact .head _
      | done n st => cases h; exact .head _
      | _ => cases h
  · rintro ⟨e, he, h⟩
    cases e with
    | pledge p => cases List.mem_singleton.mp h; exact .inl ⟨_, he, rfl⟩
    | sure n st low => cases List.mem_singleton.mp h; exact .inr ⟨_, he, rfl⟩
    | done n st => cases List.mem_singleton.mp h; exact .inr ⟨_, he, rfl⟩
    | _ => cases h
/-- the stamp of a row that is sure or done -/
theorem stS_at {H : Hp} {e : En} {xs : List V} (h : TDAll H xs e.tl) (hw : e.w ∈ (["sure", "done"] : List Str)) : ∃ v r st, xs = v :: r ∧ stS e = some st ∧ TD H v st.d := by
  cases e with
  | sure n st low =>
    obtain ⟨v, r, rfl, t, _⟩ := td_cons h
    exact ⟨v, r, st, rfl, rfl, t⟩
  | done n st =>
    obtain ⟨v, r, rfl, t, _⟩ := td_cons h
    exact ⟨v, r, st, rfl, rfl, t⟩
  | pledge _ => exact absurd (show ("pledge" : Str) ∈ (["sure", "done"] : List Str) from hw) (by decide +kernel)
  | off _ => exact absurd (show ("off" : Str) ∈ (["sure", "done"] : List Str) from hw) (by decide +kernel)
  | mark _ => exact absurd (show ("mark" : Str) ∈ (["sure", "done"] : List Str) from hw) (by decide +kernel)
  | gone _ => exact absurd (show ("gone" : Str) ∈ (["sure", "done"] : List Str) from hw) (by decide +kernel)
def plK (e : En) : Option Int := if e.w = "pledge" then some e.k else none
theorem plK_mem {r : List En} {n : Int} : n ∈ r.filterMap plK ↔ ∃ p, En.pledge p ∈ r ∧ p.n = n := by
  rw [List.mem_filterMap]
  constructor
  · rintro ⟨e, he, h⟩
    unfold plK at h
    by_cases c : e.w = "pledge"
    · rw [if_pos c] at h
      obtain ⟨p, rfl⟩ := wd_pl c
      cases h
      exact ⟨p, he, rfl⟩
    · rw [if_neg c] at h
      cases h
  · rintro ⟨p, hp, h⟩
    exact ⟨_, hp, by unfold plK; rw [if_pos (show (En.pledge p).w = "pledge" from rfl)]; exact congrArg some h⟩
theorem flat_o (w : Option Str) : flatV (oSv w) = true := by cases w <;> rfl
theorem inV_o (w : Option Str) (xs : List Str) : inV (oSv w) (xs.map V.str) = decide (∃ x ∈ xs, w = some x) := by
  cases w with
  | none =>
    rw [decide_eq_false (by rintro ⟨_, _, z⟩; cases z)]
    unfold inV
    rw [List.any_map, Bool.eq_false_iff]
    intro h
    obtain ⟨x, _, z⟩ := List.any_eq_true.mp h
    cases z
  | some k =>
    show inV (.str k) _ = _
    rw [inV_strs]
    refine decide_eq_decide.mpr ⟨fun h => ⟨k, h, rfl⟩, fun ⟨x, hx, e⟩ => ?_⟩
    cases e
    exact hx
def isOpen (r : List En) (n : Int) : Bool := decide (∃ x ∈ (["pledged", "sure"] : List Str), wordL n r = some x)
theorem isOpen_iff {r : List En} {n : Int} : isOpen r n = true ↔ wordL n r = some "pledged" ∨ wordL n r = some "sure" := by
  unfold isOpen
  rw [decide_eq_true_eq]
  constructor
  · rintro ⟨x, hx, e⟩
    simp only [List.mem_cons, List.not_mem_nil, or_false] at hx
    rcases hx with rfl | rfl
    · exact .inl e
    · exact .inr e
  · rintro (e | e)
    · exact ⟨_, .head _, e⟩
    · exact ⟨_, .tail _ (.head _), e⟩
theorem filt_take {ns : List Int} {i : Nat} {n : Int} {f : Int → Bool} (h : ns[i]? = some n) : (ns.take (i + 1)).filter f = if f n = true then (ns.take i).filter f ++ [n] else (ns.take i).filter f := by
  rw [take_snoc h, List.filter_append]
  by_cases c : f n = true
  · rw [if_pos c]; simp [List.filter_cons, c]
  · rw [if_neg c]; simp [List.filter_cons, c]
def spRightB (C CS : Addr) : Sp := fun vs H Q _ => ∃ x A N a zs b hn many, vs = [.ref x, .ref a, .int b.ho, .int many] ∧ LedgerAt C CS H x b.ho hn A (led (zs.map (·.2))) N ∧ RowsL H a zs ∧ Bw b (zs.map (·.2)) ∧ zs.length ≤ 60 ∧ 0 ≤ many ∧ many ≤ 100 ∧ ∀ H', Same H H' → Q (.bl true) H'
theorem shaped_eqv' {d : PyData} (h : SeqAt.shaped d = true) : PyData.eqv d d = true := SeqAt.eqv_refl _ (by
  unfold SeqAt.shaped at h
  rw [Bool.and_eq_true] at h
  exact h.1)
theorem shaped_st (x : St3) : SeqAt.shaped x.d = true := by
  unfold SeqAt.shaped St3.d
  rw [Bool.and_eq_true]
  refine ⟨?_, decide_eq_true ?_⟩
  · simp only [PyData.canLay0, PyData.canLayAll0]
    rfl
  · simp only [PyData.depth, PyData.depthAll]
    omega
theorem dp_ints {K : PySem.W.Frag} {H : Hp} (ns : List Int) : DpAll K H (ns.map V.int) (ns.map .int) := TDAll.dp (TDAll.ints ns)
theorem td_o {H : Hp} (w : Option Str) : TD H (oSv w) (oSr w) := by
  cases w with
  | none => exact .non
  | some x => exact .str x
theorem beg_at {H : Hp} {zs : List (V × En)} {n : Int} (h : ZsAt H zs) (g : Gd (zs.map (·.2))) : ∃ v r, (selB (wkB "pledge" n) zs).map (·.1) ++ [V.non] = v :: r ∧ TD H v (oPl ((led (zs.map (·.2))).nt n).p) := by
  rcases (of_all n g).pl with ⟨e, z⟩ | ⟨p, e, z, _⟩
  · have : selB (wkB "pledge" n) zs = [] := by
      have := selB_snd (wkB "pledge" n) zs
      rw [e] at this
      exact List.map_eq_nil_iff.mp this
    rw [this, z]
    exact ⟨.non, [], rfl, .non⟩
  · obtain ⟨v, es, hm⟩ := selB_one e
    rw [es, z]
    exact ⟨v, [.non], rfl, h _ hm⟩
theorem sur_at {H : Hp} {zs : List (V × En)} {n : Int} {T : Addr} (h : ZsAt H zs) (g : Gd (zs.map (·.2))) (hT : H T = some (.tup [.int 0, .int 0, .int 0, .non])) : ∃ q r ws w, (selB (wkB "sure" n) zs).map (·.1) ++ [V.ref T] = .ref q :: r ∧ H q = some (.tup ws) ∧ atI ws 3 = some w ∧ TD H w (oIn ((led (zs.map (·.2))).nt n).low) := by
  rcases (of_all n g).su with ⟨e, z⟩ | ⟨st, low, e, z, _⟩
  · have : selB (wkB "sure" n) zs = [] := by
      have := selB_snd (wkB "sure" n) zs
      rw [e] at this
      exact List.map_eq_nil_iff.mp this
    rw [this, z]
    exact ⟨T, [], _, _, rfl, hT, atI_nat (j := 3) rfl, .non⟩
  · obtain ⟨v, es, hm⟩ := selB_one e
    rw [es, z]
    obtain ⟨q, xs, e1, hq, t⟩ := en_at (h _ hm)
    have e1 : v = .ref q := e1
    subst e1
    obtain ⟨_, _, rfl, _, t⟩ := td_cons t
    obtain ⟨w, _, rfl, tw, _⟩ := td_cons t
    exact ⟨q, [.ref T], _, w, rfl, hq, atI_nat (j := 3) rfl, tw⟩
def sdB (n : Int) (e : En) : Bool := (wdB "sure" e || wdB "done" e) && decide (e.k = n)
theorem end_at {H : Hp} {zs : List (V × En)} {n : Int} {T : Addr} (h : ZsAt H zs) (g : Gd (zs.map (·.2))) (hT : H T = some (.tup [.int 0, .int 0, .non])) : ∃ l q ws w, V.ref T :: (selB (sdB n) zs).map (·.1) = l ++ [V.ref q] ∧ H q = some (.tup ws) ∧ atI ws 2 = some w ∧ TD H w (oSt ((led (zs.map (·.2))).nt n).st) := by
  have o := (of_all n g).en
  have e0 : (selB (sdB n) zs).map (·.2) = (zs.map (·.2)).filter (sdB n) := selB_snd _ _
  have o := o ((selB (sdB n) zs).map (·.2)).getLast? (by rw [e0]; rfl)
  cases hz : selB (sdB n) zs with
  | nil =>
    rw [hz] at o
    have o : ((led (zs.map (·.2))).nt n).st = none := o
    rw [o]
    exact ⟨[], T, _, _, rfl, hT, atI_nat (j := 2) rfl, .non⟩
  | cons z0 r0 =>
    have hne : selB (sdB n) zs ≠ [] := by rw [hz]; simp
    obtain ⟨z, hzl⟩ : ∃ z, (selB (sdB n) zs).getLast? = some z := ⟨_, List.getLast?_eq_some_getLast hne⟩
    obtain ⟨l0, el⟩ := List.getLast?_eq_some_iff.mp hzl
    rw [List.getLast?_map, hzl] at o
    obtain ⟨st, o1, o2⟩ := o
    rw [o1, ← hz, el]
    have hm : z ∈ zs := (selB_sub z (by rw [el]; exact List.mem_append_right _ (.head _))).1
    obtain ⟨q, xs, e1, hq, t⟩ := en_at (h _ hm)
    obtain ⟨zv, ze⟩ := z
    have e1 : zv = .ref q := e1
    subst e1
    have : ∃ w r, xs = w :: r ∧ TD H w st.d := by
      rcases o2 with e2 | ⟨low, e2⟩
      · have e2 : ze = .done n st := e2
        subst e2
        obtain ⟨w, r, rfl, tw, _⟩ := td_cons t
        exact ⟨w, r, rfl, tw⟩
      · have e2 : ze = .sure n st low := e2
        subst e2
        obtain ⟨w, r, rfl, tw, _⟩ := td_cons t
        exact ⟨w, r, rfl, tw⟩
    obtain ⟨w, r, rfl, tw⟩ := this
    exact ⟨V.ref T :: l0.map (·.1), q, _, w, by rw [List.map_append]; rfl, hq, atI_nat (j := 2) rfl, tw⟩
theorem sd_yes {n : Int} {e : En} (h1 : e.w ∈ (["sure", "done"] : List Str)) (h2 : e.k = n) : sdB n e = true := by
  unfold sdB wdB
  rw [decide_eq_true h2, Bool.and_true, Bool.or_eq_true, decide_eq_true_eq, decide_eq_true_eq]
  simpa only [List.mem_cons, List.not_mem_nil, or_false] using h1
theorem sd_noW {n : Int} {e : En} (h1 : ¬ e.w ∈ (["sure", "done"] : List Str)) : sdB n e = false := by
  simp only [List.mem_cons, List.not_mem_nil, or_false, not_or] at h1
  exact sd_nw h1.1 h1.2
theorem rg_int {a b : Int} {v : V} (h : v ∈ rgV a b) : ∃ n, v = .int n := by
  unfold rgV at h
  obtain ⟨i, _, rfl⟩ := List.mem_map.mp h
  exact ⟨_, rfl⟩

def spLaw (K : PySem.W.Frag) (a : Nat → Addr) : Sp := fun vs H Q _ => ∃ (l : Addr) (ns : List Int), vs = [.ref l] ∧ SqL K H l (ns.map V.int) ∧ ns.length ≤ 63 ∧ LamX.Tabs (TTL a) H ∧ ∀ H', Q (.bl true) H'
theorem gd_take : ∀ {r : List En}, Gd r → ∀ n, Gd (r.take n) := by
  intro r g
  induction g with
  | nil => intro n; rw [List.take_nil]; exact .nil
  | @snoc r e g v ih =>
    intro n
    by_cases c : n ≤ r.length
    · rw [List.take_append_of_le_length c]
      exact ih n
    · rw [List.take_of_length_le (by rw [List.length_append]; show r.length + 1 ≤ n; omega)]
      exact g.snoc v
theorem FrB.tabs {s : Addr} {A : BA} {b : BS} {zs : List (V × En)} {T : List (Addr × Str)} {H H' : Hp} (f : FrB s A H H') (w : WB H s A b zs) (t : LamX.Tabs T H) : LamX.Tabs T H' :=
  tabs_mut t fun c o e n1 n2 n3 => f c o (fun z => by
    obtain ⟨x, y, h, _⟩ := w.bag
    rw [z, h] at e
    cases e
    exact n2 _ rfl) (fun z => by
    rcases w.bk.kind c z with ⟨kv, h⟩ | ⟨xs, h⟩
    · rw [h] at e
      cases e
      exact n3 _ rfl
    · rw [h] at e
      cases e
      exact n2 _ rfl) e
theorem FrB.tkB {s : Addr} {A : BA} {b : BS} {zs : List (V × En)} {H H' : Hp} (f : FrB s A H H') (w : WB H s A b zs) : Tk H H' := fun c xs e => f c _ (fun z => by
    obtain ⟨x, y, h, _⟩ := w.bag
    rw [z, h] at e
    cases e) (w.bk.ntup e) e
/-- the law's world: the book zs, the ledger that was told r -/
structure W32 (C CS : Addr) (a : Nat → Addr) (Hb H : Hp) (s x : Addr) (A : BA) (b : BS) (zs : List (V × En)) (hs hn : Int) (L : LA) (r : List En) : Prop where
  of ::
  ex : LamX.ExtN Hb H
  wb : WB H s A b zs
  ld : LedgerAt C CS H x hs hn L (led r) (8 * r.length)
  tb : LamX.Tabs (TTL a) H
  sx : ¬ s ∈ supG x L
  ax : ∀ c ∈ bOwn A, ¬ c ∈ supG x L
  ns : Hb s = none
  na : ∀ c ∈ bOwn A, Hb c = none
  nl : ∀ c ∈ supG x L, Nw Hb c
section
variable {C CS : Addr} {a : Nat → Addr} {Hb H H' : Hp} {s x : Addr} {A : BA} {b : BS} {zs : List (V × En)} {hs hn : Int} {L : LA} {r : List En}
theorem W32.same (h : W32 C CS a Hb H s x A b zs hs hn L r) (k : Same H H') : W32 C CS a Hb H' s x A b zs hs hn L r :=
  ⟨h.ex.trans (LamX.ExtN.of k), h.wb.same k, h.ld.same k, h.tb.ext k, h.sx, h.ax, h.ns, h.na, h.nl⟩
theorem W32.step (h : W32 C CS a Hb H s x A b zs hs hn L r) {b' : BS} {zs' : List (V × En)} (f : FrB s A H H') (w : WB H' s A b' zs') : W32 C CS a Hb H' s x A b' zs' hs hn L r :=
  ⟨fun c o e n => f c o (fun z => by rw [z, h.ns] at e; cases e) (fun z => by rw [h.na c z] at e; cases e) (h.ex c o e n), w,
    h.ld.keep (f.tkB h.wb) fun c hc o e => f c o (fun z => h.sx (z ▸ hc)) (fun z => h.ax c z hc) e, f.tabs h.wb h.tb, h.sx, h.ax, h.ns, h.na, h.nl⟩
theorem Nw.back {Hb H : Hp} (e : LamX.ExtN Hb H) {c : Addr} (n : Nw H c) : Nw Hb c := fun o h => by
  by_cases t : ∃ ps, o = .tbl ps
  · exact t
  · exact n o (e c o h fun ps z => t ⟨ps, z⟩)
theorem W32.note (h : W32 C CS a Hb H s x A b zs hs hn L r) {L' : LA} {e : En} (l : LedgerAt C CS H' x hs hn L' ((led r).note e) (8 * r.length + 8)) (st : LStp x L H L' H') (t : LamX.Tabs (TTL a) H') (tk : Tk H H') : W32 C CS a Hb H' s x A b zs hs hn L' (r ++ [e]) := by
  have nt : ∀ c, ¬ c ∈ supG x L → (∃ o, H c = some o ∧ ∀ ps, o ≠ .tbl ps) → ¬ c ∈ supG x L' := fun c n ⟨o, e, z⟩ y => by
    rcases st.sp c y with y | y
    · exact n y
    · obtain ⟨ps, y⟩ := y o e
      exact z ps y
  have kb : ∀ c ∈ bOwn A, ∃ o, H c = some o ∧ ∀ ps, o ≠ .tbl ps := fun c hc => by
    rcases h.wb.bk.kind c hc with ⟨kv, z⟩ | ⟨xs, z⟩
    · exact ⟨_, z, fun ps y => by cases y⟩
    · exact ⟨_, z, fun ps y => by cases y⟩
  have ks : ∃ o, H s = some o ∧ ∀ ps, o ≠ .tbl ps := by
    obtain ⟨y, z, e, _⟩ := h.wb.bag
    exact ⟨_, e, fun ps y => by cases y⟩
  have keepB : ∀ c ∈ bOwn A, ∀ o, H c = some o → H' c = some o := fun c hc o e => by
    obtain ⟨o', e', z⟩ := kb c hc
    rw [e] at e'
    cases e'
    exact st.fr c o (fun y => h.ax c hc (ownG_sup y)) e z
  refine ⟨fun c o e n => st.fr c o (fun y => ?_) (h.ex c o e n) n, ⟨?_, h.wb.bk.keep tk keepB, h.wb.w, h.wb.ns⟩, ?_, t, nt s h.sx ks, fun c hc => nt c (h.ax c hc) (kb c hc), h.ns, h.na, fun c hc => ?_⟩
  · obtain ⟨ps, z⟩ := h.nl c (ownG_sup y) o e
    exact n ps z
  · obtain ⟨y, z, e, q⟩ := h.wb.bag
    exact ⟨y, z, st.fr s _ (fun u => h.sx (ownG_sup u)) e (fun ps u => by cases u), q⟩
  · rw [led_snoc, List.length_append]
    exact l
  · rcases st.sp c hc with y | y
    · exact h.nl c y
    · exact y.back h.ex
/-- what is new stands through a note -/
theorem W32.newN (h : W32 C CS a Hb H s x A b zs hs hn L r) {p : Addr} (np : H p = none) : ¬ p ∈ supG x L := fun z => by
  obtain ⟨o, e, _⟩ := h.ld.kinds p z
  rw [np] at e
  cases e
end
theorem sz_ints {ns : List Int} (h : ∀ n ∈ ns, 0 ≤ n ∧ n ≤ 1000) (l : ns.length ≤ 290) : Sz 60000 1 (.list (ns.map .int)) := by
  refine ((SzA.of (n := 200) (k := 0) fun d hd => ?_).mono (n' := 60000) ?_ (Nat.le_refl _)).lst
  · obtain ⟨n, hn, rfl⟩ := List.mem_map.mp hd
    have := h n hn
    exact Sz.int (by omega) (by omega)
  · rw [List.length_map]
    omega
theorem cut_drop (xs : List V) (n : Nat) (h : n ≤ xs.length) : cutV xs (some (n : Int)) none = xs.drop n := by
  unfold cutV
  have e1 : HT.sIx xs.length 0 (some (n : Int)) = n := by
    rw [HT.sIx_nat]
    omega
  have e2 : HT.sIx xs.length xs.length none = xs.length := by
    unfold HT.sIx
    rfl
  rw [e1, e2, List.take_of_length_le]
  rw [List.length_drop]
  omega

/-! ### what moves a ledger has noted -/
theorem plF_mono {r : List En} {e : En} (g : Gd (r ++ [e])) {n : Int} {st : St3} (h : En.done n st ∈ r) : plF (r ++ [e]) n = plF r n := by
  obtain ⟨g0, _⟩ := gd_snoc g
  obtain ⟨p, e1, _⟩ := done_pl g0 h
  obtain ⟨p2, e2, _⟩ := done_pl g (List.mem_append_left _ h)
  unfold plF
  rw [filt_snoc] at e2 ⊢
  by_cases c : wkB "pledge" n e = true
  · rw [if_pos c, e1] at e2
    exact absurd (congrArg List.length e2) (by simp)
  · rw [if_neg c]
theorem doneE_mono {r : List En} {e : En} (g : Gd (r ++ [e])) (z : Str) : ∀ e' ∈ r, doneE (r ++ [e]) z e' = doneE r z e' := by
  intro e' he'
  cases e' with
  | done n st =>
    show (match plF (r ++ [e]) n with | some p => (match p.more with | some m => if m.w = z then some (st, m) else none | none => none) | none => none) = _
    rw [plF_mono g he']
    rfl
  | _ => rfl
theorem fm_congr {α β : Type} {f g : α → Option β} : ∀ {l : List α}, (∀ x ∈ l, f x = g x) → l.filterMap f = l.filterMap g
  | [], _ => rfl
  | x :: r, h => by
    rw [List.filterMap_cons, List.filterMap_cons, h x (.head _), fm_congr fun y hy => h y (.tail _ hy)]
theorem doneL_snoc {r : List En} {e : En} (g : Gd (r ++ [e])) (z : Str) : doneL (r ++ [e]) z = doneL r z ++ (doneE (r ++ [e]) z e).toList := by
  unfold doneL
  rw [List.filterMap_append, fm_congr (doneE_mono g z)]
  have : List.filterMap (doneE (r ++ [e]) z) [e] = (doneE (r ++ [e]) z e).toList := by
    rw [List.filterMap_cons, List.filterMap_nil]
    cases doneE (r ++ [e]) z e <;> rfl
  rw [this]
/-- of one done: its pledge -/
theorem done_at {r : List En} {n : Int} {st : St3} (g : Gd r) (v : Vd (led r) (.done n st)) : ∃ p, ((led r).nt n).p = some p ∧ (led r).un n = some p ∧ ∀ z : Str, doneE (r ++ [.done n st]) z (.done n st) = match p.more with
    | some m => if m.w = z then some (st, m) else none
    | none => none := by
  obtain ⟨p, hp⟩ := Option.isSome_iff_exists.mp v.1
  have o := of_all n g
  have ep := o.up p hp
  refine ⟨p, ep, hp, fun z => doneE_done ?_⟩
  rcases o.pl with ⟨_, y⟩ | ⟨q, e1, y, _⟩
  · rw [ep] at y; cases y
  · rw [ep] at y
    cases y
    rw [filt_snoc, if_neg (by rw [wk_nw (by simp only [En.w]; decide +kernel)]; decide)]
    exact e1
def mvOf (k : Str) (x : St3 × More) : Option (Int × Int) := match x.2 with
  | .move k' to => if k' = k then some (x.1.t, to) else none
  | _ => none
theorem mv_eq (k : Str) : ∀ {r : List En}, Gd r → (led r).mv k = (doneL r "move").filterMap (mvOf k) := by
  intro r g
  induction g with
  | nil => rfl
  | @snoc r e g v ih =>
    rw [led_snoc, doneL_snoc (g.snoc v), List.filterMap_append, ← ih]
    cases e with
    | done n st =>
      obtain ⟨p, ep, _, hd⟩ := done_at g v
      rw [hd "move", note_done ep]
      cases em : p.more with
      | none => exact (List.append_nil _).symm
      | some m =>
        cases m with
        | move k' to =>
          show setK (led r).mv k' ((led r).mv k' ++ [(st.t, to)]) k = (led r).mv k ++ List.filterMap (mvOf k) (if More.w (.move k' to) = ("move" : Str) then some (st, More.move k' to) else none).toList
          rw [if_pos (show More.w (.move k' to) = ("move" : Str) from rfl)]
          unfold setK
          by_cases c : k = k'
          · subst c
            rw [if_pos rfl]
            show _ = (led r).mv k ++ List.filterMap (mvOf k) [(st, More.move k to)]
            rw [List.filterMap_cons]
            have : mvOf k (st, More.move k to) = some (st.t, to) := if_pos rfl
            rw [this]
            rfl
          · rw [if_neg c]
            show _ = (led r).mv k ++ List.filterMap (mvOf k) [(st, More.move k' to)]
            rw [List.filterMap_cons]
            have : mvOf k (st, More.move k' to) = none := if_neg fun z => c z.symm
            rw [this, List.filterMap_nil, List.append_nil]
        | form t f =>
          show (led r).mv k = (led r).mv k ++ List.filterMap (mvOf k) (if More.w (.form t f) = ("move" : Str) then some (st, More.form t f) else none).toList
          rw [if_neg (by simp only [More.w]; decide +kernel)]
          exact (List.append_nil _).symm
    | _ => exact (List.append_nil _).symm
theorem lastUp_cons {α : Type} (p : Int × α) (rows : List (Int × α)) (t : Int) : lastUp (p :: rows) t = (lastUp rows t).or (if p.1 ≤ t then some p.2 else none) := by
  unfold lastUp
  rw [List.reverse_cons, List.find?_append]
  cases e : rows.reverse.find? fun p => decide (p.1 ≤ t) with
  | some x => rfl
  | none =>
    rw [Option.none_or, Option.map_none, Option.none_or, List.find?_cons]
    by_cases c : p.1 ≤ t
    · rw [decide_eq_true c, if_pos c]; rfl
    · rw [decide_eq_false c, if_neg c]; rfl
theorem at_fold (k : Str) (t : Int) : ∀ (xs : List (St3 × More)) (a : Int), xs.foldl (moveAt k t) a = (lastUp (xs.filterMap (mvOf k)) t).getD a
  | [], a => rfl
  | x :: r, a => by
    rw [List.foldl_cons, at_fold k t r, List.filterMap_cons]
    obtain ⟨st, m⟩ := x
    cases m with
    | form t' f => rfl
    | move k' to =>
      by_cases c : k' = k
      · have e1 : mvOf k (st, More.move k' to) = some (st.t, to) := if_pos c
        rw [e1]
        show _ = (lastUp ((st.t, to) :: r.filterMap (mvOf k)) t).getD a
        rw [lastUp_cons]
        by_cases c2 : st.t ≤ t
        · have e2 : moveAt k t a (st, More.move k' to) = to := if_pos ⟨c, c2⟩
          rw [e2, if_pos c2]
          cases lastUp (r.filterMap (mvOf k)) t <;> rfl
        · have e2 : moveAt k t a (st, More.move k' to) = a := if_neg fun z => c2 z.2
          rw [e2, if_neg c2]
          cases lastUp (r.filterMap (mvOf k)) t <;> rfl
      · have e1 : mvOf k (st, More.move k' to) = none := if_neg c
        have e2 : moveAt k t a (st, More.move k' to) = a := if_neg fun z => c z.1
        rw [e1, e2]
theorem at_eq {r : List En} (g : Gd r) (k : Str) (t hn : Int) : (lastUp ((led r).mv k) t).getD (firstK k hn) = atL r k t hn := by
  unfold atL
  rw [at_fold, mv_eq k g]
theorem doneL_in {r : List En} {z : Str} {x : St3 × More} (h : x ∈ doneL r z) : x.1 ∈ stsL r := by
  obtain ⟨e, he, hx⟩ := List.mem_filterMap.mp h
  cases e with
  | done n st =>
    have hx : (match plF r n with | some p => (match p.more with | some m => if m.w = z then some (st, m) else none | none => none) | none => none) = some x := hx
    have : x.1 = st := by
      cases e1 : plF r n with
      | none => rw [e1] at hx; cases hx
      | some p =>
        rw [e1] at hx
        have hx : (match p.more with | some m => if m.w = z then some (st, m) else none | none => none) = some x := hx
        cases e2 : p.more with
        | none => rw [e2] at hx; cases hx
        | some m =>
          rw [e2] at hx
          have hx : (if m.w = z then some (st, m) else none) = some x := hx
          by_cases c : m.w = z
          · rw [if_pos c] at hx; cases hx; rfl
          · rw [if_neg c] at hx; cases hx
    rw [this]
    exact mem_sts he (.head _)
  | _ => cases hx
theorem lastUp_all {α : Type} {rows : List (Int × α)} {t : Int} (h : ∀ p ∈ rows, p.1 ≤ t) : lastUp rows t = rows.getLast?.map (·.2) := by
  rcases List.eq_nil_or_concat rows with rfl | ⟨ps, p, rfl⟩
  · rfl
  · rw [List.concat_eq_append] at h ⊢
    rw [lastUp_snoc, if_pos (h p (List.mem_append_right _ (.head _))), List.getLast?_concat]
    rfl
theorem of_eq {b : BS} {r : List En} (w : Bw b r) (k : Str) {t : Int} (ht : 1000 ≤ t) (hn : Int) : (match ((led r).mv k).getLast? with | some p => p.2 | none => firstK k hn) = atL r k t hn := by
  rw [← at_eq w.gd]
  have : ∀ p ∈ (led r).mv k, p.1 ≤ t := fun p hp => by
    rw [mv_eq k w.gd] at hp
    obtain ⟨x, hx, e⟩ := List.mem_filterMap.mp hp
    have h1 := w.tse x.1 (doneL_in hx)
    have l1 := w.la1; have l2 := w.rl
    have e2 : p.1 = x.1.t := by
      obtain ⟨st, m⟩ := x
      cases m with
      | form _ _ => cases e
      | move k' to =>
        have e : (if k' = k then some (st.t, to) else none) = some p := e
        by_cases c : k' = k
        · rw [if_pos c] at e; cases e; rfl
        · rw [if_neg c] at e; cases e
    rw [e2]
    omega
  rw [lastUp_all this]
  cases ((led r).mv k).getLast? <;> rfl


def spRight34 (C CS : Addr) : Sp := fun vs H Q _ => ∃ x A N a zs b, vs = [.ref x, .ref a, .int b.ho, .int b.hn] ∧ LedgerAt C CS H x b.ho b.hn A (led (zs.map (·.2))) N ∧ RowsL H a zs ∧ Bw b (zs.map (·.2)) ∧ zs.length ≤ 60 ∧ ∀ H', Same H H' → Q (.bl true) H'
def Kq : List Str := ["a", "b", "cc", "zzz", "abcdef"]
theorem kq_let {k : Str} (h : k ∈ Kq) : KLet k ∧ k.cps.toList.length ≤ 100 := by
  have all : ∀ k ∈ Kq, (k.cps.toList.all fun c => decide (97 ≤ c) && decide (c ≤ 122)) = true ∧ k.cps.toList.length ≤ 100 := by decide +kernel
  obtain ⟨a, b⟩ := all k h
  refine ⟨fun c hc => ?_, b⟩
  have := List.all_eq_true.mp a c hc
  rw [Bool.and_eq_true, decide_eq_true_eq, decide_eq_true_eq] at this
  exact this
theorem len5 : 5 ≤ sizeLine := by decide
theorem lw_let {z : Str} (h : Lw z) : KLet z := fun c hc => by
  have := h c hc
  simp only [ltr, Bool.and_eq_true, decide_eq_true_eq] at this
  exact this
theorem zz0 : firstK "zz" 1 = 0 := by decide +kernel
theorem az4 : firstK "az" 4 = 1 := by decide +kernel

theorem ok_Shelf___init__ {P : Program} {w : World} {K : PySem.W.Frag} {mg : Str → Option Value} {base : Heap} {a : Nat → Addr} {d : Nat → FuncData} (T : Txt K mg a d) : FnOk P w K mg base CX0 1 (a 8) (d 8) ["self"] (spInit (a 55)) := by
  refine T.F_Shelf___init__.ok sc_Shelf___init__ (fun vs H Q E h => ?_) (fun cdv A outer s0 H vs Q E hr h => ?_)
  · obtain ⟨x, dx, rfl, hx, q⟩ := h
    rfl
  · obtain ⟨x, dx, rfl, hx, q⟩ := h
    refine ⟨_, (pss_cons (ps_fld (pv 0) pe_dnewK rfl) (pss_cons (ps_fld (pv 0) pe_non rfl) (pss_cons (ps_fld (pv 0) pe_bl rfl) (pss_one (ps_fld (pv 0) pe_dnewK rfl))))), ?_⟩
    intro rd nrd
    have hxr : x ≠ rd := ne_of_none hx nrd
    refine ⟨_, rfl, x, _, dx, _, rfl, (by rw [upd_ne hxr]; exact hx), T.cl, T.n_rows, (by decide), ?_⟩
    refine ⟨_, rfl, x, _, dx, _, rfl, upd_same, T.cl, T.n_let_go_to, (by show 1 < 1000; decide), ?_⟩
    refine ⟨_, rfl, x, _, dx, _, rfl, upd_same, T.cl, T.n_lent, Nat.lt_of_le_of_lt (few_up (few_up few0 _ _) _ _) (by decide), ?_⟩
    rw [upd_twice, upd_twice]
    intro od nod
    have hxo : x ≠ od := fun z => by rw [z, upd_same] at nod; cases nod
    have nod1 : (upd H rd (.dK [])) od = none := by rw [upd_ne (Ne.symm hxo)] at nod; exact nod
    have nrr : od ≠ rd := fun z => by rw [z, upd_same] at nod1; cases nod1
    have nod2 : H od = none := by rw [upd_ne nrr] at nod1; exact nod1
    refine ⟨_, rfl, x, _, dx, _, rfl, (by rw [upd_ne hxo]; exact upd_same), T.cl, T.n_own_rows, Nat.lt_of_le_of_lt (few_up (few_up (few_up few0 _ _) _ _) _ _) (by decide), ?_⟩
    rw [sf_new]
    refine q rd od _ nrd nod2 (fun b o n e => ?_) ⟨⟨dx, upd_same⟩, ⟨?_, (fun p hp => by cases hp), by simp, by simp⟩, ?_, nrr, fun _ => ⟨List.nodup_nil, fun k hk => by cases hk⟩⟩
    · rw [upd_ne n, upd_ne (ne_of_none e nod2), upd_ne n, upd_ne (ne_of_none e nrd)]
      exact e
    · rw [upd_ne (Ne.symm hxr), upd_ne (Ne.symm nrr), upd_ne (Ne.symm hxr), upd_same]
      rfl
    · rw [upd_ne (Ne.symm hxo), upd_same]
      rfl

theorem ok_is_whole {P : Program} {w : World} {K : PySem.W.Frag} {mg : Str → Option Value} {base : Heap} {a : Nat → Addr} {d : Nat → FuncData} (T : Txt K mg a d) : FnOk P w K mg base CX0 1 (a 0) (d 0) ["thing"] (spWholeD K) := by
  refine T.F_is_whole.ok sc_is_whole (fun vs H Q E h => ?_) (fun cdv A outer s0 H vs Q E hr h => ?_)
  · obtain ⟨v, d', rfl, ha, q⟩ := h
    rfl
  · obtain ⟨v, d', rfl, ha, q⟩ := h
    refine ⟨_, (pss_one (ps_ret (pe_and (pe_callB call_isi (by rfl) T.z_isinstance (by decide +kernel) (pa_cons (pv 0) (pa_cons (pe_bltn (v := .ty "int") (by rfl) T.z_int (by decide +kernel) rfl) pa_nil))) (pe_one (pe_not (pe_callB call_isi (by rfl) T.z_isinstance (by decide +kernel) (pa_cons (pv 0) (pa_cons (pe_bltn (v := .ty "bool") (by rfl) T.z_bool (by decide +kernel) rfl) pa_nil)))))))), ?_⟩
    obtain ⟨t, i, b, c, ty, ei, eb, _, ew, _⟩ := ha.is
    refine ⟨_, rfl, v, .ty "int", t, .type "int", i, rfl, .ty "int", ty, ei, i, rfl, ?_⟩
    cases i with
    | false => exact iteF (bq (Q := Q) ew.symm q)
    | true => exact iteT ⟨_, rfl, v, .ty "bool", t, .type "bool", b, rfl, .ty "bool", ty, eb, b, rfl, bq (Q := Q) ew.symm q⟩

theorem ok_is_row_of_whole {P : Program} {w : World} {K : PySem.W.Frag} {mg : Str → Option Value} {base : Heap} {a : Nat → Addr} {d : Nat → FuncData} (T : Txt K mg a d) : FnOk P w K mg base CX0 2 (a 1) (d 1) ["thing", "least", "most"] (spRowN K) := by
  refine T.F_is_row_of_whole.ok sc_is_row_of_whole (fun vs H Q E h => ?_) (fun cdv A outer s0 H vs Q E hr h => ?_)
  · obtain ⟨v, d', lo, hi, rfl, ha, hk, q⟩ := h
    rfl
  · obtain ⟨v, d', lo, hi, rfl, ha, hk, q⟩ := h
    refine ⟨_, (pss_cons (ps_if (PW.pt (pw_or (pt_not (pt_truth (pe_callB call_isi (by rfl) T.z_isinstance (by decide +kernel) (pa_cons (pv 0) (pa_cons (pe_bltn (v := .ty "tuple") (by rfl) T.z_tuple (by decide +kernel) rfl) pa_nil))) (by intro _; rfl))) (pw_or1 (pt_not (pt_chain op_le op_le (pv 1) (pe_callB call_len_seq (by rfl) T.z_len PySem.boot_len (pa_cons (pv 0) pa_nil)) (pv 2)))))) (pss_one (ps_ret pe_bl)) pss_nil) (pss_cons (ps_for PassesOwn.never rfl (pi_tup (pv 0)) (pg_name (i := 3) sc_is_row_of_whole.nd rfl (.inl rfl)) (pss_one (ps_if (PW.pt (pw_or (pt_not (pt_truth (pe_callB call_isi (by rfl) T.z_isinstance (by decide +kernel) (pa_cons (pv 3) (pa_cons (pe_bltn (v := .ty "int") (by rfl) T.z_int (by decide +kernel) rfl) pa_nil))) (by intro _; rfl))) (pw_or1 (pt_truth (pe_callB call_isi (by rfl) T.z_isinstance (by decide +kernel) (pa_cons (pv 3) (pa_cons (pe_bltn (v := .ty "bool") (by rfl) T.z_bool (by decide +kernel) rfl) pa_nil))) (by intro _; rfl))))) (pss_one (ps_ret pe_bl)) pss_nil))) (pss_one (ps_ret pe_bl)))), ?_⟩
    obtain ⟨t, _, _, c, ty, _, _, et, _, ec⟩ := ha.is
    refine ⟨_, rfl, v, .ty "tuple", t, .type "tuple", c, rfl, .ty "tuple", ty, et, c, rfl, ?_⟩
    cases c with
    | false => exact iteT (bq (Q := Q) (row_no ec.symm) (q H (Same.refl H)))
    | true =>
      refine iteF ?_
      obtain ⟨ds, rfl⟩ := istup ec.symm
      obtain ⟨p, xs, rfl, hS, hall⟩ := ha.tup
      have hlen := dpall_len hall
      refine ⟨_, rfl, _, rfl, p, _, rfl, .inr hS, lo, _, rfl, rfl, _, rfl, ?_⟩
      by_cases h1 : (lo : Int) ≤ (xs.length : Int)
      · refine iteDT h1 ⟨_, rfl, _, hi, rfl, rfl, _, rfl, ?_⟩
        by_cases h2 : (xs.length : Int) ≤ (hi : Int)
        · refine iteNS h2 ?_
          refine ⟨_, rfl, p, rfl, ⟨_, hS⟩, ?_⟩
          refine for_tup (K := K) (a := p) (xs := xs) (fun i σ H' => H' = H ∧ (ds.take i).all wholeD = true ∧ ∃ z : Option V, σ = [some (.ref p), some (.int lo), some (.int hi), z]) ⟨rfl, rfl, none, rfl⟩ (fun i σ H' _ z => by rw [z.1]; exact hS) ?_ ?_
          · rintro i x σ H' hx ⟨rfl, hT, z, rfl⟩
            obtain ⟨e, he, hd⟩ := dpall_get hall hx
            obtain ⟨t', i', b, _, ty', ei, eb, _, ew, _⟩ := (An.dp hd).is
            refine ⟨_, rfl, x, .ty "int", t', .type "int", i', rfl, .ty "int", ty', ei, i', rfl, ?_⟩
            have no : wholeD e = false → rowN (.tuple ds) lo hi = false := fun z => by
              simp only [rowN, mem_notall he z, Bool.and_false]
            cases i' with
            | false => exact iteT (bq (Q := Q) (no ew.symm) (q _ (Same.refl _)))
            | true =>
              refine iteF ⟨_, rfl, x, .ty "bool", t', .type "bool", b, rfl, .ty "bool", ty', eb, b, rfl, ?_⟩
              cases b with
              | true => exact iteT (bq (Q := Q) (no ew.symm) (q _ (Same.refl _)))
              | false => exact iteF ⟨rfl, take_all hT he ew.symm, _, rfl⟩
          · rintro σ H' ⟨rfl, hT, z, rfl⟩
            refine bq (Q := Q) ?_ (q _ (Same.refl _))
            rw [hlen, List.take_length] at hT
            have g1 : lo ≤ ds.length := by omega
            have g2 : ds.length ≤ hi := by omega
            simp only [rowN, g1, g2, hT, decide_true, Bool.and_self]
        · refine iteND h2 ?_
          refine bq (Q := Q) ?_ (q H (Same.refl H))
          have g2 : ¬ ds.length ≤ hi := by omega
          simp only [rowN, g2, decide_false, Bool.false_and, Bool.and_false]
      · refine iteDF h1 ⟨false, rfl, iteT ?_⟩
        refine bq (Q := Q) ?_ (q H (Same.refl H))
        have g2 : ¬ lo ≤ ds.length := by omega
        simp only [rowN, g2, decide_false, Bool.false_and]

theorem ok_is_stamp {P : Program} {w : World} {K : PySem.W.Frag} {mg : Str → Option Value} {base : Heap} {a : Nat → Addr} {d : Nat → FuncData} (T : Txt K mg a d) : FnOk P w K mg base CX0 3 (a 2) (d 2) ["thing"] spStampT := by
  refine T.F_is_stamp.ok sc_is_stamp (fun vs H Q E h => ?_) (fun cdv A outer s0 H vs Q E hr h => ?_)
  · obtain ⟨p, t, s, h, rfl, hp, hs, hh, q⟩ := h
    rfl
  · obtain ⟨p, t, s, h, rfl, hp, hs, hh, q⟩ := h
    refine ⟨_, (pss_one (ps_ret (pe_and (pe_call (ok_is_row_of_whole T) (hr.mono (by decide)) (by rfl) T.g_is_row_of_whole T.F_is_row_of_whole.kp T.b_is_row_of_whole .nil pass0 (pa_cons (pv 0) (pa_cons pe_int (pa_cons pe_int pa_nil)))) (pe_and (pe_cmpR op_ge (pe_ix ix_tup (pv 0) pe_int (fun _ _ => rfl)) pe_int (nomark _)) (pe_one (pe_cmpR op_ge (pe_ix ix_tup (pv 0) pe_int (fun _ _ => rfl)) pe_int (nomark _))))))), ?_⟩
    refine ⟨_, rfl, .ref p, .tuple [.int t, .int s, .int h], 3, 3, rfl, .dp (.tup (SqT.of hp) (.cons (.int _) (.cons (.int _) (.cons (.int _) .nil)))), by decide, fun H1 s1 => ?_⟩
    refine ⟨_, rfl, iteBT rfl ?_⟩
    refine ⟨_, rfl, p, _, 1, _, rfl, rfl, SqT.of (s1 _ _ hp), rfl, s, 0, rfl, rfl, _, rfl, iteDT hs ?_⟩
    exact ⟨_, rfl, p, _, 2, _, rfl, rfl, SqT.of (s1 _ _ hp), rfl, h, 0, rfl, rfl, bl_of (Q := Q) hh (q H1 s1)⟩

theorem ok_is_key {P : Program} {w : World} {K : PySem.W.Frag} {mg : Str → Option Value} {base : Heap} {a : Nat → Addr} {d : Nat → FuncData} (T : Txt K mg a d) : FnOk P w K mg base CX0 2 (a 3) (d 3) ["thing"] spKeyT := by
  refine T.F_is_key.ok sc_is_key (fun vs H Q E h => ?_) (fun cdv A outer s0 H vs Q E hr h => ?_)
  · obtain ⟨z, rfl, hk, q⟩ := h
    rfl
  · obtain ⟨z, rfl, hk, q⟩ := h
    refine ⟨_, (pss_cons (ps_if (PW.pt (pw_or (pt_not (pt_truth (pe_callB call_isi (by rfl) T.z_isinstance (by decide +kernel) (pa_cons (pv 0) (pa_cons (pe_bltn (v := .ty "str") (by rfl) T.z_str (by decide +kernel) rfl) pa_nil))) (by intro _; rfl))) (pw_or1 (pt_not (pt_chain op_le op_le pe_int (pe_callB call_len_str (by rfl) T.z_len PySem.boot_len (pa_cons (pv 0) pa_nil)) (pe_glob (v := .int (6)) (by rfl) (Exists.choose_spec T.g_MOST_LETTERS) ⟨_, rfl⟩)))))) (pss_one (ps_ret pe_bl)) pss_nil) (pss_one (ps_ret (pe_cmpR op_eq (pe_bm PySem.F.plainAttrs_str PySem.F.slot_str_strip PySem.F.type_str_strip mt_stripChars (pv 0) (pa_cons (pe_glob (v := .str "abcdefghijklmnopqrstuvwxyz") (by rfl) (Exists.choose_spec T.g_LETTERS) ⟨_, rfl⟩) pa_nil)) pe_str (nomark _))))), ?_⟩
    have hz := hk.sh
    have kd := hk.kd
    simp only [keyD, Bool.and_eq_true, decide_eq_true_eq] at kd
    obtain ⟨⟨g1, g2⟩, g3⟩ := kd
    have lz : z.length = z.cps.toList.length := (Array.length_toList (xs := z.cps)).symm
    refine ⟨_, rfl, .str z, .ty "str", _, .type "str", true, rfl, .ty "str", .base (.str z), kit_ty (by decide +kernel), true, rfl, iteF ?_⟩
    refine ⟨_, rfl, z, rfl, Nat.le_trans hz.len (by decide), 1, _, rfl, rfl, _, rfl, ?_⟩
    refine iteDT (by omega) ⟨_, 6, rfl, rfl, _, rfl, iteNS (by omega) ?_⟩
    refine ⟨_, rfl, rfl, z, _, rfl, rfl, Nat.le_trans hz.len (by decide), rfl, ?_⟩
    refine bq (Q := Q) ?_ (q H (Same.refl H))
    rw [strip_key]
    exact g3.symm

theorem ok_is_worth {P : Program} {w : World} {K : PySem.W.Frag} {mg : Str → Option Value} {base : Heap} {a : Nat → Addr} {d : Nat → FuncData} (T : Txt K mg a d) : FnOk P w K mg base CX0 3 (a 4) (d 4) ["thing"] spWorthT := by
  refine T.F_is_worth.ok sc_is_worth (fun vs H Q E h => ?_) (fun cdv A outer s0 H vs Q E hr h => ?_)
  · obtain ⟨p, ns, rfl, hp, h1, h2, q⟩ := h
    rfl
  · obtain ⟨p, ns, rfl, hp, h1, h2, q⟩ := h
    refine ⟨_, (pss_one (ps_ret (pe_call (ok_is_row_of_whole T) (hr.mono (by decide)) (by rfl) T.g_is_row_of_whole T.F_is_row_of_whole.kp T.b_is_row_of_whole .nil pass0 (pa_cons (pv 0) (pa_cons pe_int (pa_cons (pe_glob (v := .int (4)) (by rfl) (Exists.choose_spec T.g_MOST_FIELDS) ⟨_, rfl⟩) pa_nil)))))), ?_⟩
    refine ⟨_, rfl, .ref p, .tuple (ns.map .int), 1, 4, rfl, .dp (.tup (SqT.of hp) (dpall_ints _)), by decide, fun H1 s1 => bq (Q := Q) ?_ (q H1 s1)⟩
    have : ∀ l : List Int, (l.map PyData.int).all wholeD = true := fun l => List.all_eq_true.mpr fun d hd => by
      obtain ⟨n, _, rfl⟩ := List.mem_map.mp hd
      rfl
    simp only [rowN, List.length_map, h1, h2, this, decide_true, Bool.and_self]

theorem ok_refuse_no_key {P : Program} {w : World} {K : PySem.W.Frag} {mg : Str → Option Value} {base : Heap} {a : Nat → Addr} {d : Nat → FuncData} (T : Txt K mg a d) : FnOk P w K mg base CX0 3 (a 5) (d 5) ["thing"] spKeyN := by
  refine T.F_refuse_no_key.ok sc_refuse_no_key (fun vs H Q E h => ?_) (fun cdv A outer s0 H vs Q E hr h => ?_)
  · obtain ⟨k, rfl, hk, q⟩ := h
    rfl
  · obtain ⟨k, rfl, hk, q⟩ := h
    refine ⟨_, (pss_one (ps_if (pt_not (pt_truth (pe_call (ok_is_key T) (hr.mono (by decide)) (by rfl) T.g_is_key T.F_is_key.kp T.b_is_key .nil pass0 (pa_cons (pv 0) pa_nil)) (by intro _; rfl))) (pss_one ps_never) pss_nil)), ?_⟩
    exact ⟨_, rfl, k, rfl, hk, fun H1 s1 => ⟨true, rfl, iteF (q H1 s1)⟩⟩

theorem ok_refuse_no_time {P : Program} {w : World} {K : PySem.W.Frag} {mg : Str → Option Value} {base : Heap} {a : Nat → Addr} {d : Nat → FuncData} (T : Txt K mg a d) : FnOk P w K mg base CX0 2 (a 6) (d 6) ["thing"] spTimeN := by
  refine T.F_refuse_no_time.ok sc_refuse_no_time (fun vs H Q E h => ?_) (fun cdv A outer s0 H vs Q E hr h => ?_)
  · obtain ⟨t, rfl, q⟩ := h
    rfl
  · obtain ⟨t, rfl, q⟩ := h
    refine ⟨_, (pss_one (ps_if (pt_not (pt_truth (pe_call (ok_is_whole T) (hr.mono (by decide)) (by rfl) T.g_is_whole T.F_is_whole.kp T.b_is_whole .nil pass0 (pa_cons (pv 0) pa_nil)) (by intro _; rfl))) (pss_one ps_never) pss_nil)), ?_⟩
    exact ⟨_, rfl, .int t, .int t, rfl, .dp (.int t), true, rfl, iteF q⟩

theorem ok_many_up_to {P : Program} {w : World} {K : PySem.W.Frag} {mg : Str → Option Value} {base : Heap} {a : Nat → Addr} {d : Nat → FuncData} (T : Txt K mg a d) : FnOk P w K mg base CX0 1 (a 7) (d 7) ["row", "time"] spMany := by
  refine T.F_many_up_to.ok sc_many_up_to (fun vs H Q E h => ?_) (fun cdv A outer s0 H vs Q E hr h => ?_)
  · obtain ⟨r, es, t, rfl, hr0, hl, hpw, q⟩ := h
    rfl
  · obtain ⟨r, es, t, rfl, hr0, hl, hpw, q⟩ := h
    refine ⟨_, (pss_cons (ps_set (i := 2) sc_many_up_to.nd rfl (Or.inl rfl) pe_int) (pss_cons (ps_set (i := 3) sc_many_up_to.nd rfl (Or.inl rfl) (pe_callB call_len_seq (by rfl) T.z_len PySem.boot_len (pa_cons (pv 0) pa_nil))) (pss_cons (ps_if (PW.pt (pw_or (pt_cmpR op_eq (pv 3) pe_int (nomark _)) (pw_or1 (pt_cmpR op_le (pe_ix ix_tup (pe_ix ix_tup (pe_ix ix_list (pv 0) (pe_un un_neg pe_int) (fun _ _ => rfl)) pe_int (fun _ _ => rfl)) pe_int (fun _ _ => rfl)) (pv 1) (nomark _))))) (pss_one (ps_ret (pv 3))) pss_nil) (pss_cons (ps_while PassesOwn.never (pt_cmpR op_lt (pv 2) (pv 3) (nomark _)) (pss_cons (ps_set (i := 4) sc_many_up_to.nd rfl (Or.inl rfl) (pe_op op_fdiv (pe_op op_add (pv 2) (pv 3)) pe_int)) (pss_one (ps_if (pt_cmpR op_le (pe_ix ix_tup (pe_ix ix_tup (pe_ix ix_list (pv 0) (pv 4) (fun _ _ => rfl)) pe_int (fun _ _ => rfl)) pe_int (fun _ _ => rfl)) (pv 1) (nomark _)) (pss_one (ps_set (i := 2) sc_many_up_to.nd rfl (Or.inl rfl) (pe_op op_add (pv 4) pe_int))) (pss_one (ps_set (i := 3) sc_many_up_to.nd rfl (Or.inl rfl) (pv 4))))))) (pss_one (ps_ret (pv 2))))))), ?_⟩
    obtain ⟨ps, hr1, pr⟩ := hr0
    have lp := pr.len
    have hlen : (ps.map V.ref).length = es.length := by rw [List.length_map]; exact lp
    have hle := List.length_filter_le (fun e : Ent => decide (e.t ≤ t)) es
    have at_ : ∀ {j : Nat}, j < es.length → ∃ (p sa wa : Addr) (e : Ent), ps[j]? = some p ∧ atI (ps.map V.ref) (j : Int) = some (.ref p) ∧ es[j]? = some e ∧ H p = some (.tup [.ref sa, .ref wa]) ∧ H sa = some (.tup [.int e.t, .int e.s, .int e.h]) := fun {j} hj => by
      obtain ⟨p, hp⟩ : ∃ p, ps[j]? = some p := ⟨_, List.getElem?_eq_getElem (by omega)⟩
      obtain ⟨e, he, sa, wa, e1, e2, _⟩ := pr.get hp
      exact ⟨p, sa, wa, e, hp, atI_nat (by rw [List.getElem?_map, hp]; rfl), he, e1, e2⟩
    refine ⟨_, rfl, r, _, rfl, .inl (SqL.of hr1), ?_⟩
    rw [hlen]
    refine ⟨_, rfl, rfl, _, rfl, ?_⟩
    by_cases e0 : es.length = 0
    · refine iteDT (by rw [e0]; rfl) ⟨_, rfl, iq (Q := Q) ?_ (q H (Same.refl H))⟩
      omega
    refine iteDF (fun z => e0 (by have := V.int.inj z; omega)) ?_
    obtain ⟨p, sa, wa, e, hp0, hp, he, e1, e2⟩ := at_ (j := es.length - 1) (by omega)
    have lst : atI (ps.map V.ref) (-1) = some (.ref p) := last_at (by rw [List.getLast?_map, List.getLast?_eq_getElem?, lp, hp0]; rfl)
    refine ⟨_, rfl, 1, rfl, r, _, -1, .ref p, rfl, rfl, SqL.of hr1, lst, p, _, 0, _, rfl, rfl, SqT.of e1, rfl, sa, _, 0, _, rfl, rfl, SqT.of e2, rfl, _, rfl, _, _, rfl, rfl, _, rfl, ?_⟩
    by_cases c : e.t ≤ t
    · refine iteDT c ⟨_, rfl, iq (Q := Q) ?_ (q H (Same.refl H))⟩
      have := (take_iff hpw he).mp c
      omega
    refine iteDF c ?_
    refine ⟨fun k σ H' => H' = H ∧ ∃ (lo hi : Nat) (v4 : Option V), σ = [some (.ref r), some (.int t), some (.int (lo : Int)), some (.int (hi : Int)), v4] ∧ k = hi - lo ∧ lo ≤ (es.filter fun e => decide (e.t ≤ t)).length ∧ (es.filter fun e => decide (e.t ≤ t)).length ≤ hi ∧ hi ≤ es.length, ⟨_, rfl, 0, es.length, _, rfl, rfl, Nat.zero_le _, hle, Nat.le_refl _⟩, ?_⟩
    rintro k σ H' ⟨rfl, lo, hi, v4, rfl, rfl, h1, h2, h3⟩
    refine ⟨_, rfl, _, rfl, _, _, rfl, rfl, _, rfl, ?_⟩
    by_cases lt : lo < hi
    · refine iteDT (by omega) ⟨_, fun _ _ z => z, ?_⟩
      have em : ((lo : Int) + (hi : Int)) / 2 = (((lo + hi) / 2 : Nat) : Int) := by omega
      refine ⟨_, rfl, _, rfl, _, _, rfl, rfl, _, 2, rfl, rfl, ⟨by decide, by decide⟩, ?_⟩
      generalize ev : ((fun i j : Int => V.int (i / j)) ((lo : Int) + (hi : Int)) 2) = vm
      obtain ⟨md, hmd⟩ : ∃ md, md = (lo + hi) / 2 := ⟨_, rfl⟩
      have ev2 : vm = V.int (md : Int) := by rw [← ev]; show V.int (((lo : Int) + (hi : Int)) / 2) = _; rw [em, hmd]
      subst ev2
      clear ev
      obtain ⟨p2, sa2, wa2, e', _, hp2, he2, e12, e22⟩ := at_ (j := md) (by omega)
      refine ⟨_, rfl, _, rfl, r, _, (md : Int), .ref p2, rfl, rfl, SqL.of hr1, hp2, p2, _, 0, _, rfl, rfl, SqT.of e12, rfl, sa2, _, 0, _, rfl, rfl, SqT.of e22, rfl, _, rfl, _, _, rfl, rfl, _, rfl, ?_⟩
      have ti := take_iff (t := t) hpw he2
      by_cases c2 : e'.t ≤ t
      · have := ti.mp c2
        refine iteDT c2 ⟨_, rfl, _, 1, rfl, rfl, ?_⟩
        exact ⟨hi - (md + 1), by omega, rfl, md + 1, hi, _, rfl, rfl, by omega, by omega, h3⟩
      · have : ¬ md < _ := fun z => c2 (ti.mpr z)
        refine iteDF c2 ⟨_, rfl, ?_⟩
        exact ⟨md - lo, by omega, rfl, lo, md, _, rfl, rfl, by omega, by omega, by omega⟩
    · refine iteDF (by omega) ?_
      refine ⟨_, rfl, iq (Q := Q) ?_ (q H' (Same.refl H'))⟩
      omega

theorem ok_Shelf_row_of {P : Program} {w : World} {K : PySem.W.Frag} {mg : Str → Option Value} {base : Heap} {a : Nat → Addr} {d : Nat → FuncData} (T : Txt K mg a d) : FnOk P w K mg base CX0 4 (a 9) (d 9) ["self", "key"] (spRowOf (a 55)) := by
  refine T.F_Shelf_row_of.ok sc_Shelf_row_of (fun vs H Q E h => ?_) (fun cdv A outer s0 H vs Q E hr h => ?_)
  · obtain ⟨x, rd, od, le, os, k, m, lg, rfl, hs, hk, q⟩ := h
    rfl
  · obtain ⟨x, rd, od, le, os, k, m, lg, rfl, hs, hk, q⟩ := h
    obtain ⟨dx, hx⟩ := hs.ins
    refine ⟨_, (pss_cons (ps_expr (pe_call (ok_refuse_no_key T) (hr.mono (by decide)) (by rfl) T.g_refuse_no_key T.F_refuse_no_key.kp T.b_refuse_no_key .nil pass0 (pa_cons (pv 1) pa_nil))) (pss_one (ps_ret (pe_dget2 (hu_of hr) (pe_fld (pv 0) rfl) (pv 1) (pe_lst pa_nil) ⟨rfl, rfl, rfl, rfl⟩)))), ?_⟩
    refine ⟨_, rfl, k, rfl, hk, fun H1 s1 => ?_⟩
    have hd := s1 _ _ hs.tab.dict
    refine ⟨_, rfl, x, _, dx, _, _, rfl, s1 _ _ hx, T.cl, T.n_rows, sf_r _ _ _ _, rd, rfl, .inl ⟨_, .inl hd⟩, _, rfl, Nat.zero_le _, fun n nn => ?_⟩
    refine ⟨_, DGet.k (k := Sum.inr k) (by rw [upd_ne (ne_of_none hd nn)]; exact hd), ?_⟩
    rw [val_kvT]
    have sn : Same H (upd H1 n (.lst [])) := same_new s1 nn
    cases ha : atT m k with
    | some p => exact q p.1 _ sn ((hs.tab.es ha).same sn) (.inl ⟨p.2, ha⟩)
    | none =>
      refine q n _ sn ⟨[], upd_same, ?_⟩ (.inr ⟨ha, s1.free nn⟩)
      unfold esT
      rw [ha]
      exact .nil

theorem ok_Shelf___len__ {P : Program} {w : World} {K : PySem.W.Frag} {mg : Str → Option Value} {base : Heap} {a : Nat → Addr} {d : Nat → FuncData} (T : Txt K mg a d) : FnOk P w K mg base CX0 1 (a 12) (d 12) ["self"] (spLen (a 55)) := by
  refine T.F_Shelf___len__.ok sc_Shelf___len__ (fun vs H Q E h => ?_) (fun cdv A outer s0 H vs Q E hr h => ?_)
  · obtain ⟨x, rd, od, le, os, m, lg, rfl, hs, ht, q⟩ := h
    rfl
  · obtain ⟨x, rd, od, le, os, m, lg, rfl, hs, ht, q⟩ := h
    obtain ⟨dx, hx⟩ := hs.ins
    refine ⟨_, (pss_one (ps_ret (pe_callB call_len_seq (by rfl) T.z_len PySem.boot_len (pa_cons (pe_lock (pe_lc2 (own := [("row", 1), ("pair", 2)]) (vs1 := [2]) (g := (gName 1)) (g1 := (gName 2)) (wi1 := iList K (tVar 1)) (te := (tVar 2)) (by rfl) sc_Shelf___len__.nd (pi_values (pe_fld (pv 0) rfl)) (blkOk_by (own := [("row", 1), ("pair", 2)]) (N := ["self", "row", "pair"]) (sc := defScope s_Shelf___len__) (by decide +kernel)) (by decide) (fun _ _ _ _ _ => (pg_name (i := 1) sc_Shelf___len__.nd rfl (.inl rfl))) (fun _ _ _ _ _ => pts_nil) (fun _ _ _ _ _ => (pi_list (pv 1))) (fun _ _ _ _ _ => (pg_name (i := 2) sc_Shelf___len__.nd rfl (.inl rfl))) (fun _ _ _ _ _ => pts_nil) (fun _ _ _ _ _ => (pv 2)))) pa_nil)))), ?_⟩
    refine ⟨rd, _, hs.tab.dict, trivial, fun od => ?_⟩
    have hxd : x ≠ rd := ne_of hx hs.tab.dict (by intro q; cases q)
    have back : ∀ {b : Addr} {o : HO}, b ≠ rd → H b = some o → (upd H rd (.frz od (.dK (kvT m)))) b = some o := fun n e => by rw [upd_ne n]; exact e
    have hfz : (upd H rd (.frz od (.dK (kvT m)))) rd = some (.frz od (.dK (kvT m))) := upd_same
    refine ⟨_, rfl, x, _, dx, _, _, rfl, back hxd hx, T.cl, T.n_rows, sf_r _ _ _ _, rd, od, _, rfl, hfz, fun D nD => ?_⟩
    have hDr : D ≠ rd := fun z => by rw [z, hfz] at nD; cases nD
    have rows : ∀ p ∈ m, ∃ ps : List Addr, (upd H rd (.frz od (.dK (kvT m)))) p.2.1 = some (.lst (ps.map V.ref)) ∧ ps.length = p.2.2.length := fun p hp => by
      obtain ⟨ps, hl, pr⟩ := hs.tab.row p hp
      exact ⟨ps, back (hs.tab.at_kind hp) hl, pr.len⟩
    have tail : ∀ (H' : Hp), Same (upd H rd (.frz od (.dK (kvT m)))) H' → Same H (upd H' rd (.dK (kvT m))) := fun H' s b o z => by
      by_cases e : b = rd
      · subst e
        rw [upd_same, ← z]
        exact hs.tab.dict.symm
      · rw [upd_ne e]
        exact s _ _ (back e z)
    generalize (upd H rd (.frz od (.dK (kvT m)))) = Hf at *
    refine lc2_it walk_values (fun i H' => Same Hf H' ∧ ∃ zs, H' D = some (.lst zs) ∧ zs.length = tot (ct (m.take i))) ⟨same_new (Same.refl Hf) nD, [], (upd_same : upd Hf D (.lst []) D = some (.lst [])), rfl⟩ (fun i H' _ z => z.1 _ _ hfz) ?_ ?_
    · rintro i v H' H'' hi ⟨s1, zs, hD, hz⟩ ⟨rfl, k, hk⟩
      unfold kvT at hk
      rw [List.getElem?_map] at hk
      obtain ⟨p, hp, ep⟩ := Option.map_eq_some_iff.mp hk
      cases ep
      obtain ⟨ps, hl, hlen⟩ := rows p (List.mem_of_getElem? hp)
      have etot : tot (ct (m.take (i + 1))) = tot (ct (m.take i)) + p.2.2.length := by
        rw [List.take_add_one, hp]
        unfold ct
        rw [List.map_append, tot_app]
        show _ + tot [(p.1, p.2.2)] = _
        rw [tot_cons]
        rfl
      have hsub : tot (ct (m.take (i + 1))) ≤ tot (ct m) := by
        have e := List.take_append_drop (i + 1) m
        have : tot (ct m) = tot (ct (m.take (i + 1))) + tot (ct (m.drop (i + 1))) := by
          conv => lhs; rw [← e]
          unfold ct
          rw [List.map_append, tot_app]
        omega
      refine ⟨rfl, _, rfl, p.2.1, rfl, ⟨_, SqL.of (s1 _ _ hl)⟩, ?_⟩
      refine in_it (walk_list (xs := ps.map V.ref)) (fun j H' => Same Hf H' ∧ ∃ zs, H' D = some (.lst zs) ∧ zs.length = tot (ct (m.take i)) + j) ⟨s1, zs, hD, by omega⟩ (fun j H' _ z => SqL.of (z.1 _ _ hl)) ?_ ?_
      · rintro j y G G' hj ⟨s2, ys, hD2, hy⟩ ⟨rfl, hyy⟩
        rw [List.length_map] at hj
        refine ⟨rfl, _, rfl, ys, hD2, ?_, fun u o z => ?_, _, upd_same, ?_⟩
        · exact Nat.lt_of_le_of_lt (show ys.length ≤ 1000 by omega) (by decide)
        · rw [upd_ne (ne_of_none z nD)]
          exact s2 u o z
        · rw [List.length_append, hy]
          rfl
      · rintro G ⟨s2, ys, hD2, hy⟩
        rw [List.length_map] at hy
        exact ⟨s2, ys, hD2, by omega⟩
    · rintro H' ⟨s1, zs, hD, hz⟩
      have hlen : (kvT m).length = m.length := by unfold kvT; rw [List.length_map]
      rw [hlen, List.take_length] at hz
      refine ⟨s1 _ _ hfz, D, zs, rfl, .inl (SqL.of (by rw [upd_ne hDr]; exact hD)), iq (Q := Q) (by rw [hz]) (q _ (tail H' s1))⟩

theorem ok_Shelf_make_own {P : Program} {w : World} {K : PySem.W.Frag} {mg : Str → Option Value} {base : Heap} {a : Nat → Addr} {d : Nat → FuncData} (T : Txt K mg a d) : FnOk P w K mg base CX0 1 (a 10) (d 10) ["self"] (spOwn (a 55)) := by
  refine T.F_Shelf_make_own.ok sc_Shelf_make_own (fun vs H Q E h => ?_) (fun cdv A outer s0 H vs Q E hr h => ?_)
  · obtain ⟨x, rd, od, le, os, m, lg, rfl, hs, q⟩ := h
    rfl
  · obtain ⟨x, rd, od, le, os, m, lg, rfl, hs, q⟩ := h
    obtain ⟨dx, hx⟩ := hs.ins
    refine ⟨_, (pss_one (ps_if (pt_truth (pe_fld (pv 0) rfl) (by intro _; rfl)) (pss_cons (ps_fld (pv 0) (pe_callTy call_dictD (by rfl) T.z_dict (by decide +kernel) (pa_cons (pe_fld (pv 0) rfl) pa_nil)) rfl) (pss_cons (ps_fld (pv 0) pe_dnewK rfl) (pss_one (ps_fld (pv 0) pe_bl rfl)))) pss_nil)), ?_⟩
    cases le with
    | false => exact ⟨_, rfl, x, _, dx, _, _, rfl, hx, T.cl, T.n_lent, sf_t _ _ _ _, false, rfl, iteF (q rd od H hs (fun _ _ _ e => e) (.inl rfl) (.inl rfl) (fun _ => ⟨rfl, rfl⟩) (fun z => by cases z))⟩
    | true =>
      refine ⟨_, rfl, x, _, dx, _, _, rfl, hx, T.cl, T.n_lent, sf_t _ _ _ _, true, rfl, iteT ?_⟩
      refine ⟨_, rfl, x, _, dx, _, _, rfl, hx, T.cl, T.n_rows, sf_r _ _ _ _, rd, _, rfl, .inl hs.tab.dict, fun p np => ?_⟩
      have hxp : x ≠ p := ne_of_none hx np
      have s1 : Same H (upd H p (.dK (kvT m))) := same_new (Same.refl H) np
      have hp1 : (upd H p (.dK (kvT m))) p = some (.dK (kvT m)) := upd_same
      generalize (upd H p (.dK (kvT m))) = H1 at s1 hp1 ⊢
      refine ⟨_, rfl, x, _, dx, _, rfl, s1 _ _ hx, T.cl, T.n_rows, sf_len _ _ _ _, ?_⟩
      rw [sf_put_r]
      have k2 : ∀ b o, b ≠ x → H1 b = some o → (upd H1 x (.ins (a 55) dx (sf (.ref p) lg true od))) b = some o := fun b o n e => by rw [upd_ne n]; exact e
      have hx2 : (upd H1 x (.ins (a 55) dx (sf (.ref p) lg true od))) x = some (.ins (a 55) dx (sf (.ref p) lg true od)) := upd_same
      have f2 : ∀ b, (upd H1 x (.ins (a 55) dx (sf (.ref p) lg true od))) b = none → H b = none := fun b e => by
        by_cases c : b = x
        · rw [c, upd_same] at e; cases e
        · rw [upd_ne c] at e; exact s1.free e
      generalize (upd H1 x (.ins (a 55) dx (sf (.ref p) lg true od))) = H2 at k2 hx2 f2 ⊢
      intro d nd
      have hxd : x ≠ d := ne_of_none hx2 nd
      have s3 : Same H2 (upd H2 d (.dK [])) := same_new (Same.refl H2) nd
      have hd3 : (upd H2 d (.dK [])) d = some (.dK []) := upd_same
      have hdp : d ≠ p := Ne.symm (ne_of_none (k2 _ _ (Ne.symm hxp) hp1) nd)
      generalize (upd H2 d (.dK [])) = H3 at s3 hd3 ⊢
      refine ⟨_, rfl, x, _, dx, _, rfl, s3 _ _ hx2, T.cl, T.n_own_rows, sf_len _ _ _ _, ?_⟩
      rw [sf_put_o]
      refine ⟨_, rfl, x, _, dx, _, rfl, upd_same, T.cl, T.n_lent, sf_len _ _ _ _, ?_⟩
      rw [sf_put_t, upd_twice]
      have k4 : ∀ b o, b ≠ x → H b = some o → (upd H3 x (.ins (a 55) dx (sf (.ref p) lg false d))) b = some o := fun b o n e => by
        rw [upd_ne n]
        exact s3 _ _ (k2 _ _ n (s1 _ _ e))
      have tb : TabAt (upd H3 x (.ins (a 55) dx (sf (.ref p) lg false d))) p m := by
        refine ⟨?_, fun q hq => ?_, hs.tab.nd, hs.tab.na⟩
        · rw [upd_ne (Ne.symm hxp)]
          exact s3 _ _ (k2 _ _ (Ne.symm hxp) hp1)
        · obtain ⟨ps, hl, pr⟩ := hs.tab.row q hq
          exact ⟨ps, k4 _ _ (ne_of hl hx (by intro z; cases z)) hl, pr.tk fun b xs e => k4 _ _ (ne_of e hx (by intro z; cases z)) e⟩
      exact q p d _ ⟨⟨dx, upd_same⟩, tb, by rw [upd_ne (Ne.symm hxd)]; exact hd3, hdp, fun _ => ⟨List.nodup_nil, fun k hk => by cases hk⟩⟩ k4 (.inr np) (.inr (f2 _ nd)) (fun z => by cases z) (fun _ => ⟨np, f2 _ nd⟩)

theorem ok_Shelf_put {P : Program} {w : World} {K : PySem.W.Frag} {mg : Str → Option Value} {base : Heap} {a : Nat → Addr} {d : Nat → FuncData} (T : Txt K mg a d) : FnOk P w K mg base CX0 5 (a 11) (d 11) ["self", "key", "stamp", "worth"] (spPut (a 55)) := by
  refine T.F_Shelf_put.ok sc_Shelf_put (fun vs H Q E h => ?_) (fun cdv A outer s0 H vs Q E hr h => ?_)
  · obtain ⟨x, rd, od, sa, wa, le, os, k, m, lg, e, rfl, hs, hk, hsa, hwa, he, hm, hes, hlast, q⟩ := h
    rfl
  · obtain ⟨x, rd, od, sa, wa, le, os, k, m, lg, e, rfl, hs, hk, hsa, hwa, he, hm, hes, hlast, q⟩ := h
    obtain ⟨dx, hx⟩ := hs.ins
    refine ⟨_, (pss_cons (ps_set (i := 4) sc_Shelf_put.nd rfl (Or.inl rfl) (pe_meth (pv 0) T.cl T.m_Shelf_row_of (ok_Shelf_row_of T) (hr.mono (by decide)) T.b_Shelf_row_of .nil pass0 (pa_cons (pv 1) pa_nil))) (pss_cons (ps_if (pt_not (pt_truth (pe_call (ok_is_stamp T) (hr.mono (by decide)) (by rfl) T.g_is_stamp T.F_is_stamp.kp T.b_is_stamp .nil pass0 (pa_cons (pv 2) pa_nil)) (by intro _; rfl))) (pss_one ps_never) pss_nil) (pss_cons (ps_if (PW.pt (pw_and (pt_truth (pv 4) (by intro _; rfl)) (pw_and1 (pt_cmpR (op_geT hr.units0) (pe_ix ix_tup (pe_ix ix_list (pv 4) (pe_un un_neg pe_int) (fun _ _ => rfl)) pe_int (fun _ _ => rfl)) (pv 2) (nomark _))))) (pss_one ps_never) pss_nil) (pss_cons (ps_if (pt_not (pt_truth (pe_call (ok_is_worth T) (hr.mono (by decide)) (by rfl) T.g_is_worth T.F_is_worth.kp T.b_is_worth .nil pass0 (pa_cons (pv 3) pa_nil)) (by intro _; rfl))) (pss_one ps_never) pss_nil) (pss_cons (ps_expr (pe_meth0 (pv 0) T.cl T.m_Shelf_make_own (ok_Shelf_make_own T) (hr.mono (by decide)) T.b_Shelf_make_own .nil pass0)) (pss_cons (ps_if (pt_cmp (pc_dnotin (hu_of hr) (pv 1) (pe_fld (pv 0) rfl))) (pss_cons (ps_set (i := 4) sc_Shelf_put.nd rfl (Or.inl rfl) (pe_callTy call_list_of (by rfl) T.z_list (by decide +kernel) (pa_cons (pv 4) pa_nil))) (pss_cons (ps_dput (hu_of hr) (pe_fld (pv 0) rfl) (pv 1) (pv 4) rfl) (pss_one (ps_dput (hu_of hr) (pe_fld (pv 0) rfl) (pv 1) pe_bl rfl)))) pss_nil) (pss_one (ps_expr (pe_bm PySem.F.plainAttrs_list PySem.F.slot_list_append PySem.F.type_list_append mt_append (pv 4) (pa_cons (pe_tup (pa_cons (pv 2) (pa_cons (pv 3) pa_nil))) pa_nil)))))))))), ?_⟩
    refine ⟨_, rfl, x, dx, _, rfl, hx, sf_no _ _ _ _ (by decide +kernel) (by decide +kernel) (by decide +kernel) (by decide +kernel), _, rfl, x, rd, od, le, os, k, m, lg, rfl, hs, hk, fun r H1 s1 hrow hr => ?_⟩
    refine ⟨_, rfl, sa, e.t, e.s, e.h, rfl, s1 _ _ hsa, he.s1, he.h1, fun H2 s2 => ⟨true, rfl, iteF ?_⟩⟩
    have S2 := s1.trans s2
    obtain ⟨ps, hl2, pr2⟩ := hrow.same s2
    refine ⟨_, rfl, !(ps.map V.ref).isEmpty, .inl ⟨_, SqL.of hl2, rfl⟩, ?_⟩
    by_cases hps : ps = []
    · refine iteBF (by rw [hps]; rfl) (iteF ?_)
      refine ⟨_, rfl, wa, e.w, rfl, S2 _ _ hwa, he.w1, he.w2, fun H3 s3 => ⟨true, rfl, iteF ?_⟩⟩
      have S3 := S2.trans s3
      have hl3 := s3 _ _ hl2
      have hx3 := S3 _ _ hx
      refine ⟨_, rfl, x, dx, _, rfl, hx3, sf_no _ _ _ _ (by decide +kernel) (by decide +kernel) (by decide +kernel) (by decide +kernel), x, rd, od, le, os, m, lg, rfl, hs.same S3, fun rd1 od1 H4 hs4 fr4 o1 o2 o3 o4 => ?_⟩
      have xr : x ≠ r := ne_of hx3 hl3 (by intro q; cases q)
      have hl4 := fr4 _ _ (Ne.symm xr) hl3
      have o1 : rd1 = rd ∨ H rd1 = none := o1.imp id fun z => S3.free z
      have o2 : od1 = od ∨ H od1 = none := o2.imp id fun z => S3.free z
      have o4 : le = true → H rd1 = none ∧ H od1 = none := fun z => ⟨S3.free (o4 z).1, S3.free (o4 z).2⟩
      have K4 : ∀ b o, b ≠ x → H b = some o → H4 b = some o := fun b o n z => fr4 b o n (S3 _ _ z)
      have F4 : ∀ b, H4 b = none → H b = none := fun b z => by
        cases hb : H b with
        | none => rfl
        | some o =>
          by_cases c : b = x
          · obtain ⟨dx4, hx4⟩ := hs4.ins
            rw [c, hx4] at z
            cases z
          · rw [K4 b o c hb] at z
            cases z
      have TK4 : Tk H H4 := fun b xs z => K4 b _ (ne_of z hx (by intro q; cases q)) z
      have R4 : PrA H4 ps (esT m k) := (pr2.tk (same_tk s3)).tk fun b xs z => fr4 b _ (ne_of z hx3 (by intro q; cases q)) z
      obtain ⟨dx4, hx4⟩ := hs4.ins
      have own4 : H4 od1 = some (.dK (ownL (os1 le os))) := hs4.own
      have fit4 : (os1 le os).Nodup ∧ ∀ k ∈ os1 le os, k ∈ m.map (·.1) := hs4.fit rfl
      have hsa4 := TK4 _ _ hsa
      have hwa4 := TK4 _ _ hwa
      have hd4 := hs4.tab.dict
      refine ⟨_, rfl, _, rfl, x, _, dx4, _, _, rfl, hx4, T.cl, T.n_own_rows, sf_o _ _ _ _, od1, _, rfl, DGet.k (k := Sum.inr k) own4, _, rfl, ?_⟩
      rw [val_ownL]
      have xd : x ≠ rd1 := ne_of hx4 hd4 (by intro q; cases q)
      have xo : x ≠ od1 := ne_of hx4 own4 (by intro q; cases q)
      by_cases ho : k ∈ os1 le os
      · rw [decide_eq_true ho]
        refine iteBF rfl ?_
        have hle : le = false := by
          cases le with
          | false => rfl
          | true => cases ho
        subst hle
        obtain ⟨e1, e2⟩ := o3 rfl
        subst e1 e2
        obtain ⟨es, ha⟩ : ∃ es, atT m k = some (r, es) := by
          rcases hr with h | ⟨h, _⟩
          · exact h
          · obtain ⟨p, hp, e⟩ := List.mem_map.mp (fit4.2 k ho)
            exact absurd e (atT_none h p hp)
        have hrown : r ∈ ownS x rd1 od1 false os m := own_in (p := (k, r, es)) (atT_mem ha) ho
        refine ⟨_, rfl, .inl ⟨rfl, _, SqL.of hl4⟩, _, rfl, _, rfl, len2, fun pp npp => ?_⟩
        have hrp : r ≠ pp := ne_of_none hl4 npp
        have rrd : r ≠ rd1 := ne_of hl4 hd4 (by intro q; cases q)
        have rod : r ≠ od1 := ne_of hl4 own4 (by intro q; cases q)
        refine ⟨r, _, _, rfl, rfl, (by rw [upd_ne hrp]; exact hl4), ?_, ?_⟩
        · rw [List.length_map, R4.len]
          exact Nat.lt_of_le_of_lt hes (by decide)
        have keep : ∀ b o, H4 b = some o → b ≠ r → (upd (upd H4 pp (.tup [.ref sa, .ref wa])) r (.lst (ps.map V.ref ++ [V.ref pp]))) b = some o := fun b o z n2 => by
          rw [upd_ne n2, upd_ne (ne_of_none z npp)]
          exact z
        have hpp : (upd (upd H4 pp (.tup [.ref sa, .ref wa])) r (.lst (ps.map V.ref ++ [V.ref pp]))) pp = some (.tup [.ref sa, .ref wa]) := by
          rw [upd_ne (Ne.symm hrp), upd_same]
        have hrr : (upd (upd H4 pp (.tup [.ref sa, .ref wa])) r (.lst (ps.map V.ref ++ [V.ref pp]))) r = some (.lst (ps.map V.ref ++ [V.ref pp])) := upd_same
        generalize (upd (upd H4 pp (.tup [.ref sa, .ref wa])) r (.lst (ps.map V.ref ++ [V.ref pp]))) = H5 at keep hpp hrr ⊢
        have tk5 : ∀ b xs, H4 b = some (.tup xs) → H5 b = some (.tup xs) := fun b xs z => keep b _ z (ne_of z hl4 (by intro q; cases q))
        have hrow2 : RowAt H5 r (esT m k ++ [e]) := ⟨ps ++ [pp], by rw [hrr, List.map_append]; rfl, PrA.app (R4.tk tk5) (.cons ⟨sa, wa, hpp, tk5 _ _ hsa4, tk5 _ _ hwa4⟩ .nil)⟩
        have pk := putT_keys ha r e
        refine q rd1 od1 os (putT m k r e) H5 ⟨⟨dx4, keep _ _ hx4 xr⟩, hs4.tab.put (.inl ⟨es, ha⟩) (by rw [putK_self ha hs.tab.nd]; exact keep _ _ hd4 (Ne.symm rrd)) hrow2 (fun b o z _ n2 => keep b o z n2), keep _ _ own4 (Ne.symm rod), hs4.nod, fun _ => ⟨fit4.1, fun j hj => by rw [pk]; exact fit4.2 j hj⟩⟩ (ct_putT _ _ _ _) ⟨fun c o n z => ?_, fun c hc => ?_⟩ fun c hc => ?_
        · exact keep c o (K4 c o (fun y => n (y ▸ own_x)) z) fun y => n (y ▸ hrown)
        · rcases ownF hc with h | h | h | ⟨p, hp, hpo, h⟩
          · exact .inl (h ▸ own_x)
          · exact .inl (h ▸ own_od)
          · exact .inl (h ▸ own_rd)
          · obtain ⟨p0, h0, ek, ea⟩ := putT_addrs ha r e p hp
            left
            rw [← h, ← ea]
            exact own_in h0 (by rw [ek]; exact hpo)
        · rcases supF.mp hc with h | h | h | ⟨p, hp, h⟩
          · exact .inl (supF.mpr (.inl h))
          · exact .inl (supF.mpr (.inr (.inl h)))
          · exact .inl (supF.mpr (.inr (.inr (.inl h))))
          · obtain ⟨p0, h0, ek, ea⟩ := putT_addrs ha r e p hp
            exact .inl (supF.mpr (.inr (.inr (.inr ⟨p0, h0, ea.trans h⟩))))
      · rw [decide_eq_false ho]
        refine iteBT rfl ?_
        refine ⟨_, rfl, r, _, rfl, .inl (SqL.of hl4), fun l2 nl2 => ?_⟩
        have l2d : l2 ≠ rd1 := Ne.symm (ne_of_none hd4 nl2)
        have l2o : l2 ≠ od1 := Ne.symm (ne_of_none own4 nl2)
        have l2x : l2 ≠ x := Ne.symm (ne_of_none hx4 nl2)
        have s5 : Same H4 (upd H4 l2 (.lst (ps.map V.ref))) := same_new (Same.refl H4) nl2
        have hl5 : (upd H4 l2 (.lst (ps.map V.ref))) l2 = some (.lst (ps.map V.ref)) := upd_same
        generalize (upd H4 l2 (.lst (ps.map V.ref))) = H5 at s5 hl5 ⊢
        refine ⟨_, rfl, _, rfl, x, _, dx4, _, _, rfl, s5 _ _ hx4, T.cl, T.n_rows, sf_r _ _ _ _, _, rfl, rd1, _, rfl, DPut.k (k := Sum.inr k) (s5 _ _ hd4) ?_, ?_⟩
        · unfold kvT
          rw [List.length_map]
          exact Nat.lt_of_le_of_lt hm (by decide)
        have k6 : ∀ b o, H5 b = some o → b ≠ rd1 → (upd H5 rd1 (.dK (putK (kvT m) (Sum.inr k) (.ref l2)))) b = some o := fun b o z n => by rw [upd_ne n]; exact z
        have hd6 : (upd H5 rd1 (.dK (putK (kvT m) (Sum.inr k) (.ref l2)))) rd1 = some (.dK (putK (kvT m) (Sum.inr k) (.ref l2))) := upd_same
        generalize (upd H5 rd1 (.dK (putK (kvT m) (Sum.inr k) (.ref l2)))) = H6 at k6 hd6 ⊢
        have own6 := k6 _ _ (s5 _ _ own4) hs4.nod
        refine ⟨_, rfl, x, _, dx4, _, _, rfl, k6 _ _ (s5 _ _ hx4) xd, T.cl, T.n_own_rows, sf_o _ _ _ _, _, rfl, od1, _, rfl, DPut.k (k := Sum.inr k) own6 ?_, ?_⟩
        · unfold ownL
          rw [List.length_map]
          have : (os1 le os).length ≤ (m.map (·.1)).length := nodup_leS fit4.1 fit4.2
          rw [List.length_map] at this
          exact Nat.lt_of_le_of_lt (Nat.le_trans this hm) (by decide)
        rw [own_add]
        have k7 : ∀ b o, H6 b = some o → b ≠ od1 → (upd H6 od1 (.dK (ownL (addO (os1 le os) k)))) b = some o := fun b o z n => by rw [upd_ne n]; exact z
        have ho7 : (upd H6 od1 (.dK (ownL (addO (os1 le os) k)))) od1 = some (.dK (ownL (addO (os1 le os) k))) := upd_same
        generalize (upd H6 od1 (.dK (ownL (addO (os1 le os) k)))) = H7 at k7 ho7 ⊢
        have hl7 := k7 _ _ (k6 _ _ hl5 l2d) l2o
        refine ⟨_, rfl, .inl ⟨rfl, _, SqL.of hl7⟩, _, rfl, _, rfl, len2, fun pp npp => ?_⟩
        have lpp : l2 ≠ pp := ne_of_none hl7 npp
        refine ⟨l2, _, _, rfl, rfl, (by rw [upd_ne lpp]; exact hl7), ?_, ?_⟩
        · rw [List.length_map, R4.len]
          exact Nat.lt_of_le_of_lt hes (by decide)
        have k9 : ∀ b o, H7 b = some o → b ≠ l2 → (upd (upd H7 pp (.tup [.ref sa, .ref wa])) l2 (.lst (ps.map V.ref ++ [V.ref pp]))) b = some o := fun b o z n => by
          rw [upd_ne n, upd_ne (ne_of_none z npp)]
          exact z
        have hpp : (upd (upd H7 pp (.tup [.ref sa, .ref wa])) l2 (.lst (ps.map V.ref ++ [V.ref pp]))) pp = some (.tup [.ref sa, .ref wa]) := by
          rw [upd_ne (Ne.symm lpp), upd_same]
        have hll : (upd (upd H7 pp (.tup [.ref sa, .ref wa])) l2 (.lst (ps.map V.ref ++ [V.ref pp]))) l2 = some (.lst (ps.map V.ref ++ [V.ref pp])) := upd_same
        generalize (upd (upd H7 pp (.tup [.ref sa, .ref wa])) l2 (.lst (ps.map V.ref ++ [V.ref pp]))) = H9 at k9 hpp hll ⊢
        have k49 : ∀ b o, H4 b = some o → b ≠ rd1 → b ≠ od1 → H9 b = some o := fun b o z n1 n2 => k9 _ _ (k7 _ _ (k6 _ _ (s5 _ _ z) n1) n2) (ne_of_none z nl2)
        have tk9 : ∀ b xs, H4 b = some (.tup xs) → H9 b = some (.tup xs) := fun b xs z => k49 b _ z (ne_of z hd4 (by intro q; cases q)) (ne_of z own4 (by intro q; cases q))
        have hrow2 : RowAt H9 l2 (esT m k ++ [e]) := ⟨ps ++ [pp], by rw [hll, List.map_append]; rfl, PrA.app (R4.tk tk9) (.cons ⟨sa, wa, hpp, tk9 _ _ hsa4, tk9 _ _ hwa4⟩ .nil)⟩
        have own9 : H9 od1 = some (.dK (ownL (addO (os1 le os) k))) := k9 _ _ ho7 (Ne.symm l2o)
        have hd9 : H9 rd1 = some (.dK (putK (kvT m) (Sum.inr k) (.ref l2))) := k9 _ _ (k7 _ _ hd6 (Ne.symm hs4.nod)) (Ne.symm l2d)
        have T1 : TabAt (upd H4 od1 (.dK (ownL (addO (os1 le os) k)))) rd1 m := hs4.tab.frame own4 (Ne.symm hs4.nod) fun b o z n => by rw [upd_ne n]; exact z
        have n1 : (upd H4 od1 (.dK (ownL (addO (os1 le os) k)))) l2 = none := by rw [upd_ne l2o]; exact nl2
        have kp : ∀ b o, (upd H4 od1 (.dK (ownL (addO (os1 le os) k)))) b = some o → b ≠ rd1 → H9 b = some o := fun b o z n => by
          by_cases bo : b = od1
          · rw [bo] at z ⊢
            rw [upd_same] at z
            rw [own9]
            exact z
          · rw [upd_ne bo] at z
            exact k49 _ _ z n bo
        have T9 : TabAt H9 rd1 (putN m k l2 e) := by
          cases ha : atT m k with
          | none =>
            have e1 : putN m k l2 e = m ++ [(k, l2, [e])] := by unfold putN; rw [ha]
            rw [e1]
            rw [esT_none ha] at hrow2
            exact T1.addN ha n1 hd9 hrow2 kp
          | some qq =>
            obtain ⟨r0, es0⟩ := qq
            rw [putN_some ha hs.tab.nd]
            rw [esT_some ha] at hrow2
            exact T1.setN ha n1 hd9 hrow2 kp
        refine q rd1 od1 _ (putN m k l2 e) H9 ⟨⟨dx4, k49 _ _ hx4 xd xo⟩, T9, own9, hs4.nod, fun _ => ⟨addO_nd fit4.1 k, fun j hj => ?_⟩⟩ (ct_putN _ _ _ _) ⟨fun c o n z => ?_, fun c hc => ?_⟩ fun c hc => ?_
        · rw [putN_keys]
          exact (addO_mem.mp hj).imp (fit4.2 j) id
        · have nx : c ≠ x := fun y => n (y ▸ own_x)
          refine k49 c o (K4 c o nx z) (fun y => ?_) fun y => ?_
          · cases le with
            | false => exact n (y ▸ (o3 rfl).1 ▸ own_rd)
            | true => rw [y, (o4 rfl).1] at z; cases z
          · cases le with
            | false => exact n (y ▸ (o3 rfl).2 ▸ own_od)
            | true => rw [y, (o4 rfl).2] at z; cases z
        · have ro : ∀ {c}, c = rd1 → c ∈ ownS x rd od le os m ∨ H c = none := fun h => by
            subst h
            cases le with
            | false => exact .inl ((o3 rfl).1 ▸ own_rd)
            | true => exact .inr (o4 rfl).1
          have oo : ∀ {c}, c = od1 → c ∈ ownS x rd od le os m ∨ H c = none := fun h => by
            subst h
            cases le with
            | false => exact .inl ((o3 rfl).2 ▸ own_od)
            | true => exact .inr (o4 rfl).2
          rcases ownF hc with h | h | h | ⟨p, hp, hpo, h⟩
          · exact .inl (h ▸ own_x)
          · exact oo h
          · exact ro h
          · rcases putN_addrs m k l2 e p hp with ⟨_, ea⟩ | ⟨nk, hm'⟩
            · right
              rw [← h, ea]
              exact F4 _ nl2
            · left
              have hpo : p.1 ∈ os1 le os := (addO_mem.mp hpo).elim id fun z => absurd z nk
              rw [← h]
              cases le with
              | false => exact own_in hm' hpo
              | true => cases hpo
        · rcases supF.mp hc with h | h | h | ⟨p, hp, h⟩
          · exact .inl (supF.mpr (.inl h))
          · rcases o2 with y | y
            · exact .inl (supF.mpr (.inr (.inl (h.trans y))))
            · exact .inr (h ▸ y)
          · rcases o1 with y | y
            · exact .inl (supF.mpr (.inr (.inr (.inl (h.trans y)))))
            · exact .inr (h ▸ y)
          · rcases putN_addrs m k l2 e p hp with ⟨_, ea⟩ | ⟨nk, hm'⟩
            · right
              rw [← h, ea]
              exact F4 _ nl2
            · exact .inl (supF.mpr (.inr (.inr (.inr ⟨p, hm', h⟩))))
    · refine iteBT (by cases ps with | nil => exact absurd rfl hps | cons _ _ => rfl) ?_
      obtain ⟨pl, epl⟩ : ∃ pl, ps.getLast? = some pl := ⟨_, List.getLast?_eq_some_getLast hps⟩
      have hpl : ps[ps.length - 1]? = some pl := by rw [← List.getLast?_eq_getElem?]; exact epl
      obtain ⟨l, hl, sl, wl, e1, e2, e3⟩ := pr2.get hpl
      have hlst : (esT m k).getLast? = some l := by rw [List.getLast?_eq_getElem?, ← pr2.len]; exact hl
      have lte := hlast l hlst
      refine ⟨_, rfl, 1, rfl, r, _, -1, .ref pl, rfl, rfl, SqL.of hl2, last_at (by rw [List.getLast?_map, epl]; rfl), pl, _, 0, _, rfl, rfl, SqT.of e1, rfl, _, rfl, sl, sa, [l.t, l.s, l.h], [e.t, e.s, e.h], rfl, rfl, SqT.of e2, SqT.of (S2 _ _ hsa), _, rfl, iteBF (ge_no lte) ?_⟩
      refine ⟨_, rfl, wa, e.w, rfl, S2 _ _ hwa, he.w1, he.w2, fun H3 s3 => ⟨true, rfl, iteF ?_⟩⟩
      have S3 := S2.trans s3
      have hl3 := s3 _ _ hl2
      have hx3 := S3 _ _ hx
      refine ⟨_, rfl, x, dx, _, rfl, hx3, sf_no _ _ _ _ (by decide +kernel) (by decide +kernel) (by decide +kernel) (by decide +kernel), x, rd, od, le, os, m, lg, rfl, hs.same S3, fun rd1 od1 H4 hs4 fr4 o1 o2 o3 o4 => ?_⟩
      have xr : x ≠ r := ne_of hx3 hl3 (by intro q; cases q)
      have hl4 := fr4 _ _ (Ne.symm xr) hl3
      have o1 : rd1 = rd ∨ H rd1 = none := o1.imp id fun z => S3.free z
      have o2 : od1 = od ∨ H od1 = none := o2.imp id fun z => S3.free z
      have o4 : le = true → H rd1 = none ∧ H od1 = none := fun z => ⟨S3.free (o4 z).1, S3.free (o4 z).2⟩
      have K4 : ∀ b o, b ≠ x → H b = some o → H4 b = some o := fun b o n z => fr4 b o n (S3 _ _ z)
      have F4 : ∀ b, H4 b = none → H b = none := fun b z => by
        cases hb : H b with
        | none => rfl
        | some o =>
          by_cases c : b = x
          · obtain ⟨dx4, hx4⟩ := hs4.ins
            rw [c, hx4] at z
            cases z
          · rw [K4 b o c hb] at z
            cases z
      have TK4 : Tk H H4 := fun b xs z => K4 b _ (ne_of z hx (by intro q; cases q)) z
      have R4 : PrA H4 ps (esT m k) := (pr2.tk (same_tk s3)).tk fun b xs z => fr4 b _ (ne_of z hx3 (by intro q; cases q)) z
      obtain ⟨dx4, hx4⟩ := hs4.ins
      have own4 : H4 od1 = some (.dK (ownL (os1 le os))) := hs4.own
      have fit4 : (os1 le os).Nodup ∧ ∀ k ∈ os1 le os, k ∈ m.map (·.1) := hs4.fit rfl
      have hsa4 := TK4 _ _ hsa
      have hwa4 := TK4 _ _ hwa
      have hd4 := hs4.tab.dict
      refine ⟨_, rfl, _, rfl, x, _, dx4, _, _, rfl, hx4, T.cl, T.n_own_rows, sf_o _ _ _ _, od1, _, rfl, DGet.k (k := Sum.inr k) own4, _, rfl, ?_⟩
      rw [val_ownL]
      have xd : x ≠ rd1 := ne_of hx4 hd4 (by intro q; cases q)
      have xo : x ≠ od1 := ne_of hx4 own4 (by intro q; cases q)
      by_cases ho : k ∈ os1 le os
      · rw [decide_eq_true ho]
        refine iteBF rfl ?_
        have hle : le = false := by
          cases le with
          | false => rfl
          | true => cases ho
        subst hle
        obtain ⟨e1, e2⟩ := o3 rfl
        subst e1 e2
        obtain ⟨es, ha⟩ : ∃ es, atT m k = some (r, es) := by
          rcases hr with h | ⟨h, _⟩
          · exact h
          · obtain ⟨p, hp, e⟩ := List.mem_map.mp (fit4.2 k ho)
            exact absurd e (atT_none h p hp)
        have hrown : r ∈ ownS x rd1 od1 false os m := own_in (p := (k, r, es)) (atT_mem ha) ho
        refine ⟨_, rfl, .inl ⟨rfl, _, SqL.of hl4⟩, _, rfl, _, rfl, len2, fun pp npp => ?_⟩
        have hrp : r ≠ pp := ne_of_none hl4 npp
        have rrd : r ≠ rd1 := ne_of hl4 hd4 (by intro q; cases q)
        have rod : r ≠ od1 := ne_of hl4 own4 (by intro q; cases q)
        refine ⟨r, _, _, rfl, rfl, (by rw [upd_ne hrp]; exact hl4), ?_, ?_⟩
        · rw [List.length_map, R4.len]
          exact Nat.lt_of_le_of_lt hes (by decide)
        have keep : ∀ b o, H4 b = some o → b ≠ r → (upd (upd H4 pp (.tup [.ref sa, .ref wa])) r (.lst (ps.map V.ref ++ [V.ref pp]))) b = some o := fun b o z n2 => by
          rw [upd_ne n2, upd_ne (ne_of_none z npp)]
          exact z
        have hpp : (upd (upd H4 pp (.tup [.ref sa, .ref wa])) r (.lst (ps.map V.ref ++ [V.ref pp]))) pp = some (.tup [.ref sa, .ref wa]) := by
          rw [upd_ne (Ne.symm hrp), upd_same]
        have hrr : (upd (upd H4 pp (.tup [.ref sa, .ref wa])) r (.lst (ps.map V.ref ++ [V.ref pp]))) r = some (.lst (ps.map V.ref ++ [V.ref pp])) := upd_same
        generalize (upd (upd H4 pp (.tup [.ref sa, .ref wa])) r (.lst (ps.map V.ref ++ [V.ref pp]))) = H5 at keep hpp hrr ⊢
        have tk5 : ∀ b xs, H4 b = some (.tup xs) → H5 b = some (.tup xs) := fun b xs z => keep b _ z (ne_of z hl4 (by intro q; cases q))
        have hrow2 : RowAt H5 r (esT m k ++ [e]) := ⟨ps ++ [pp], by rw [hrr, List.map_append]; rfl, PrA.app (R4.tk tk5) (.cons ⟨sa, wa, hpp, tk5 _ _ hsa4, tk5 _ _ hwa4⟩ .nil)⟩
        have pk := putT_keys ha r e
        refine q rd1 od1 os (putT m k r e) H5 ⟨⟨dx4, keep _ _ hx4 xr⟩, hs4.tab.put (.inl ⟨es, ha⟩) (by rw [putK_self ha hs.tab.nd]; exact keep _ _ hd4 (Ne.symm rrd)) hrow2 (fun b o z _ n2 => keep b o z n2), keep _ _ own4 (Ne.symm rod), hs4.nod, fun _ => ⟨fit4.1, fun j hj => by rw [pk]; exact fit4.2 j hj⟩⟩ (ct_putT _ _ _ _) ⟨fun c o n z => ?_, fun c hc => ?_⟩ fun c hc => ?_
        · exact keep c o (K4 c o (fun y => n (y ▸ own_x)) z) fun y => n (y ▸ hrown)
        · rcases ownF hc with h | h | h | ⟨p, hp, hpo, h⟩
          · exact .inl (h ▸ own_x)
          · exact .inl (h ▸ own_od)
          · exact .inl (h ▸ own_rd)
          · obtain ⟨p0, h0, ek, ea⟩ := putT_addrs ha r e p hp
            left
            rw [← h, ← ea]
            exact own_in h0 (by rw [ek]; exact hpo)
        · rcases supF.mp hc with h | h | h | ⟨p, hp, h⟩
          · exact .inl (supF.mpr (.inl h))
          · exact .inl (supF.mpr (.inr (.inl h)))
          · exact .inl (supF.mpr (.inr (.inr (.inl h))))
          · obtain ⟨p0, h0, ek, ea⟩ := putT_addrs ha r e p hp
            exact .inl (supF.mpr (.inr (.inr (.inr ⟨p0, h0, ea.trans h⟩))))
      · rw [decide_eq_false ho]
        refine iteBT rfl ?_
        refine ⟨_, rfl, r, _, rfl, .inl (SqL.of hl4), fun l2 nl2 => ?_⟩
        have l2d : l2 ≠ rd1 := Ne.symm (ne_of_none hd4 nl2)
        have l2o : l2 ≠ od1 := Ne.symm (ne_of_none own4 nl2)
        have l2x : l2 ≠ x := Ne.symm (ne_of_none hx4 nl2)
        have s5 : Same H4 (upd H4 l2 (.lst (ps.map V.ref))) := same_new (Same.refl H4) nl2
        have hl5 : (upd H4 l2 (.lst (ps.map V.ref))) l2 = some (.lst (ps.map V.ref)) := upd_same
        generalize (upd H4 l2 (.lst (ps.map V.ref))) = H5 at s5 hl5 ⊢
        refine ⟨_, rfl, _, rfl, x, _, dx4, _, _, rfl, s5 _ _ hx4, T.cl, T.n_rows, sf_r _ _ _ _, _, rfl, rd1, _, rfl, DPut.k (k := Sum.inr k) (s5 _ _ hd4) ?_, ?_⟩
        · unfold kvT
          rw [List.length_map]
          exact Nat.lt_of_le_of_lt hm (by decide)
        have k6 : ∀ b o, H5 b = some o → b ≠ rd1 → (upd H5 rd1 (.dK (putK (kvT m) (Sum.inr k) (.ref l2)))) b = some o := fun b o z n => by rw [upd_ne n]; exact z
        have hd6 : (upd H5 rd1 (.dK (putK (kvT m) (Sum.inr k) (.ref l2)))) rd1 = some (.dK (putK (kvT m) (Sum.inr k) (.ref l2))) := upd_same
        generalize (upd H5 rd1 (.dK (putK (kvT m) (Sum.inr k) (.ref l2)))) = H6 at k6 hd6 ⊢
        have own6 := k6 _ _ (s5 _ _ own4) hs4.nod
        refine ⟨_, rfl, x, _, dx4, _, _, rfl, k6 _ _ (s5 _ _ hx4) xd, T.cl, T.n_own_rows, sf_o _ _ _ _, _, rfl, od1, _, rfl, DPut.k (k := Sum.inr k) own6 ?_, ?_⟩
        · unfold ownL
          rw [List.length_map]
          have : (os1 le os).length ≤ (m.map (·.1)).length := nodup_leS fit4.1 fit4.2
          rw [List.length_map] at this
          exact Nat.lt_of_le_of_lt (Nat.le_trans this hm) (by decide)
        rw [own_add]
        have k7 : ∀ b o, H6 b = some o → b ≠ od1 → (upd H6 od1 (.dK (ownL (addO (os1 le os) k)))) b = some o := fun b o z n => by rw [upd_ne n]; exact z
        have ho7 : (upd H6 od1 (.dK (ownL (addO (os1 le os) k)))) od1 = some (.dK (ownL (addO (os1 le os) k))) := upd_same
        generalize (upd H6 od1 (.dK (ownL (addO (os1 le os) k)))) = H7 at k7 ho7 ⊢
        have hl7 := k7 _ _ (k6 _ _ hl5 l2d) l2o
        refine ⟨_, rfl, .inl ⟨rfl, _, SqL.of hl7⟩, _, rfl, _, rfl, len2, fun pp npp => ?_⟩
        have lpp : l2 ≠ pp := ne_of_none hl7 npp
        refine ⟨l2, _, _, rfl, rfl, (by rw [upd_ne lpp]; exact hl7), ?_, ?_⟩
        · rw [List.length_map, R4.len]
          exact Nat.lt_of_le_of_lt hes (by decide)
        have k9 : ∀ b o, H7 b = some o → b ≠ l2 → (upd (upd H7 pp (.tup [.ref sa, .ref wa])) l2 (.lst (ps.map V.ref ++ [V.ref pp]))) b = some o := fun b o z n => by
          rw [upd_ne n, upd_ne (ne_of_none z npp)]
          exact z
        have hpp : (upd (upd H7 pp (.tup [.ref sa, .ref wa])) l2 (.lst (ps.map V.ref ++ [V.ref pp]))) pp = some (.tup [.ref sa, .ref wa]) := by
          rw [upd_ne (Ne.symm lpp), upd_same]
        have hll : (upd (upd H7 pp (.tup [.ref sa, .ref wa])) l2 (.lst (ps.map V.ref ++ [V.ref pp]))) l2 = some (.lst (ps.map V.ref ++ [V.ref pp])) := upd_same
        generalize (upd (upd H7 pp (.tup [.ref sa, .ref wa])) l2 (.lst (ps.map V.ref ++ [V.ref pp]))) = H9 at k9 hpp hll ⊢
        have k49 : ∀ b o, H4 b = some o → b ≠ rd1 → b ≠ od1 → H9 b = some o := fun b o z n1 n2 => k9 _ _ (k7 _ _ (k6 _ _ (s5 _ _ z) n1) n2) (ne_of_none z nl2)
        have tk9 : ∀ b xs, H4 b = some (.tup xs) → H9 b = some (.tup xs) := fun b xs z => k49 b _ z (ne_of z hd4 (by intro q; cases q)) (ne_of z own4 (by intro q; cases q))
        have hrow2 : RowAt H9 l2 (esT m k ++ [e]) := ⟨ps ++ [pp], by rw [hll, List.map_append]; rfl, PrA.app (R4.tk tk9) (.cons ⟨sa, wa, hpp, tk9 _ _ hsa4, tk9 _ _ hwa4⟩ .nil)⟩
        have own9 : H9 od1 = some (.dK (ownL (addO (os1 le os) k))) := k9 _ _ ho7 (Ne.symm l2o)
        have hd9 : H9 rd1 = some (.dK (putK (kvT m) (Sum.inr k) (.ref l2))) := k9 _ _ (k7 _ _ hd6 (Ne.symm hs4.nod)) (Ne.symm l2d)
        have T1 : TabAt (upd H4 od1 (.dK (ownL (addO (os1 le os) k)))) rd1 m := hs4.tab.frame own4 (Ne.symm hs4.nod) fun b o z n => by rw [upd_ne n]; exact z
        have n1 : (upd H4 od1 (.dK (ownL (addO (os1 le os) k)))) l2 = none := by rw [upd_ne l2o]; exact nl2
        have kp : ∀ b o, (upd H4 od1 (.dK (ownL (addO (os1 le os) k)))) b = some o → b ≠ rd1 → H9 b = some o := fun b o z n => by
          by_cases bo : b = od1
          · rw [bo] at z ⊢
            rw [upd_same] at z
            rw [own9]
            exact z
          · rw [upd_ne bo] at z
            exact k49 _ _ z n bo
        have T9 : TabAt H9 rd1 (putN m k l2 e) := by
          cases ha : atT m k with
          | none =>
            have e1 : putN m k l2 e = m ++ [(k, l2, [e])] := by unfold putN; rw [ha]
            rw [e1]
            rw [esT_none ha] at hrow2
            exact T1.addN ha n1 hd9 hrow2 kp
          | some qq =>
            obtain ⟨r0, es0⟩ := qq
            rw [putN_some ha hs.tab.nd]
            rw [esT_some ha] at hrow2
            exact T1.setN ha n1 hd9 hrow2 kp
        refine q rd1 od1 _ (putN m k l2 e) H9 ⟨⟨dx4, k49 _ _ hx4 xd xo⟩, T9, own9, hs4.nod, fun _ => ⟨addO_nd fit4.1 k, fun j hj => ?_⟩⟩ (ct_putN _ _ _ _) ⟨fun c o n z => ?_, fun c hc => ?_⟩ fun c hc => ?_
        · rw [putN_keys]
          exact (addO_mem.mp hj).imp (fit4.2 j) id
        · have nx : c ≠ x := fun y => n (y ▸ own_x)
          refine k49 c o (K4 c o nx z) (fun y => ?_) fun y => ?_
          · cases le with
            | false => exact n (y ▸ (o3 rfl).1 ▸ own_rd)
            | true => rw [y, (o4 rfl).1] at z; cases z
          · cases le with
            | false => exact n (y ▸ (o3 rfl).2 ▸ own_od)
            | true => rw [y, (o4 rfl).2] at z; cases z
        · have ro : ∀ {c}, c = rd1 → c ∈ ownS x rd od le os m ∨ H c = none := fun h => by
            subst h
            cases le with
            | false => exact .inl ((o3 rfl).1 ▸ own_rd)
            | true => exact .inr (o4 rfl).1
          have oo : ∀ {c}, c = od1 → c ∈ ownS x rd od le os m ∨ H c = none := fun h => by
            subst h
            cases le with
            | false => exact .inl ((o3 rfl).2 ▸ own_od)
            | true => exact .inr (o4 rfl).2
          rcases ownF hc with h | h | h | ⟨p, hp, hpo, h⟩
          · exact .inl (h ▸ own_x)
          · exact oo h
          · exact ro h
          · rcases putN_addrs m k l2 e p hp with ⟨_, ea⟩ | ⟨nk, hm'⟩
            · right
              rw [← h, ea]
              exact F4 _ nl2
            · left
              have hpo : p.1 ∈ os1 le os := (addO_mem.mp hpo).elim id fun z => absurd z nk
              rw [← h]
              cases le with
              | false => exact own_in hm' hpo
              | true => cases hpo
        · rcases supF.mp hc with h | h | h | ⟨p, hp, h⟩
          · exact .inl (supF.mpr (.inl h))
          · rcases o2 with y | y
            · exact .inl (supF.mpr (.inr (.inl (h.trans y))))
            · exact .inr (h ▸ y)
          · rcases o1 with y | y
            · exact .inl (supF.mpr (.inr (.inr (.inl (h.trans y)))))
            · exact .inr (h ▸ y)
          · rcases putN_addrs m k l2 e p hp with ⟨_, ea⟩ | ⟨nk, hm'⟩
            · right
              rw [← h, ea]
              exact F4 _ nl2
            · exact .inl (supF.mpr (.inr (.inr (.inr ⟨p, hm', h⟩))))

theorem ok_Shelf_let_go {P : Program} {w : World} {K : PySem.W.Frag} {mg : Str → Option Value} {base : Heap} {a : Nat → Addr} {d : Nat → FuncData} (T : Txt K mg a d) : FnOk P w K mg base CX0 3 (a 13) (d 13) ["self", "time"] (spLetGo (a 55)) := by
  refine T.F_Shelf_let_go.ok sc_Shelf_let_go (fun vs H Q E h => ?_) (fun cdv A outer s0 H vs Q E hr h => ?_)
  · obtain ⟨x, rd, od, le, os, m, lg, t, rfl, hs, hlg, hml, hrl, q⟩ := h
    rfl
  · obtain ⟨x, rd, od, le, os, m, lg, t, rfl, hs, hlg, hml, hrl, q⟩ := h
    obtain ⟨dx, hx⟩ := hs.ins
    refine ⟨_, (pss_cons (ps_expr (pe_call (ok_refuse_no_time T) (hr.mono (by decide)) (by rfl) T.g_refuse_no_time T.F_refuse_no_time.kp T.b_refuse_no_time .nil pass0 (pa_cons (pv 1) pa_nil))) (pss_cons (ps_expr (pe_meth0 (pv 0) T.cl T.m_Shelf_make_own (ok_Shelf_make_own T) (hr.mono (by decide)) T.b_Shelf_make_own .nil pass0)) (pss_cons (ps_for PassesOwn.never rfl (pi_list (pe_callTy (call_list_dK rfl) (by rfl) T.z_list (by decide +kernel) (pa_cons (pe_fld (pv 0) rfl) pa_nil))) (pg_name (i := 2) sc_Shelf_let_go.nd rfl (.inl rfl)) (pss_cons (ps_set (i := 3) sc_Shelf_let_go.nd rfl (Or.inl rfl) (pe_op op_sub (pe_call (ok_many_up_to T) (hr.mono (by decide)) (by rfl) T.g_many_up_to T.F_many_up_to.kp T.b_many_up_to .nil pass0 (pa_cons (pe_dget (hu_of hr) (pe_fld (pv 0) rfl) (pv 2) (fun _ _ => rfl)) (pa_cons (pv 1) pa_nil))) pe_int)) (pss_one (ps_if (pt_cmpR op_gt (pv 3) pe_int (nomark _)) (pss_cons (ps_dput (hu_of hr) (pe_fld (pv 0) rfl) (pv 2) (pe_slice sl_list (pe_dget (hu_of hr) (pe_fld (pv 0) rfl) (pv 2) (fun _ _ => rfl)) (po_some (pv 3)) po_none) rfl) (pss_one (ps_dput (hu_of hr) (pe_fld (pv 0) rfl) (pv 2) pe_bl rfl))) pss_nil)))) (pss_one (ps_if (PW.pt (pw_or (pt_cmpR op_isN (pe_fld (pv 0) rfl) pe_non (nomark _)) (pw_or1 (pt_cmpR op_gt (pv 1) (pe_fld (pv 0) rfl) (nomark _))))) (pss_one (ps_fld (pv 0) (pv 1) rfl)) pss_nil))))), ?_⟩
    refine ⟨_, rfl, t, rfl, ?_⟩
    refine ⟨_, rfl, x, dx, _, rfl, hx, sf_no _ _ _ _ (by decide +kernel) (by decide +kernel) (by decide +kernel) (by decide +kernel), x, rd, od, le, os, m, lg, rfl, hs, fun rd1 od1 H0 hs4 fr4 o1 o2 o3 o4 => ?_⟩
    have K4 : ∀ b o, b ≠ x → H b = some o → H0 b = some o := fr4
    obtain ⟨dx4, hx4⟩ := hs4.ins
    have F4 : ∀ b, H0 b = none → H b = none := fun b z => by
      cases hb : H b with
      | none => rfl
      | some o =>
        by_cases c : b = x
        · rw [c, hx4] at z
          cases z
        · rw [K4 b o c hb] at z
          cases z
    have own4 : H0 od1 = some (.dK (ownL (os1 le os))) := hs4.own
    have fit4 : (os1 le os).Nodup ∧ ∀ k ∈ os1 le os, k ∈ m.map (·.1) := hs4.fit rfl
    refine ⟨_, rfl, x, _, dx4, _, _, rfl, hx4, T.cl, T.n_rows, sf_r _ _ _ _, rd1, _, rfl, hs4.tab.dict, fun kl nkl => ?_⟩
    rw [keys_kv]
    have skl : Same H0 (upd H0 kl (.lst ((m.map (·.1)).map V.str))) := same_new (Same.refl H0) nkl
    have hkl : (upd H0 kl (.lst ((m.map (·.1)).map V.str))) kl = some (.lst ((m.map (·.1)).map V.str)) := upd_same
    have klr : kl ≠ rd1 := Ne.symm (ne_of_none hs4.tab.dict nkl)
    have klo : kl ≠ od1 := Ne.symm (ne_of_none own4 nkl)
    have xrd : x ≠ rd1 := ne_of hx4 hs4.tab.dict (by intro q; cases q)
    have xod : x ≠ od1 := ne_of hx4 own4 (by intro q; cases q)
    generalize (upd H0 kl (.lst ((m.map (·.1)).map V.str))) = H1 at skl hkl ⊢
    refine ⟨kl, rfl, ⟨_, SqL.of hkl⟩, ?_⟩
    refine for_list (K := K) (a := kl) (xs := (m.map (·.1)).map V.str) (fun j σ H' => ∃ (mj : Tab) (oj : List Str) (v2 v3 : Option V), σ = [some (.ref x), some (.int t), v2, v3] ∧ TabAt H' rd1 mj ∧ H' od1 = some (.dK (ownL oj)) ∧ ct mj = goJ t (ct m) j ∧ (∀ b o, H1 b = some o → b ≠ rd1 → b ≠ od1 → H' b = some o) ∧ (oj.Nodup ∧ ∀ k ∈ oj, k ∈ m.map (·.1)) ∧ (∀ p ∈ mj, H0 p.2.1 = none ∨ ∃ q ∈ m, q.1 = p.1 ∧ q.2.1 = p.2.1) ∧ (∀ p ∈ mj, p.1 ∈ oj → H0 p.2.1 = none ∨ p.1 ∈ os1 le os))
      ⟨m, os1 le os, none, none, rfl, hs4.tab.same skl, skl _ _ own4, (goJ_0 _ _).symm, fun b o z _ _ => z, fit4, fun p hp => .inr ⟨p, hp, rfl, rfl⟩, fun p _ ho => .inr ho⟩ (fun j σ H' _ z => by
        obtain ⟨mj, _, _, _, _, _, _, _, k, _⟩ := z
        exact SqL.of (k _ _ hkl klr klo)) ?_ ?_
    · rintro j kv σ H2 hj ⟨mj, oj, v2, v3, rfl, tj, hoj, ej, kj, fj, aj, bj⟩
      rw [List.map_map, List.getElem?_map] at hj
      obtain ⟨p, hp, rfl⟩ := Option.map_eq_some_iff.mp hj
      show ∃ v, _
      have hpm := List.mem_of_getElem? hp
      obtain ⟨st1, st2⟩ := goJ_step (t := t) (by rw [ct_nd]; exact hs.tab.nd) (ct_get hp)
      rw [← ej] at st1 st2
      have ndj := tj.nd
      obtain ⟨hlen, hpw⟩ := hrl p hpm
      have hx2 := kj _ _ (skl _ _ hx4) xrd xod
      obtain ⟨r, har⟩ : ∃ r, atT mj p.1 = some (r, p.2.2) := by
        have z := esT_ct mj p.1
        rw [st2] at z
        cases h : atT mj p.1 with
        | none =>
          exfalso
          have : p.1 ∈ mj.map (·.1) := by
            rw [← ct_nd, ej, goJ_keys, ct_nd]
            exact List.mem_map.mpr ⟨p, hpm, rfl⟩
          obtain ⟨q, hq, e⟩ := List.mem_map.mp this
          exact atT_none h q hq e
        | some q =>
          unfold esT at z
          rw [h] at z
          obtain ⟨a, b⟩ := q
          have z' : b = p.2.2 := z
          rw [z']
          exact ⟨a, rfl⟩
      have hrow := tj.es har
      rw [esT_ct, st2] at hrow
      refine ⟨_, rfl, x, _, dx4, _, _, rfl, hx2, T.cl, T.n_rows, sf_r _ _ _ _, _, rfl, rd1, .ref r, rfl, .inl ⟨kvT mj, Sum.inr p.1, .inl tj.dict, rfl, (by rw [val_kvT, har]; rfl)⟩, ?_⟩
      obtain ⟨ps, hl, pr⟩ := id hrow
      refine ⟨_, rfl, r, p.2.2, t, rfl, hrow, hlen, hpw, fun H3 s3 => ⟨_, 1, rfl, rfl, ?_⟩⟩
      have hcnt := List.length_filter_le (fun e : Ent => decide (e.t ≤ t)) p.2.2
      generalize hF : (p.2.2.filter fun e => decide (e.t ≤ t)).length = F at hcnt ⊢
      refine ⟨_, rfl, _, 0, rfl, rfl, _, rfl, ?_⟩
      by_cases c : (F : Int) - 1 > 0
      · refine iteDT c ?_
        have hx3 := s3 _ _ hx2
        refine ⟨_, rfl, x, _, dx4, _, _, rfl, hx3, T.cl, T.n_rows, sf_r _ _ _ _, _, rfl, rd1, .ref r, rfl, .inl ⟨kvT mj, Sum.inr p.1, .inl (s3 _ _ tj.dict), rfl, (by rw [val_kvT, har]; rfl)⟩, ?_⟩
        refine ⟨_, rfl, _, rfl, r, _, rfl, SqL.of (s3 _ _ hl), fun ns nns => ?_⟩
        have ecut : cutV (ps.map V.ref) (some ((F : Int) - 1)) none = (ps.drop (F - 1)).map V.ref := by
          have pl : ps.length = p.2.2.length := pr.len
          rw [show (F : Int) - 1 = ((F - 1 : Nat) : Int) by omega, cut_from _ _ (by rw [List.length_map, pl]; omega), List.map_drop]
        rw [ecut]
        have s4 : Same H3 (upd H3 ns (.lst ((ps.drop (F - 1)).map V.ref))) := same_new (Same.refl H3) nns
        have h4 : (upd H3 ns (.lst ((ps.drop (F - 1)).map V.ref))) ns = some (.lst ((ps.drop (F - 1)).map V.ref)) := upd_same
        generalize (upd H3 ns (.lst ((ps.drop (F - 1)).map V.ref))) = H4 at s4 h4 ⊢
        have s24 := s3.trans s4
        have hd4 := s24 _ _ tj.dict
        have ho4 := s24 _ _ hoj
        have nrd : ns ≠ rd1 := ne_of h4 hd4 (by intro q; cases q)
        have nod' : ns ≠ od1 := ne_of h4 ho4 (by intro q; cases q)
        have mjl : mj.length ≤ 1000 := by
          rw [← ct_len, ej]
          unfold goJ
          rw [List.length_map, ct_len]
          exact hml
        refine ⟨_, rfl, x, _, dx4, _, _, rfl, s24 _ _ hx2, T.cl, T.n_rows, sf_r _ _ _ _, _, rfl, rd1, _, rfl, DPut.k (k := Sum.inr p.1) hd4 ?_, ?_⟩
        · unfold kvT
          rw [List.length_map]
          exact Nat.lt_of_le_of_lt mjl (by decide)
        have keep4 : ∀ b o, H4 b = some o → b ≠ rd1 → (upd H4 rd1 (.dK (putK (kvT mj) (Sum.inr p.1) (.ref ns)))) b = some o := fun b o z n => by
          rw [upd_ne n]
          exact z
        have hd5 : (upd H4 rd1 (.dK (putK (kvT mj) (Sum.inr p.1) (.ref ns)))) rd1 = some (.dK (putK (kvT mj) (Sum.inr p.1) (.ref ns))) := upd_same
        generalize (upd H4 rd1 (.dK (putK (kvT mj) (Sum.inr p.1) (.ref ns)))) = H5 at keep4 hd5 ⊢
        refine ⟨_, rfl, x, _, dx4, _, _, rfl, keep4 _ _ (s24 _ _ hx2) xrd, T.cl, T.n_own_rows, sf_o _ _ _ _, _, rfl, od1, _, rfl, DPut.k (k := Sum.inr p.1) (keep4 _ _ ho4 hs4.nod) ?_, ?_⟩
        · unfold ownL
          rw [List.length_map]
          have := nodup_leS fj.1 fj.2
          rw [List.length_map] at this
          exact Nat.lt_of_le_of_lt (Nat.le_trans this hml) (by decide)
        rw [own_add]
        have keep5 : ∀ b o, H4 b = some o → b ≠ rd1 → b ≠ od1 → (upd H5 od1 (.dK (ownL (addO oj p.1)))) b = some o := fun b o z n n2 => by
          rw [upd_ne n2]
          exact keep4 _ _ z n
        have hd6 : (upd H5 od1 (.dK (ownL (addO oj p.1)))) rd1 = some (.dK (putK (kvT mj) (Sum.inr p.1) (.ref ns))) := by rw [upd_ne (Ne.symm hs4.nod)]; exact hd5
        have ho6 : (upd H5 od1 (.dK (ownL (addO oj p.1)))) od1 = some (.dK (ownL (addO oj p.1))) := upd_same
        generalize (upd H5 od1 (.dK (ownL (addO oj p.1)))) = H6 at keep5 hd6 ho6 ⊢
        have tk6 : Tk H4 H6 := fun b xs z => keep5 b _ z (ne_of z hd4 (by intro q; cases q)) (ne_of z ho4 (by intro q; cases q))
        have T1 : TabAt (upd H2 od1 (.dK (ownL (addO oj p.1)))) rd1 mj := tj.frame hoj (Ne.symm hs4.nod) fun b o z n => by rw [upd_ne n]; exact z
        have kp : ∀ b o, (upd H2 od1 (.dK (ownL (addO oj p.1)))) b = some o → b ≠ rd1 → H6 b = some o := fun b o z n => by
          by_cases bo : b = od1
          · rw [bo] at z ⊢
            rw [upd_same] at z
            rw [ho6]
            exact z
          · rw [upd_ne bo] at z
            exact keep5 b o (s24 _ _ z) n bo
        refine ⟨_, addO oj p.1, _, _, rfl, T1.setN (es := goE t p.2.2) har (by rw [upd_ne nod']; exact s3.free nns) hd6 ⟨_, keep5 _ _ h4 nrd nod', ?_⟩ kp, ho6, ?_, fun b o z n n2 => keep5 b o (s24 _ _ (kj _ _ z n n2)) n n2, ⟨addO_nd fj.1 _, fun k hk => (addO_mem.mp hk).elim (fj.2 k) fun z => z ▸ List.mem_map.mpr ⟨p, hpm, rfl⟩⟩, fun q hq => ?_, fun q hq hqo => ?_⟩
        · unfold goE
          rw [hF]
          exact ((pr.drop _).tk (same_tk s24)).tk tk6
        · rw [ct_set]
          exact st1
        · obtain ⟨q0, hq0, rfl⟩ := List.mem_map.mp hq
          by_cases z : q0.1 = p.1
          · rw [if_pos z]
            refine .inl ?_
            show H0 ns = none
            cases e : H0 ns with
            | none => rfl
            | some o =>
              have e2 := kj _ _ (skl _ _ e) nrd nod'
              rw [s3.free nns] at e2
              cases e2
          · rw [if_neg z]
            exact aj q0 hq0
        · obtain ⟨q0, hq0, rfl⟩ := List.mem_map.mp hq
          by_cases z : q0.1 = p.1
          · rw [if_pos z]
            refine .inl ?_
            show H0 ns = none
            cases e : H0 ns with
            | none => rfl
            | some o =>
              have e2 := kj _ _ (skl _ _ e) nrd nod'
              rw [s3.free nns] at e2
              cases e2
          · rw [if_neg z] at hqo ⊢
            exact bj q0 hq0 ((addO_mem.mp hqo).elim id fun y => absurd y z)
      · refine iteDF c ?_
        have hF1 : F - 1 = 0 := by omega
        refine ⟨mj, oj, _, _, rfl, tj.same s3, s3 _ _ hoj, ?_, fun b o z n n2 => s3 _ _ (kj _ _ z n n2), fj, aj, bj⟩
        rw [← st1]
        symm
        have nd2 : ((ct mj).map (·.1)).Nodup := by rw [ct_nd]; exact tj.nd
        conv => rhs; rw [← List.map_id (ct mj)]
        apply List.map_congr_left
        intro q hq
        by_cases z : q.1 = p.1
        · rw [if_pos z]
          have e1 : esC (ct mj) p.1 = q.2 := esC_of nd2 hq z
          rw [st2] at e1
          have e2 : p.2.2 = q.2 := e1
          unfold goE
          rw [hF, hF1, List.drop_zero, e2]
          rfl
        · rw [if_neg z]; rfl
    · rintro σ H2 ⟨mj, oj, v2, v3, rfl, tj, hoj, ej, kj, fj, aj, bj⟩
      rw [List.length_map, List.length_map, ← ct_len, goJ_all] at ej
      have hx2 := kj _ _ (skl _ _ hx4) xrd xod
      have keys : mj.map (·.1) = m.map (·.1) := by
        rw [← ct_nd, ej]
        unfold goC
        rw [List.map_map]
        exact ct_nd
      have fin : ∀ (lg' : V) (H' : Hp), lg' = lgMax lg t → H' x = some (.ins (a 55) dx4 (sf (.ref rd1) lg' false od1)) → (∀ b o, H2 b = some o → b ≠ x → H' b = some o) → Q .non H' := fun lg' H' el ex kx => by
        subst el
        refine q rd1 od1 oj mj H' ⟨⟨dx4, ex⟩, ?_, kx _ _ hoj (Ne.symm xod), hs4.nod, fun _ => ⟨fj.1, fun k hk => by rw [keys]; exact fj.2 k hk⟩⟩ ej ⟨fun c o n z => ?_, fun c hc => ?_⟩ fun c hc => ?_
        · refine ⟨kx _ _ tj.dict (Ne.symm xrd), fun p hp => ?_, tj.nd, tj.na⟩
          obtain ⟨ps, hl, pr⟩ := tj.row p hp
          exact ⟨ps, kx _ _ hl (ne_of hl hx2 (by intro q; cases q)), pr.tk fun b xs z => kx _ _ z (ne_of z hx2 (by intro q; cases q))⟩
        · have nx : c ≠ x := fun y => n (y ▸ own_x)
          refine kx _ _ (kj _ _ (skl _ _ (K4 c o nx z)) (fun y => ?_) fun y => ?_) nx
          · cases le with
            | false => exact n (y ▸ (o3 rfl).1 ▸ own_rd)
            | true => rw [y, (o4 rfl).1] at z; cases z
          · cases le with
            | false => exact n (y ▸ (o3 rfl).2 ▸ own_od)
            | true => rw [y, (o4 rfl).2] at z; cases z
        · rcases ownF hc with h | h | h | ⟨p, hp, hpo, h⟩
          · exact .inl (h ▸ own_x)
          · subst h
            cases le with
            | false => exact .inl ((o3 rfl).2 ▸ own_od)
            | true => exact .inr (o4 rfl).2
          · subst h
            cases le with
            | false => exact .inl ((o3 rfl).1 ▸ own_rd)
            | true => exact .inr (o4 rfl).1
          · rw [← h]
            rcases aj p hp with y | ⟨p0, h0, ek, ea⟩
            · exact .inr (F4 _ y)
            rcases bj p hp hpo with y | y
            · exact .inr (F4 _ y)
            · left
              rw [← ea]
              rw [← ek] at y
              cases le with
              | false => exact own_in h0 y
              | true => cases y
        · rcases supF.mp hc with h | h | h | ⟨p, hp, h⟩
          · exact .inl (supF.mpr (.inl h))
          · rcases o2 with y | y
            · exact .inl (supF.mpr (.inr (.inl (h.trans y))))
            · exact .inr (h ▸ y)
          · rcases o1 with y | y
            · exact .inl (supF.mpr (.inr (.inr (.inl (h.trans y)))))
            · exact .inr (h ▸ y)
          · rw [← h]
            rcases aj p hp with y | ⟨p0, h0, ek, ea⟩
            · exact .inr (F4 _ y)
            · exact .inl (supF.mpr (.inr (.inr (.inr ⟨p0, h0, ea⟩))))
      rcases hlg with rfl | ⟨g, rfl⟩
      · refine ⟨_, rfl, x, _, dx4, _, _, rfl, hx2, T.cl, T.n_let_go_to, sf_l _ _ _ _, rfl, _, rfl, iteBT rfl (iteT ?_)⟩
        refine ⟨_, rfl, _, rfl, x, _, dx4, _, rfl, hx2, T.cl, T.n_let_go_to, sf_len _ _ _ _, ?_⟩
        show Q .non _
        rw [sf_put_l]
        exact fin _ _ rfl upd_same fun b o z n => by rw [upd_ne n]; exact z
      · refine ⟨_, rfl, x, _, dx4, _, _, rfl, hx2, T.cl, T.n_let_go_to, sf_l _ _ _ _, rfl, _, rfl, iteBF rfl ?_⟩
        refine ⟨_, rfl, _, rfl, x, _, dx4, _, _, rfl, hx2, T.cl, T.n_let_go_to, sf_l _ _ _ _, t, g, rfl, rfl, _, rfl, ?_⟩
        by_cases c : g < t
        · refine iteDT c ?_
          refine ⟨_, rfl, _, rfl, x, _, dx4, _, rfl, hx2, T.cl, T.n_let_go_to, sf_len _ _ _ _, ?_⟩
          show Q .non _
          rw [sf_put_l]
          have e : lgMax (.int g) t = .int t := by show (if g < t then V.int t else V.int g) = _; rw [if_pos c]
          exact fin _ _ e.symm upd_same fun b o z n => by rw [upd_ne n]; exact z
        · refine iteDF c ?_
          have e : lgMax (.int g) t = .int g := by show (if g < t then V.int t else V.int g) = _; rw [if_neg c]
          exact fin _ _ e.symm hx2 fun b o z _ => z

theorem ok_stamp_in {P : Program} {w : World} {K : PySem.W.Frag} {mg : Str → Option Value} {base : Heap} {a : Nat → Addr} {d : Nat → FuncData} (T : Txt K mg a d) : FnOk P w K mg base CX0 1 (a 14) (d 14) ["pledge"] spStampIn := by
  refine T.F_stamp_in.ok sc_stamp_in (fun vs H Q E h => ?_) (fun cdv A outer s0 H vs Q E hr h => ?_)
  · obtain ⟨v, p, rfl, h, q⟩ := h
    rfl
  · obtain ⟨v, p, rfl, h, q⟩ := h
    refine ⟨_, (pss_one (ps_ret (pe_ix ix_tup (pv 0) pe_int (fun _ _ => rfl)))), ?_⟩
    obtain ⟨p', hv, sv, rv, wv, mv, rfl, hq, t3, t4, t5, t6, t7⟩ := pl_at h
    exact ⟨_, rfl, p', _, 4, sv, rfl, rfl, SqT.of hq, atI_nat (j := 4) rfl, q _ t4⟩

theorem ok_writes_in {P : Program} {w : World} {K : PySem.W.Frag} {mg : Str → Option Value} {base : Heap} {a : Nat → Addr} {d : Nat → FuncData} (T : Txt K mg a d) : FnOk P w K mg base CX0 1 (a 15) (d 15) ["pledge"] spWritesIn := by
  refine T.F_writes_in.ok sc_writes_in (fun vs H Q E h => ?_) (fun cdv A outer s0 H vs Q E hr h => ?_)
  · obtain ⟨v, p, rfl, h, q⟩ := h
    rfl
  · obtain ⟨v, p, rfl, h, q⟩ := h
    refine ⟨_, (pss_one (ps_ret (pe_ix ix_tup (pv 0) pe_int (fun _ _ => rfl)))), ?_⟩
    obtain ⟨p', hv, sv, rv, wv, mv, rfl, hq, t3, t4, t5, t6, t7⟩ := pl_at h
    exact ⟨_, rfl, p', _, 6, wv, rfl, rfl, SqT.of hq, atI_nat (j := 6) rfl, q _ t6⟩

theorem ok_things_behind {P : Program} {w : World} {K : PySem.W.Frag} {mg : Str → Option Value} {base : Heap} {a : Nat → Addr} {d : Nat → FuncData} (T : Txt K mg a d) : FnOk P w K mg base CX0 1 (a 16) (d 16) ["more", "word"] spThings := by
  refine T.F_things_behind.ok sc_things_behind (fun vs H Q E h => ?_) (fun cdv A outer s0 H vs Q E hr h => ?_)
  · obtain ⟨v, m, z, rfl, h, q⟩ := h
    rfl
  · obtain ⟨v, m, z, rfl, h, q⟩ := h
    refine ⟨_, (pss_one (ps_ret (pe_ifExp (PW.pt (pw_and (pt_cmpR op_notN (pv 0) pe_non (nomark _)) (pw_and1 (pt_cmpR op_eq (pe_ix ix_tup (pv 0) pe_int (fun _ _ => rfl)) (pv 1) (nomark _))))) (pe_tup (pa_cons (pe_ix ix_tup (pv 0) pe_int (fun _ _ => rfl)) (pa_cons (pe_ix ix_tup (pv 0) pe_int (fun _ _ => rfl)) pa_nil))) pe_non))), ?_⟩
    cases m with
    | none =>
      rw [td_none h]
      exact ⟨_, rfl, rfl, _, rfl, iteNSDl rfl (iteF (q _ H (Same.refl H) .non))⟩
    | some mm =>
      cases mm with
      | move k to =>
        obtain ⟨p, xs, rfl, hp, t⟩ := td_tup h
        obtain ⟨_, _, rfl, t0, t⟩ := td_cons t
        obtain ⟨_, _, rfl, t1, t⟩ := td_cons t
        obtain ⟨_, _, rfl, t2, t⟩ := td_cons t
        rw [td_nil t, td_str t0, td_str t1, td_int t2] at hp
        refine ⟨_, rfl, rfl, _, rfl, iteND (fun z => by cases z) ⟨_, rfl, p, _, 0, _, rfl, rfl, SqT.of hp, atI_nat (j := 0) rfl, _, rfl, rfl, _, rfl, ?_⟩⟩
        by_cases c : ("move" : Str) = z
        · refine iteDT (congrArg V.str c) ?_
          refine ⟨_, rfl, p, _, 1, _, rfl, rfl, SqT.of hp, atI_nat (j := 1) rfl, _, rfl, p, _, 2, _, rfl, rfl, SqT.of hp, atI_nat (j := 2) rfl, len2, fun t nt => ?_⟩
          refine q _ _ (same_new (Same.refl H) nt) ?_
          rw [thD_mv, if_pos c]
          exact .tup upd_same (.cons (.str _) (.cons (.int _) .nil))
        · refine iteDF (fun e => c (V.str.inj e)) (q _ H (Same.refl H) ?_)
          rw [thD_mv, if_neg c]
          exact .non
      | form t f =>
        obtain ⟨p, xs, rfl, hp, t⟩ := td_tup h
        obtain ⟨_, _, rfl, t0, t⟩ := td_cons t
        obtain ⟨_, _, rfl, t1, t⟩ := td_cons t
        obtain ⟨_, _, rfl, t2, t⟩ := td_cons t
        rw [td_nil t, td_str t0, td_int t1, td_int t2] at hp
        refine ⟨_, rfl, rfl, _, rfl, iteND (fun z => by cases z) ⟨_, rfl, p, _, 0, _, rfl, rfl, SqT.of hp, atI_nat (j := 0) rfl, _, rfl, rfl, _, rfl, ?_⟩⟩
        by_cases c : ("form" : Str) = z
        · refine iteDT (congrArg V.str c) ?_
          refine ⟨_, rfl, p, _, 1, _, rfl, rfl, SqT.of hp, atI_nat (j := 1) rfl, _, rfl, p, _, 2, _, rfl, rfl, SqT.of hp, atI_nat (j := 2) rfl, len2, fun t nt => ?_⟩
          refine q _ _ (same_new (Same.refl H) nt) ?_
          rw [thD_fm, if_pos c]
          exact .tup upd_same (.cons (.int _) (.cons (.int _) .nil))
        · refine iteDF (fun e => c (V.str.inj e)) (q _ H (Same.refl H) ?_)
          rw [thD_fm, if_neg c]
          exact .non

theorem ok_move_of {P : Program} {w : World} {K : PySem.W.Frag} {mg : Str → Option Value} {base : Heap} {a : Nat → Addr} {d : Nat → FuncData} (T : Txt K mg a d) : FnOk P w K mg base CX0 2 (a 17) (d 17) ["more"] (spOf "move") := by
  refine T.F_move_of.ok sc_move_of (fun vs H Q E h => ?_) (fun cdv A outer s0 H vs Q E hr h => ?_)
  · obtain ⟨v, m, rfl, h, q⟩ := h
    rfl
  · obtain ⟨v, m, rfl, h, q⟩ := h
    refine ⟨_, (pss_one (ps_ret (pe_call (ok_things_behind T) (hr.mono (by decide)) (by rfl) T.g_things_behind T.F_things_behind.kp T.b_things_behind .nil pass0 (pa_cons (pv 0) (pa_cons (pe_glob (v := .str "move") (by rfl) (Exists.choose_spec T.g_MOVE) ⟨_, rfl⟩) pa_nil))))), ?_⟩
    exact ⟨_, rfl, v, m, _, rfl, h, q⟩

theorem ok_form_of {P : Program} {w : World} {K : PySem.W.Frag} {mg : Str → Option Value} {base : Heap} {a : Nat → Addr} {d : Nat → FuncData} (T : Txt K mg a d) : FnOk P w K mg base CX0 2 (a 18) (d 18) ["more"] (spOf "form") := by
  refine T.F_form_of.ok sc_form_of (fun vs H Q E h => ?_) (fun cdv A outer s0 H vs Q E hr h => ?_)
  · obtain ⟨v, m, rfl, h, q⟩ := h
    rfl
  · obtain ⟨v, m, rfl, h, q⟩ := h
    refine ⟨_, (pss_one (ps_ret (pe_call (ok_things_behind T) (hr.mono (by decide)) (by rfl) T.g_things_behind T.F_things_behind.kp T.b_things_behind .nil pass0 (pa_cons (pv 0) (pa_cons (pe_glob (v := .str "form") (by rfl) (Exists.choose_spec T.g_FORM) ⟨_, rfl⟩) pa_nil))))), ?_⟩
    exact ⟨_, rfl, v, m, _, rfl, h, q⟩

theorem ok_move_in {P : Program} {w : World} {K : PySem.W.Frag} {mg : Str → Option Value} {base : Heap} {a : Nat → Addr} {d : Nat → FuncData} (T : Txt K mg a d) : FnOk P w K mg base CX0 3 (a 19) (d 19) ["pledge"] (spIn "move") := by
  refine T.F_move_in.ok sc_move_in (fun vs H Q E h => ?_) (fun cdv A outer s0 H vs Q E hr h => ?_)
  · obtain ⟨v, p, rfl, h, q⟩ := h
    rfl
  · obtain ⟨v, p, rfl, h, q⟩ := h
    refine ⟨_, (pss_one (ps_ret (pe_call (ok_move_of T) (hr.mono (by decide)) (by rfl) T.g_move_of T.F_move_of.kp T.b_move_of .nil pass0 (pa_cons (pe_ix ix_tup (pv 0) pe_int (fun _ _ => rfl)) pa_nil)))), ?_⟩
    obtain ⟨p', hv, sv, rv, wv, mv, rfl, hq, t3, t4, t5, t6, t7⟩ := pl_at h
    exact ⟨_, rfl, p', _, 7, mv, rfl, rfl, SqT.of hq, atI_nat (j := 7) rfl, mv, p.more, rfl, t7, q⟩

theorem ok_form_in {P : Program} {w : World} {K : PySem.W.Frag} {mg : Str → Option Value} {base : Heap} {a : Nat → Addr} {d : Nat → FuncData} (T : Txt K mg a d) : FnOk P w K mg base CX0 3 (a 20) (d 20) ["pledge"] (spIn "form") := by
  refine T.F_form_in.ok sc_form_in (fun vs H Q E h => ?_) (fun cdv A outer s0 H vs Q E hr h => ?_)
  · obtain ⟨v, p, rfl, h, q⟩ := h
    rfl
  · obtain ⟨v, p, rfl, h, q⟩ := h
    refine ⟨_, (pss_one (ps_ret (pe_call (ok_form_of T) (hr.mono (by decide)) (by rfl) T.g_form_of T.F_form_of.kp T.b_form_of .nil pass0 (pa_cons (pe_ix ix_tup (pv 0) pe_int (fun _ _ => rfl)) pa_nil)))), ?_⟩
    obtain ⟨p', hv, sv, rv, wv, mv, rfl, hq, t3, t4, t5, t6, t7⟩ := pl_at h
    exact ⟨_, rfl, p', _, 7, mv, rfl, rfl, SqT.of hq, atI_nat (j := 7) rfl, mv, p.more, rfl, t7, q⟩

theorem ok_Ledger_make_own {P : Program} {w : World} {K : PySem.W.Frag} {mg : Str → Option Value} {base : Heap} {a : Nat → Addr} {d : Nat → FuncData} (T : Txt K mg a d) : FnOk P w K mg base CX0 1 (a 21) (d 21) ["self"] (spLOwn (a 56) (a 55)) := by
  refine T.F_Ledger_make_own.ok sc_Ledger_make_own (fun vs H Q E h => ?_) (fun cdv A outer s0 H vs Q E hr h => ?_)
  · obtain ⟨x, hs, hn, A, s, N, rfl, hl, q⟩ := h
    rfl
  · obtain ⟨x, hs, hn, A, s, N, rfl, hl, q⟩ := h
    obtain ⟨dx, gsv, hx, tgs⟩ := hl.ins
    refine ⟨_, (pss_one (ps_if (pt_truth (pe_fld (pv 0) rfl) (by intro _; rfl)) (pss_cons (ps_fld (pv 0) (pe_callTy call_dictD (by rfl) T.z_dict (by decide +kernel) (pa_cons (pe_fld (pv 0) rfl) pa_nil)) rfl) (pss_cons (ps_fld (pv 0) (pe_callTy call_dictD (by rfl) T.z_dict (by decide +kernel) (pa_cons (pe_fld (pv 0) rfl) pa_nil)) rfl) (pss_one (ps_fld (pv 0) pe_bl rfl)))) pss_nil)), ?_⟩
    have core := hl.core
    obtain ⟨kn, en, _⟩ := core.nt.ex
    obtain ⟨ku, eu, _⟩ := core.un.ex
    cases ele : A.le with
    | false =>
      refine ⟨_, rfl, x, _, dx, _, _, rfl, hx, T.cl_Ledger, T.n_Ledger_lent, ldf_lent _ _ _ _ _ _ _ _ _ _ _, A.le, rfl, ?_⟩
      rw [ele]
      exact iteF (q A.nd A.ud H (by rw [← ele]; exact hl) (fun _ _ _ e => e) (fun _ => ⟨rfl, rfl⟩) (fun z => by rw [ele] at z; cases z))
    | true =>
      refine ⟨_, rfl, x, _, dx, _, _, rfl, hx, T.cl_Ledger, T.n_Ledger_lent, ldf_lent _ _ _ _ _ _ _ _ _ _ _, A.le, rfl, ?_⟩
      rw [ele]
      refine iteT ?_
      refine ⟨_, rfl, x, _, dx, _, _, rfl, hx, T.cl_Ledger, T.n_Ledger_notes, ldf_notes _ _ _ _ _ _ _ _ _ _ _, A.nd, _, rfl, .inl en, fun p np => ?_⟩
      have hxp : x ≠ p := ne_of_none hx np
      have s1 : Same H (upd H p (.dK kn)) := same_new (Same.refl H) np
      have hp1 : (upd H p (.dK kn)) p = some (.dK kn) := upd_same
      generalize (upd H p (.dK kn)) = H1 at s1 hp1 ⊢
      have hx1 := s1 _ _ hx
      have udx : A.ud ≠ x := core.nx hx _ (supC_mem.mpr (.inr (.inl rfl)))
      refine ⟨_, rfl, x, _, dx, _, rfl, hx1, T.cl_Ledger, T.n_Ledger_notes, ldf_len _ _ _ _ _ _ _ _ _ _ _, ?_⟩
      rw [ldp_notes]
      have k2 : ∀ b o, b ≠ x → H1 b = some o → (upd H1 x (.ins (a 56) dx (ldf (.int hs) (.int hn) (.ref p) (.ref A.ud) (.bl A.le) gsv (.int s.gser) (oLg s.gm) (.ref A.wx) (.ref A.md) (.ref A.fl)))) b = some o := fun b o n e => by rw [upd_ne n]; exact e
      have hx2 : (upd H1 x (.ins (a 56) dx (ldf (.int hs) (.int hn) (.ref p) (.ref A.ud) (.bl A.le) gsv (.int s.gser) (oLg s.gm) (.ref A.wx) (.ref A.md) (.ref A.fl)))) x = some (.ins (a 56) dx (ldf (.int hs) (.int hn) (.ref p) (.ref A.ud) (.bl A.le) gsv (.int s.gser) (oLg s.gm) (.ref A.wx) (.ref A.md) (.ref A.fl))) := upd_same
      have f2 : ∀ b, (upd H1 x (.ins (a 56) dx (ldf (.int hs) (.int hn) (.ref p) (.ref A.ud) (.bl A.le) gsv (.int s.gser) (oLg s.gm) (.ref A.wx) (.ref A.md) (.ref A.fl)))) b = none → H b = none := fun b e => by
        by_cases c : b = x
        · rw [c, upd_same] at e; cases e
        · rw [upd_ne c] at e; exact s1.free e
      generalize (upd H1 x (.ins (a 56) dx (ldf (.int hs) (.int hn) (.ref p) (.ref A.ud) (.bl A.le) gsv (.int s.gser) (oLg s.gm) (.ref A.wx) (.ref A.md) (.ref A.fl)))) = H2 at k2 hx2 f2 ⊢
      refine ⟨_, rfl, x, _, dx, _, _, rfl, hx2, T.cl_Ledger, T.n_Ledger_unended, ldf_unended _ _ _ _ _ _ _ _ _ _ _, A.ud, _, rfl, .inl (k2 _ _ udx (s1 _ _ eu)), fun r nr => ?_⟩
      have s3 : Same H2 (upd H2 r (.dK ku)) := same_new (Same.refl H2) nr
      have hr3 : (upd H2 r (.dK ku)) r = some (.dK ku) := upd_same
      have hp2 := k2 _ _ (Ne.symm hxp) hp1
      have pr : p ≠ r := ne_of_none hp2 nr
      have rx : r ≠ x := Ne.symm (ne_of_none hx2 nr)
      generalize (upd H2 r (.dK ku)) = H3 at s3 hr3 ⊢
      have hx3 := s3 _ _ hx2
      refine ⟨_, rfl, x, _, dx, _, rfl, hx3, T.cl_Ledger, T.n_Ledger_unended, ldf_len _ _ _ _ _ _ _ _ _ _ _, ?_⟩
      rw [ldp_unended]
      refine ⟨_, rfl, x, _, dx, _, rfl, upd_same, T.cl_Ledger, T.n_Ledger_lent, ldf_len _ _ _ _ _ _ _ _ _ _ _, ?_⟩
      rw [ldp_lent, upd_twice]
      have k4 : ∀ b o, b ≠ x → H b = some o → (upd H3 x (.ins (a 56) dx (ldf (.int hs) (.int hn) (.ref p) (.ref r) (.bl false) gsv (.int s.gser) (oLg s.gm) (.ref A.wx) (.ref A.md) (.ref A.fl)))) b = some o := fun b o n e => by
        rw [upd_ne n]
        exact s3 _ _ (k2 _ _ n (s1 _ _ e))
      refine q p r _ ⟨⟨dx, gsv, upd_same, TD.tk (fun b xs e => k4 b _ (ne_of e hx (by intro z; cases z)) e) tgs⟩, core.own2 hx en eu np (f2 _ nr) pr (by rw [upd_ne (Ne.symm hxp)]; exact s3 _ _ hp2) (by rw [upd_ne rx]; exact hr3) k4⟩ k4 (fun z => by rw [ele] at z; cases z) (fun _ => ⟨np, f2 _ nr⟩)

theorem ok_Ledger_noted_of {P : Program} {w : World} {K : PySem.W.Frag} {mg : Str → Option Value} {base : Heap} {a : Nat → Addr} {d : Nat → FuncData} (T : Txt K mg a d) : FnOk P w K mg base CX0 1 (a 22) (d 22) ["self", "dealing"] (spNotedOf (a 56) (a 55) K) := by
  refine T.F_Ledger_noted_of.ok sc_Ledger_noted_of (fun vs H Q E h => ?_) (fun cdv A outer s0 H vs Q E hr h => ?_)
  · obtain ⟨x, hs, hn, A, s, N, n, rfl, hl, q⟩ := h
    rfl
  · obtain ⟨x, hs, hn, A, s, N, n, rfl, hl, q⟩ := h
    obtain ⟨dx, gsv, hx, tgs⟩ := hl.ins
    refine ⟨_, (pss_one (ps_ret (pe_dget2 (hu_of hr) (pe_fld (pv 0) rfl) (pv 1) (pe_glob (v := .ref (a 69)) (by rfl) T.g_UNNOTED rfl) ⟨rfl, rfl, rfl, rfl⟩))), ?_⟩
    obtain ⟨o, g, t⟩ := hl.noted n
    obtain ⟨kv, e, _⟩ := hl.core.nt.ex
    refine ⟨_, rfl, x, _, dx, _, _, rfl, hx, T.cl_Ledger, T.n_Ledger_notes, ldf_notes _ _ _ _ _ _ _ _ _ _ _, A.nd, rfl, .inl ⟨_, .inl e⟩, _, rfl, o, g, ?_⟩
    cases o with
    | none =>
      have t : s.nt n = Nt.no := t
      refine q _ .non .non .non .non (T.k_UNNOTED H) ?_ ?_ ?_ ?_ <;> rw [t] <;> exact .non
    | some v =>
      obtain ⟨p, xs, rfl, hp, t⟩ := td_tup (show TD H v (s.nt n).d from t)
      obtain ⟨w1, _, rfl, t1, t⟩ := td_cons t
      obtain ⟨w2, _, rfl, t2, t⟩ := td_cons t
      obtain ⟨w3, _, rfl, t3, t⟩ := td_cons t
      obtain ⟨w4, _, rfl, t4, t⟩ := td_cons t
      cases td_nil t
      exact q p w1 w2 w3 w4 (SqT.of hp) t1 t2 t3 t4

theorem ok_Ledger_word {P : Program} {w : World} {K : PySem.W.Frag} {mg : Str → Option Value} {base : Heap} {a : Nat → Addr} {d : Nat → FuncData} (T : Txt K mg a d) : FnOk P w K mg base CX0 1 (a 23) (d 23) ["self", "dealing"] (spPart (a 56) (a 55) (fun x => oSr x.w)) := by
  refine T.F_Ledger_word.ok sc_Ledger_word (fun vs H Q E h => ?_) (fun cdv A outer s0 H vs Q E hr h => ?_)
  · obtain ⟨x, hs, hn, A, s, N, n, rfl, hl, q⟩ := h
    rfl
  · obtain ⟨x, hs, hn, A, s, N, n, rfl, hl, q⟩ := h
    obtain ⟨dx, gsv, hx, tgs⟩ := hl.ins
    refine ⟨_, (pss_one (ps_ret (pe_ix ix_tup (pe_dget2 (hu_of hr) (pe_fld (pv 0) rfl) (pv 1) (pe_glob (v := .ref (a 69)) (by rfl) T.g_UNNOTED rfl) ⟨rfl, rfl, rfl, rfl⟩) pe_int (fun _ _ => rfl)))), ?_⟩
    obtain ⟨o, g, t⟩ := hl.noted n
    obtain ⟨kv, e, _⟩ := hl.core.nt.ex
    refine ⟨_, rfl, x, _, dx, _, _, rfl, hx, T.cl_Ledger, T.n_Ledger_notes, ldf_notes _ _ _ _ _ _ _ _ _ _ _, A.nd, rfl, .inl ⟨_, .inl e⟩, _, rfl, o, g, ?_⟩
    cases o with
    | none =>
      have t : s.nt n = Nt.no := t
      refine ⟨_, _, 0, _, rfl, rfl, T.k_UNNOTED H, atI_nat (j := 0) rfl, q _ ?_⟩
      rw [t]
      exact .non
    | some v =>
      obtain ⟨p, xs, rfl, hp, t⟩ := td_tup (show TD H v (s.nt n).d from t)
      obtain ⟨w1, _, rfl, t1, t⟩ := td_cons t
      obtain ⟨w2, _, rfl, t2, t⟩ := td_cons t
      obtain ⟨w3, _, rfl, t3, t⟩ := td_cons t
      obtain ⟨w4, _, rfl, t4, t⟩ := td_cons t
      cases td_nil t
      exact ⟨p, _, 0, _, rfl, rfl, SqT.of hp, atI_nat (j := 0) rfl, q _ t1⟩

theorem ok_Ledger_pledge_of {P : Program} {w : World} {K : PySem.W.Frag} {mg : Str → Option Value} {base : Heap} {a : Nat → Addr} {d : Nat → FuncData} (T : Txt K mg a d) : FnOk P w K mg base CX0 1 (a 24) (d 24) ["self", "dealing"] (spPart (a 56) (a 55) (fun x => oPl x.p)) := by
  refine T.F_Ledger_pledge_of.ok sc_Ledger_pledge_of (fun vs H Q E h => ?_) (fun cdv A outer s0 H vs Q E hr h => ?_)
  · obtain ⟨x, hs, hn, A, s, N, n, rfl, hl, q⟩ := h
    rfl
  · obtain ⟨x, hs, hn, A, s, N, n, rfl, hl, q⟩ := h
    obtain ⟨dx, gsv, hx, tgs⟩ := hl.ins
    refine ⟨_, (pss_one (ps_ret (pe_ix ix_tup (pe_dget2 (hu_of hr) (pe_fld (pv 0) rfl) (pv 1) (pe_glob (v := .ref (a 69)) (by rfl) T.g_UNNOTED rfl) ⟨rfl, rfl, rfl, rfl⟩) pe_int (fun _ _ => rfl)))), ?_⟩
    obtain ⟨o, g, t⟩ := hl.noted n
    obtain ⟨kv, e, _⟩ := hl.core.nt.ex
    refine ⟨_, rfl, x, _, dx, _, _, rfl, hx, T.cl_Ledger, T.n_Ledger_notes, ldf_notes _ _ _ _ _ _ _ _ _ _ _, A.nd, rfl, .inl ⟨_, .inl e⟩, _, rfl, o, g, ?_⟩
    cases o with
    | none =>
      have t : s.nt n = Nt.no := t
      refine ⟨_, _, 1, _, rfl, rfl, T.k_UNNOTED H, atI_nat (j := 1) rfl, q _ ?_⟩
      rw [t]
      exact .non
    | some v =>
      obtain ⟨p, xs, rfl, hp, t⟩ := td_tup (show TD H v (s.nt n).d from t)
      obtain ⟨w1, _, rfl, t1, t⟩ := td_cons t
      obtain ⟨w2, _, rfl, t2, t⟩ := td_cons t
      obtain ⟨w3, _, rfl, t3, t⟩ := td_cons t
      obtain ⟨w4, _, rfl, t4, t⟩ := td_cons t
      cases td_nil t
      exact ⟨p, _, 1, _, rfl, rfl, SqT.of hp, atI_nat (j := 1) rfl, q _ t2⟩

theorem ok_Ledger_low_of {P : Program} {w : World} {K : PySem.W.Frag} {mg : Str → Option Value} {base : Heap} {a : Nat → Addr} {d : Nat → FuncData} (T : Txt K mg a d) : FnOk P w K mg base CX0 1 (a 25) (d 25) ["self", "dealing"] (spPart (a 56) (a 55) (fun x => oIn x.low)) := by
  refine T.F_Ledger_low_of.ok sc_Ledger_low_of (fun vs H Q E h => ?_) (fun cdv A outer s0 H vs Q E hr h => ?_)
  · obtain ⟨x, hs, hn, A, s, N, n, rfl, hl, q⟩ := h
    rfl
  · obtain ⟨x, hs, hn, A, s, N, n, rfl, hl, q⟩ := h
    obtain ⟨dx, gsv, hx, tgs⟩ := hl.ins
    refine ⟨_, (pss_one (ps_ret (pe_ix ix_tup (pe_dget2 (hu_of hr) (pe_fld (pv 0) rfl) (pv 1) (pe_glob (v := .ref (a 69)) (by rfl) T.g_UNNOTED rfl) ⟨rfl, rfl, rfl, rfl⟩) pe_int (fun _ _ => rfl)))), ?_⟩
    obtain ⟨o, g, t⟩ := hl.noted n
    obtain ⟨kv, e, _⟩ := hl.core.nt.ex
    refine ⟨_, rfl, x, _, dx, _, _, rfl, hx, T.cl_Ledger, T.n_Ledger_notes, ldf_notes _ _ _ _ _ _ _ _ _ _ _, A.nd, rfl, .inl ⟨_, .inl e⟩, _, rfl, o, g, ?_⟩
    cases o with
    | none =>
      have t : s.nt n = Nt.no := t
      refine ⟨_, _, 3, _, rfl, rfl, T.k_UNNOTED H, atI_nat (j := 3) rfl, q _ ?_⟩
      rw [t]
      exact .non
    | some v =>
      obtain ⟨p, xs, rfl, hp, t⟩ := td_tup (show TD H v (s.nt n).d from t)
      obtain ⟨w1, _, rfl, t1, t⟩ := td_cons t
      obtain ⟨w2, _, rfl, t2, t⟩ := td_cons t
      obtain ⟨w3, _, rfl, t3, t⟩ := td_cons t
      obtain ⟨w4, _, rfl, t4, t⟩ := td_cons t
      cases td_nil t
      exact ⟨p, _, 3, _, rfl, rfl, SqT.of hp, atI_nat (j := 3) rfl, q _ t4⟩

theorem ok_Ledger_note_stamp {P : Program} {w : World} {K : PySem.W.Frag} {mg : Str → Option Value} {base : Heap} {a : Nat → Addr} {d : Nat → FuncData} (T : Txt K mg a d) : FnOk P w K mg base CX0 1 (a 26) (d 26) ["self", "stamp"] (spNoteStamp (a 56) (a 55)) := by
  refine T.F_Ledger_note_stamp.ok sc_Ledger_note_stamp (fun vs H Q E h => ?_) (fun cdv A outer s0 H vs Q E hr h => ?_)
  · obtain ⟨x, hs, hn, A, s, N, v, st, rfl, hl, hv, q⟩ := h
    rfl
  · obtain ⟨x, hs, hn, A, s, N, v, st, rfl, hl, hv, q⟩ := h
    obtain ⟨dx, gsv, hx, tgs⟩ := hl.ins
    refine ⟨_, (Evl.pss_cut (ps_if (PW.pt (pw_or (pt_cmpR op_isN (pe_fld (pv 0) rfl) pe_non (nomark _)) (pw_or1 (pt_cmpR (op_gtT hr.units0) (pv 1) (pe_fld (pv 0) rfl) (nomark _))))) (pss_one (ps_fld (pv 0) (pv 1) rfl)) pss_nil) (pss_one (ps_fld (pv 0) (pe_callB (call_max2 rfl) (by rfl) T.z_max (by decide +kernel) (pa_cons (pe_fld (pv 0) rfl) (pa_cons (pe_ix ix_tup (pv 1) pe_int (fun _ _ => rfl)) pa_nil))) rfl))), ?_⟩
    obtain ⟨qv, rfl, hq⟩ := st_at hv
    obtain ⟨gs', egs⟩ : ∃ gs', gs' = (match s.gs with | none => some st | some g => if g.l < st.l then some st else some g) := ⟨_, rfl⟩
    refine ⟨fun σ' H' => σ' = [some (.ref x), some (.ref qv)] ∧ (∀ b o, b ≠ x → H b = some o → H' b = some o) ∧ ∃ u, H' x = some (.ins (a 56) dx (ldf (.int hs) (.int hn) (.ref A.nd) (.ref A.ud) (.bl A.le) u (.int s.gser) (oLg s.gm) (.ref A.wx) (.ref A.md) (.ref A.fl))) ∧ TD H' u (oSt gs'), ?_, ?_⟩
    · have put : gs' = some st → ∀ u, u = (upd H x (.ins (a 56) dx (ldf (.int hs) (.int hn) (.ref A.nd) (.ref A.ud) (.bl A.le) (.ref qv) (.int s.gser) (oLg s.gm) (.ref A.wx) (.ref A.md) (.ref A.fl)))) → (∀ b o, b ≠ x → H b = some o → u b = some o) ∧ ∃ w, u x = some (.ins (a 56) dx (ldf (.int hs) (.int hn) (.ref A.nd) (.ref A.ud) (.bl A.le) w (.int s.gser) (oLg s.gm) (.ref A.wx) (.ref A.md) (.ref A.fl))) ∧ TD u w (oSt gs') := fun e u eu => by
        subst eu
        have k1 : ∀ b o, b ≠ x → H b = some o → (upd H x (.ins (a 56) dx (ldf (.int hs) (.int hn) (.ref A.nd) (.ref A.ud) (.bl A.le) (.ref qv) (.int s.gser) (oLg s.gm) (.ref A.wx) (.ref A.md) (.ref A.fl)))) b = some o := fun b o n z => by rw [upd_ne n]; exact z
        refine ⟨k1, _, upd_same, ?_⟩
        rw [e]
        exact TD.tk (fun b xs z => k1 b _ (ne_of z hx (by intro r; cases r)) z) hv
      cases eg : s.gs with
      | none =>
        rw [eg] at tgs egs
        cases td_none tgs
        refine ⟨_, rfl, x, _, dx, _, _, rfl, hx, T.cl_Ledger, T.n_Ledger_greatest_stamp, ldf_greatest_stamp _ _ _ _ _ _ _ _ _ _ _, rfl, _, rfl, iteBT rfl (iteT ?_)⟩
        refine ⟨_, rfl, _, rfl, x, _, dx, _, rfl, hx, T.cl_Ledger, T.n_Ledger_greatest_stamp, ldf_len _ _ _ _ _ _ _ _ _ _ _, ?_⟩
        rw [ldp_greatest_stamp]
        exact ⟨rfl, put egs _ rfl⟩
      | some g =>
        rw [eg] at tgs egs
        obtain ⟨qg, rfl, hg⟩ := st_at tgs
        refine ⟨_, rfl, x, _, dx, _, _, rfl, hx, T.cl_Ledger, T.n_Ledger_greatest_stamp, ldf_greatest_stamp _ _ _ _ _ _ _ _ _ _ _, rfl, _, rfl, iteBF rfl ?_⟩
        refine ⟨_, rfl, _, rfl, x, _, dx, _, _, rfl, hx, T.cl_Ledger, T.n_Ledger_greatest_stamp, ldf_greatest_stamp _ _ _ _ _ _ _ _ _ _ _, qv, qg, st.l, g.l, rfl, rfl, SqT.of hq, SqT.of hg, _, rfl, ?_⟩
        rw [gt3]
        by_cases c : g.l < st.l
        · refine iteDT c ?_
          refine ⟨_, rfl, _, rfl, x, _, dx, _, rfl, hx, T.cl_Ledger, T.n_Ledger_greatest_stamp, ldf_len _ _ _ _ _ _ _ _ _ _ _, ?_⟩
          rw [ldp_greatest_stamp]
          exact ⟨rfl, put (by rw [egs]; show (if g.l < st.l then some st else some g) = _; rw [if_pos c]) _ rfl⟩
        · refine iteDF c ⟨rfl, fun _ _ _ e => e, _, hx, ?_⟩
          have e : gs' = some g := by rw [egs]; show (if g.l < st.l then some st else some g) = _; rw [if_neg c]
          rw [e]
          exact tgs
    · rintro σ' H1 ⟨rfl, k1, u, hx1, tu⟩
      have tk1 : Tk H H1 := fun b xs z => k1 b _ (ne_of z hx (by intro r; cases r)) z
      have hq1 := tk1 _ _ hq
      refine ⟨_, rfl, x, _, dx, _, _, rfl, hx1, T.cl_Ledger, T.n_Ledger_greatest_serial, ldf_greatest_serial _ _ _ _ _ _ _ _ _ _ _, _, rfl, qv, _, 1, _, rfl, rfl, SqT.of hq1, atI_nat (j := 1) rfl, _, _, rfl, _, rfl, x, _, dx, _, rfl, hx1, T.cl_Ledger, T.n_Ledger_greatest_serial, ldf_len _ _ _ _ _ _ _ _ _ _ _, ?_⟩
      rw [ldp_greatest_serial]
      have k2 : ∀ b o, b ≠ x → H1 b = some o → (upd H1 x (.ins (a 56) dx (ldf (.int hs) (.int hn) (.ref A.nd) (.ref A.ud) (.bl A.le) u (.int (if st.s > s.gser then st.s else s.gser)) (oLg s.gm) (.ref A.wx) (.ref A.md) (.ref A.fl)))) b = some o := fun b o n z => by rw [upd_ne n]; exact z
      have tk2 : Tk H1 _ := fun b xs z => k2 b _ (ne_of z hx1 (by intro r; cases r)) z
      subst egs
      have core2 : LCore (a 55) (upd H1 x (.ins (a 56) dx (ldf (.int hs) (.int hn) (.ref A.nd) (.ref A.ud) (.bl A.le) u (.int (if st.s > s.gser then st.s else s.gser)) (oLg s.gm) (.ref A.wx) (.ref A.md) (.ref A.fl)))) x A s N := hl.core.keep (fun b xs z => tk2 b _ (tk1 b _ z)) fun c hc o z => k2 _ _ (hl.core.nx hx c hc) (k1 _ _ (hl.core.nx hx c hc) z)
      exact q _ ⟨⟨dx, u, upd_same, TD.tk tk2 tu⟩, ⟨core2.nt, core2.un, core2.sh, core2.ct, core2.mv, core2.fm, core2.xw, core2.dd, core2.ll, core2.al, core2.sz⟩⟩ fun b o n z => k2 _ _ n (k1 _ _ n z)

theorem ok_Ledger_note_pledge {P : Program} {w : World} {K : PySem.W.Frag} {mg : Str → Option Value} {base : Heap} {a : Nat → Addr} {d : Nat → FuncData} (T : Txt K mg a d) : FnOk P w K mg base CX0 2 (a 27) (d 27) ["self", "entry"] (spNotePledge (a 56) (a 55)) := by
  refine T.F_Ledger_note_pledge.ok sc_Ledger_note_pledge (fun vs H Q E h => ?_) (fun cdv A outer s0 H vs Q E hr h => ?_)
  · obtain ⟨x, hs, hn, A, s, N, v, p, rfl, hl, hle, hv, hN, q⟩ := h
    rfl
  · obtain ⟨x, hs, hn, A, s, N, v, p, rfl, hl, hle, hv, hN, q⟩ := h
    obtain ⟨dx, gsv, hx, tgs⟩ := hl.ins
    refine ⟨_, (pss_cons (ps_set (i := 2) sc_Ledger_note_pledge.nd rfl (Or.inl rfl) (pe_ix ix_tup (pv 1) pe_int (fun _ _ => rfl))) (pss_cons (ps_asg (pe_meth (pv 0) T.cl_Ledger T.m_Ledger_noted_of (ok_Ledger_noted_of T) (hr.mono (by decide)) T.b_Ledger_noted_of .nil pass0 (pa_cons (pv 2) pa_nil)) (pg_tup (by rfl) (pgs_cons (pg_name (i := 3) sc_Ledger_note_pledge.nd rfl (.inl rfl)) (pgs_cons (pg_name (i := 4) sc_Ledger_note_pledge.nd rfl (.inl rfl)) (pgs_cons (pg_name (i := 5) sc_Ledger_note_pledge.nd rfl (.inl rfl)) (pgs_cons (pg_name (i := 6) sc_Ledger_note_pledge.nd rfl (.inl rfl)) pgs_nil)))))) (pss_cons (ps_dput (hu_of hr) (pe_fld (pv 0) rfl) (pv 2) (pe_tup (pa_cons (pe_glob (v := .str "pledged") (by rfl) (Exists.choose_spec T.g_PLEDGED) ⟨_, rfl⟩) (pa_cons (pv 1) (pa_cons (pv 5) (pa_cons (pv 6) pa_nil))))) rfl) (pss_cons (ps_dput (hu_of hr) (pe_fld (pv 0) rfl) (pv 2) (pv 1) rfl) (pss_one (ps_expr (pe_meth (pv 0) T.cl_Ledger T.m_Ledger_note_stamp (ok_Ledger_note_stamp T) (hr.mono (by decide)) T.b_Ledger_note_stamp .nil pass0 (pa_cons (pe_call (ok_stamp_in T) (hr.mono (by decide)) (by rfl) T.g_stamp_in T.F_stamp_in.kp T.b_stamp_in .nil pass0 (pa_cons (pv 1) pa_nil)) pa_nil)))))))), ?_⟩
    have core := hl.core
    obtain ⟨q', hv', sv, rv, wv, mv, rfl, hq, t3, t4, t5, t6, t7⟩ := pl_at hv
    refine ⟨_, rfl, q', _, 1, _, rfl, rfl, SqT.of hq, atI_nat (j := 1) rfl, ?_⟩
    refine ⟨_, rfl, x, dx, _, rfl, hx, ldf_no _ _ _ _ _ _ _ _ _ _ _ (by decide +kernel) (by decide +kernel) (by decide +kernel) (by decide +kernel) (by decide +kernel) (by decide +kernel) (by decide +kernel) (by decide +kernel) (by decide +kernel) (by decide +kernel) (by decide +kernel), _, rfl, x, hs, hn, A, s, N, p.n, rfl, hl, fun pp w1 w2 w3 w4 hpp u1 u2 u3 u4 => ?_⟩
    refine ⟨pp, _, rfl, hpp, rfl, _, _, rfl, _, _, rfl, _, _, rfl, _, _, rfl, rfl, ?_⟩
    refine ⟨_, rfl, _, rfl, _, rfl, len4, fun t nt => ?_⟩
    have s1 : Same H (upd H t (.tup [.str "pledged", .ref q', w3, w4])) := same_new (Same.refl H) nt
    have h1 : (upd H t (.tup [.str "pledged", .ref q', w3, w4])) t = some (.tup [.str "pledged", .ref q', w3, w4]) := upd_same
    generalize (upd H t (.tup [.str "pledged", .ref q', w3, w4])) = H1 at s1 h1 ⊢
    have core1 := core.same s1
    have hx1 := s1 _ _ hx
    obtain ⟨kn, en, ln, _⟩ := core1.nt.ex
    refine ⟨_, rfl, x, _, dx, _, _, rfl, hx1, T.cl_Ledger, T.n_Ledger_notes, ldf_notes _ _ _ _ _ _ _ _ _ _ _, _, rfl, A.nd, _, rfl, DPut.k (k := Sum.inl p.n) en (Nat.lt_of_le_of_lt ln (Nat.lt_of_lt_of_le (show N < 1000 by omega) (by decide))), ?_⟩
    have tk1 : Tk H H1 := fun b xs e => s1 b _ e
    have c2 := core1.putNt en (n := p.n) (v := .ref t) (y := { s.nt p.n with w := some "pledged", p := some p }) (.tup h1 (.cons (.str _) (.cons (TD.tk tk1 hv) (.cons (TD.tk tk1 u3) (.cons (TD.tk tk1 u4) .nil)))))
    have ndx : A.nd ≠ x := core.nx hx _ (supC_mem.mpr (.inl rfl))
    have udx : A.ud ≠ x := core.nx hx _ (supC_mem.mpr (.inr (.inl rfl)))
    have k2 : ∀ b o, b ≠ A.nd → H1 b = some o → (upd H1 A.nd (.dK (putK kn (Sum.inl p.n) (.ref t)))) b = some o := fun b o n e => by rw [upd_ne n]; exact e
    have tk2 : Tk H1 (upd H1 A.nd (.dK (putK kn (Sum.inl p.n) (.ref t)))) := fun b xs e => k2 b _ (ne_of e en (by intro z; cases z)) e
    generalize (upd H1 A.nd (.dK (putK kn (Sum.inl p.n) (.ref t)))) = H2 at c2 k2 tk2 ⊢
    have hx2 := k2 _ _ (Ne.symm ndx) hx1
    obtain ⟨ku, eu, lu, _⟩ := c2.un.ex
    refine ⟨_, rfl, _, rfl, x, _, dx, _, _, rfl, hx2, T.cl_Ledger, T.n_Ledger_unended, ldf_unended _ _ _ _ _ _ _ _ _ _ _, _, rfl, A.ud, _, rfl, DPut.k (k := Sum.inl p.n) eu (Nat.lt_of_le_of_lt lu (Nat.lt_of_lt_of_le (show N + 1 < 1000 by omega) (by decide))), ?_⟩
    have hv2 : TD H2 (.ref q') p.d := TD.tk tk2 (TD.tk tk1 hv)
    have c3 := c2.atUn (Nat.le_succ _) eu (c2.un.put eu (n := p.n) (v := .ref q') (x := p) hv2)
    have k3 : ∀ b o, b ≠ A.ud → H2 b = some o → (upd H2 A.ud (.dK (putK ku (Sum.inl p.n) (.ref q')))) b = some o := fun b o n e => by rw [upd_ne n]; exact e
    have tk3 : Tk H2 (upd H2 A.ud (.dK (putK ku (Sum.inl p.n) (.ref q')))) := fun b xs e => k3 b _ (ne_of e eu (by intro z; cases z)) e
    generalize (upd H2 A.ud (.dK (putK ku (Sum.inl p.n) (.ref q')))) = H3 at c3 k3 tk3 ⊢
    have hx3 := k3 _ _ (Ne.symm udx) hx2
    have tk13 : Tk H H3 := fun b xs e => tk3 b _ (tk2 b _ (tk1 b _ e))
    have hl3 : LedgerAt (a 56) (a 55) H3 x hs hn A { s with nt := setN s.nt p.n { s.nt p.n with w := some "pledged", p := some p }, un := setN s.un p.n (some p) } (N + 1 + 1) := ⟨⟨dx, gsv, hx3, TD.tk tk13 tgs⟩, c3⟩
    refine ⟨_, rfl, x, dx, _, rfl, hx3, ldf_no _ _ _ _ _ _ _ _ _ _ _ (by decide +kernel) (by decide +kernel) (by decide +kernel) (by decide +kernel) (by decide +kernel) (by decide +kernel) (by decide +kernel) (by decide +kernel) (by decide +kernel) (by decide +kernel) (by decide +kernel), _, rfl, .ref q', p, rfl, TD.tk tk13 hv, fun u tu => ?_⟩
    refine ⟨x, hs, hn, A, _, N + 1 + 1, u, p.st, rfl, hl3, tu, fun H4 hl4 k4 => ?_⟩
    exact q H4 hl4 fun b o n1 n2 n3 e => k4 b o n1 (k3 b o n3 (k2 b o n2 (s1 b o e)))

theorem ok_Ledger_note_sure {P : Program} {w : World} {K : PySem.W.Frag} {mg : Str → Option Value} {base : Heap} {a : Nat → Addr} {d : Nat → FuncData} (T : Txt K mg a d) : FnOk P w K mg base CX0 2 (a 28) (d 28) ["self", "entry"] (spNoteSure (a 56) (a 55)) := by
  refine T.F_Ledger_note_sure.ok sc_Ledger_note_sure (fun vs H Q E h => ?_) (fun cdv A outer s0 H vs Q E hr h => ?_)
  · obtain ⟨x, hs, hn, A, s, N, v, n, st, low, rfl, hl, hle, hv, hN, q⟩ := h
    rfl
  · obtain ⟨x, hs, hn, A, s, N, v, n, st, low, rfl, hl, hle, hv, hN, q⟩ := h
    obtain ⟨dx, gsv, hx, tgs⟩ := hl.ins
    refine ⟨_, (pss_cons (ps_asg (pv 1) (pg_tup (by rfl) (pgs_cons (pg_name (i := 2) sc_Ledger_note_sure.nd rfl (.inl rfl)) (pgs_cons (pg_name (i := 3) sc_Ledger_note_sure.nd rfl (.inl rfl)) (pgs_cons (pg_name (i := 4) sc_Ledger_note_sure.nd rfl (.inl rfl)) (pgs_cons (pg_name (i := 5) sc_Ledger_note_sure.nd rfl (.inl rfl)) pgs_nil)))))) (pss_cons (ps_dput (hu_of hr) (pe_fld (pv 0) rfl) (pv 3) (pe_tup (pa_cons (pe_glob (v := .str "sure") (by rfl) (Exists.choose_spec T.g_SURE) ⟨_, rfl⟩) (pa_cons (pe_meth (pv 0) T.cl_Ledger T.m_Ledger_pledge_of (ok_Ledger_pledge_of T) (hr.mono (by decide)) T.b_Ledger_pledge_of .nil pass0 (pa_cons (pv 3) pa_nil)) (pa_cons (pv 4) (pa_cons (pv 5) pa_nil))))) rfl) (pss_one (ps_expr (pe_meth (pv 0) T.cl_Ledger T.m_Ledger_note_stamp (ok_Ledger_note_stamp T) (hr.mono (by decide)) T.b_Ledger_note_stamp .nil pass0 (pa_cons (pv 4) pa_nil)))))), ?_⟩
    have core := hl.core
    obtain ⟨q', xs, rfl, hq, tt⟩ := td_tup hv
    obtain ⟨_, _, rfl, t0, tt⟩ := td_cons tt
    obtain ⟨_, _, rfl, t1, tt⟩ := td_cons tt
    obtain ⟨sv, _, rfl, t2, tt⟩ := td_cons tt
    obtain ⟨_, _, rfl, t3, tt⟩ := td_cons tt
    rw [td_nil tt, td_str t0, td_int t1, td_int t3] at hq
    refine ⟨_, rfl, q', _, rfl, SqT.of hq, rfl, _, _, rfl, _, _, rfl, _, _, rfl, _, _, rfl, rfl, ?_⟩
    refine ⟨_, rfl, x, dx, _, rfl, hx, ldf_no _ _ _ _ _ _ _ _ _ _ _ (by decide +kernel) (by decide +kernel) (by decide +kernel) (by decide +kernel) (by decide +kernel) (by decide +kernel) (by decide +kernel) (by decide +kernel) (by decide +kernel) (by decide +kernel) (by decide +kernel), _, rfl, x, hs, hn, A, s, N, n, rfl, hl, fun u tu => ?_⟩
    refine ⟨_, rfl, _, rfl, len4, fun t nt => ?_⟩
    have s1 : Same H (upd H t (.tup [.str "sure", u, sv, .int low])) := same_new (Same.refl H) nt
    have h1 : (upd H t (.tup [.str "sure", u, sv, .int low])) t = some (.tup [.str "sure", u, sv, .int low]) := upd_same
    generalize (upd H t (.tup [.str "sure", u, sv, .int low])) = H1 at s1 h1 ⊢
    have core1 := core.same s1
    have hx1 := s1 _ _ hx
    obtain ⟨kn, en, ln, _⟩ := core1.nt.ex
    refine ⟨_, rfl, x, _, dx, _, _, rfl, hx1, T.cl_Ledger, T.n_Ledger_notes, ldf_notes _ _ _ _ _ _ _ _ _ _ _, _, rfl, A.nd, _, rfl, DPut.k (k := Sum.inl n) en (Nat.lt_of_le_of_lt ln (Nat.lt_of_lt_of_le (show N < 1000 by omega) (by decide))), ?_⟩
    have tk1 : Tk H H1 := fun b xs e => s1 b _ e
    have c2 := core1.putNt en (n := n) (v := .ref t) (y := ⟨some "sure", (s.nt n).p, some st, some low⟩) (.tup h1 (.cons (.str _) (.cons (TD.tk tk1 tu) (.cons (TD.tk tk1 t2) (.cons (.int _) .nil)))))
    have ndx : A.nd ≠ x := core.nx hx _ (supC_mem.mpr (.inl rfl))
    have k2 : ∀ b o, b ≠ A.nd → H1 b = some o → (upd H1 A.nd (.dK (putK kn (Sum.inl n) (.ref t)))) b = some o := fun b o n e => by rw [upd_ne n]; exact e
    have tk2 : Tk H1 (upd H1 A.nd (.dK (putK kn (Sum.inl n) (.ref t)))) := fun b xs e => k2 b _ (ne_of e en (by intro z; cases z)) e
    generalize (upd H1 A.nd (.dK (putK kn (Sum.inl n) (.ref t)))) = H2 at c2 k2 tk2 ⊢
    have hx2 := k2 _ _ (Ne.symm ndx) hx1
    have tk12 : Tk H H2 := fun b xs e => tk2 b _ (tk1 b _ e)
    have hl2 : LedgerAt (a 56) (a 55) H2 x hs hn A { s with nt := setN s.nt n ⟨some "sure", (s.nt n).p, some st, some low⟩ } (N + 1) := ⟨⟨dx, gsv, hx2, TD.tk tk12 tgs⟩, c2⟩
    refine ⟨_, rfl, x, dx, _, rfl, hx2, ldf_no _ _ _ _ _ _ _ _ _ _ _ (by decide +kernel) (by decide +kernel) (by decide +kernel) (by decide +kernel) (by decide +kernel) (by decide +kernel) (by decide +kernel) (by decide +kernel) (by decide +kernel) (by decide +kernel) (by decide +kernel), _, rfl, x, hs, hn, A, _, N + 1, sv, st, rfl, hl2, TD.tk tk12 t2, fun H4 hl4 k4 => ?_⟩
    exact q H4 (hl4.mono (Nat.le_succ _)) fun b o n1 n2 n3 e => k4 b o n1 (k2 b o n2 (s1 b o e))

theorem ok_Ledger_note_end {P : Program} {w : World} {K : PySem.W.Frag} {mg : Str → Option Value} {base : Heap} {a : Nat → Addr} {d : Nat → FuncData} (T : Txt K mg a d) : FnOk P w K mg base CX0 2 (a 29) (d 29) ["self", "dealing", "word"] (spNoteEnd (a 56) (a 55)) := by
  refine T.F_Ledger_note_end.ok sc_Ledger_note_end (fun vs H Q E h => ?_) (fun cdv A outer s0 H vs Q E hr h => ?_)
  · obtain ⟨x, hs, hn, A, s, N, n, rfl, hl, hle, hN, q⟩ := h
    rfl
  · obtain ⟨x, hs, hn, A, s, N, n, rfl, hl, hle, hN, q⟩ := h
    obtain ⟨dx, gsv, hx, tgs⟩ := hl.ins
    refine ⟨_, (pss_cons (ps_asg (pe_meth (pv 0) T.cl_Ledger T.m_Ledger_noted_of (ok_Ledger_noted_of T) (hr.mono (by decide)) T.b_Ledger_noted_of .nil pass0 (pa_cons (pv 1) pa_nil)) (pg_tup (by rfl) (pgs_cons (pg_name (i := 3) sc_Ledger_note_end.nd rfl (.inl rfl)) (pgs_cons (pg_name (i := 4) sc_Ledger_note_end.nd rfl (.inl rfl)) (pgs_cons (pg_name (i := 5) sc_Ledger_note_end.nd rfl (.inl rfl)) (pgs_cons (pg_name (i := 6) sc_Ledger_note_end.nd rfl (.inl rfl)) pgs_nil)))))) (pss_cons (ps_dput (hu_of hr) (pe_fld (pv 0) rfl) (pv 1) (pe_tup (pa_cons (pv 2) (pa_cons (pv 4) (pa_cons (pv 5) (pa_cons (pv 6) pa_nil))))) rfl) (pss_one (ps_expr (pe_dpop2 (pe_fld (pv 0) rfl) (pv 1) pe_non ⟨rfl, rfl, rfl, rfl⟩))))), ?_⟩
    have core := hl.core
    refine ⟨_, rfl, x, dx, _, rfl, hx, ldf_no _ _ _ _ _ _ _ _ _ _ _ (by decide +kernel) (by decide +kernel) (by decide +kernel) (by decide +kernel) (by decide +kernel) (by decide +kernel) (by decide +kernel) (by decide +kernel) (by decide +kernel) (by decide +kernel) (by decide +kernel), _, rfl, x, hs, hn, A, s, N, n, rfl, hl, fun pp w1 w2 w3 w4 hpp u1 u2 u3 u4 => ?_⟩
    refine ⟨pp, _, rfl, hpp, rfl, _, _, rfl, _, _, rfl, _, _, rfl, _, _, rfl, rfl, ?_⟩
    refine ⟨_, rfl, _, rfl, _, rfl, _, rfl, len4, fun t nt => ?_⟩
    have s1 : Same H (upd H t (.tup [.str "off", w2, w3, w4])) := same_new (Same.refl H) nt
    have h1 : (upd H t (.tup [.str "off", w2, w3, w4])) t = some (.tup [.str "off", w2, w3, w4]) := upd_same
    generalize (upd H t (.tup [.str "off", w2, w3, w4])) = H1 at s1 h1 ⊢
    have core1 := core.same s1
    have hx1 := s1 _ _ hx
    obtain ⟨kn, en, ln, _⟩ := core1.nt.ex
    refine ⟨_, rfl, x, _, dx, _, _, rfl, hx1, T.cl_Ledger, T.n_Ledger_notes, ldf_notes _ _ _ _ _ _ _ _ _ _ _, _, rfl, A.nd, _, rfl, DPut.k (k := Sum.inl n) en (Nat.lt_of_le_of_lt ln (Nat.lt_of_lt_of_le (show N < 1000 by omega) (by decide))), ?_⟩
    have tk1 : Tk H H1 := fun b xs e => s1 b _ e
    have c2 := core1.putNt en (n := n) (v := .ref t) (y := { s.nt n with w := some "off" }) (.tup h1 (.cons (.str _) (.cons (TD.tk tk1 u2) (.cons (TD.tk tk1 u3) (.cons (TD.tk tk1 u4) .nil)))))
    have ndx : A.nd ≠ x := core.nx hx _ (supC_mem.mpr (.inl rfl))
    have udx : A.ud ≠ x := core.nx hx _ (supC_mem.mpr (.inr (.inl rfl)))
    have k2 : ∀ b o, b ≠ A.nd → H1 b = some o → (upd H1 A.nd (.dK (putK kn (Sum.inl n) (.ref t)))) b = some o := fun b o n e => by rw [upd_ne n]; exact e
    have tk2 : Tk H1 (upd H1 A.nd (.dK (putK kn (Sum.inl n) (.ref t)))) := fun b xs e => k2 b _ (ne_of e en (by intro z; cases z)) e
    generalize (upd H1 A.nd (.dK (putK kn (Sum.inl n) (.ref t)))) = H2 at c2 k2 tk2 ⊢
    have hx2 := k2 _ _ (Ne.symm ndx) hx1
    have tk12 : Tk H H2 := fun b xs e => tk2 b _ (tk1 b _ e)
    obtain ⟨ku, eu, lu, nu1, nu2, gu⟩ := c2.un.ex
    refine ⟨_, rfl, x, _, dx, _, _, rfl, hx2, T.cl_Ledger, T.n_Ledger_unended, ldf_unended _ _ _ _ _ _ _ _ _ _ _, A.ud, rfl, .inl ⟨_, .inl eu⟩, _, rfl, ku, Sum.inl n, eu, rfl, fun v hv => ?_, fun hn' => ?_⟩
    · have c3 := c2.atUn (Nat.le_refl _) eu (c2.un.drop eu (n := n))
      have k3 : ∀ b o, b ≠ A.ud → H2 b = some o → (upd H2 A.ud (.dK (dropK ku (Sum.inl n)))) b = some o := fun b o n e => by rw [upd_ne n]; exact e
      have tk3 : Tk H2 (upd H2 A.ud (.dK (dropK ku (Sum.inl n)))) := fun b xs e => k3 b _ (ne_of e eu (by intro z; cases z)) e
      exact q _ ⟨⟨dx, gsv, k3 _ _ (Ne.symm udx) hx2, TD.tk (fun b xs e => tk3 b _ (tk12 b _ e)) tgs⟩, c3.mono (by omega)⟩ fun b o n1 n2 n3 e => k3 b o n3 (k2 b o n2 (s1 b o e))
    · have eun : setN s.un n none = s.un := setN_none (by have := gu n; rw [hn'] at this; exact this)
      refine q _ ⟨⟨dx, gsv, hx2, TD.tk tk12 tgs⟩, ?_⟩ fun b o n1 n2 n3 e => k2 b o n2 (s1 b o e)
      have c3 := c2.mono (M := N + 2) (by omega)
      show LCore _ _ _ _ { s with nt := setN s.nt n { s.nt n with w := some "off" }, un := setN s.un n none } _
      rw [eun]
      exact c3

theorem ok_Ledger_note_mark {P : Program} {w : World} {K : PySem.W.Frag} {mg : Str → Option Value} {base : Heap} {a : Nat → Addr} {d : Nat → FuncData} (T : Txt K mg a d) : FnOk P w K mg base CX0 1 (a 30) (d 30) ["self", "time"] (spNoteMark (a 56) (a 55)) := by
  refine T.F_Ledger_note_mark.ok sc_Ledger_note_mark (fun vs H Q E h => ?_) (fun cdv A outer s0 H vs Q E hr h => ?_)
  · obtain ⟨x, hs, hn, A, s, N, t, rfl, hl, q⟩ := h
    rfl
  · obtain ⟨x, hs, hn, A, s, N, t, rfl, hl, q⟩ := h
    obtain ⟨dx, gsv, hx, tgs⟩ := hl.ins
    refine ⟨_, (pss_one (ps_if (PW.pt (pw_or (pt_cmpR op_isN (pe_fld (pv 0) rfl) pe_non (nomark _)) (pw_or1 (pt_cmpR op_gt (pv 1) (pe_fld (pv 0) rfl) (nomark _))))) (pss_one (ps_fld (pv 0) (pv 1) rfl)) pss_nil)), ?_⟩
    have core := hl.core
    have put : ∀ u, (match s.gm with | none => some t | some g => if g < t then some t else some g) = some t → u = (upd H x (.ins (a 56) dx (ldf (.int hs) (.int hn) (.ref A.nd) (.ref A.ud) (.bl A.le) gsv (.int s.gser) (.int t) (.ref A.wx) (.ref A.md) (.ref A.fl)))) → Q .non u := fun u e eu => by
      subst eu
      have k1 : ∀ b o, b ≠ x → H b = some o → (upd H x (.ins (a 56) dx (ldf (.int hs) (.int hn) (.ref A.nd) (.ref A.ud) (.bl A.le) gsv (.int s.gser) (.int t) (.ref A.wx) (.ref A.md) (.ref A.fl)))) b = some o := fun b o n z => by rw [upd_ne n]; exact z
      have tk1 : Tk H _ := fun b xs z => k1 b _ (ne_of z hx (by intro r; cases r)) z
      have c1 := core.atX hx (.ins (a 56) dx (ldf (.int hs) (.int hn) (.ref A.nd) (.ref A.ud) (.bl A.le) gsv (.int s.gser) (.int t) (.ref A.wx) (.ref A.md) (.ref A.fl)))
      refine q _ ⟨⟨dx, gsv, ?_, TD.tk tk1 tgs⟩, ⟨c1.nt, c1.un, c1.sh, c1.ct, c1.mv, c1.fm, c1.xw, c1.dd, c1.ll, c1.al, c1.sz⟩⟩ k1
      show _ = some (HO.ins _ dx (ldf _ _ _ _ _ _ _ (oLg (match s.gm with | none => some t | some g => if g < t then some t else some g)) _ _ _))
      rw [e]
      exact upd_same
    cases eg : s.gm with
    | none =>
      rw [eg] at hx
      refine ⟨_, rfl, x, _, dx, _, _, rfl, hx, T.cl_Ledger, T.n_Ledger_greatest_mark, ldf_greatest_mark _ _ _ _ _ _ _ _ _ _ _, rfl, _, rfl, iteBT rfl (iteT ?_)⟩
      refine ⟨_, rfl, _, rfl, x, _, dx, _, rfl, hx, T.cl_Ledger, T.n_Ledger_greatest_mark, ldf_len _ _ _ _ _ _ _ _ _ _ _, ?_⟩
      rw [ldp_greatest_mark]
      exact put _ (by rw [eg]) rfl
    | some g =>
      rw [eg] at hx
      refine ⟨_, rfl, x, _, dx, _, _, rfl, hx, T.cl_Ledger, T.n_Ledger_greatest_mark, ldf_greatest_mark _ _ _ _ _ _ _ _ _ _ _, rfl, _, rfl, iteBF rfl ?_⟩
      refine ⟨_, rfl, _, rfl, x, _, dx, _, _, rfl, hx, T.cl_Ledger, T.n_Ledger_greatest_mark, ldf_greatest_mark _ _ _ _ _ _ _ _ _ _ _, t, g, rfl, rfl, _, rfl, ?_⟩
      by_cases c : g < t
      · refine iteDT c ?_
        refine ⟨_, rfl, _, rfl, x, _, dx, _, rfl, hx, T.cl_Ledger, T.n_Ledger_greatest_mark, ldf_len _ _ _ _ _ _ _ _ _ _ _, ?_⟩
        rw [ldp_greatest_mark]
        exact put _ (by rw [eg]; show (if g < t then some t else some g) = _; rw [if_pos c]) rfl
      · refine iteDF c ?_
        refine q H ⟨⟨dx, gsv, ?_, tgs⟩, ⟨core.nt, core.un, core.sh, core.ct, core.mv, core.fm, core.xw, core.dd, core.ll, core.al, core.sz⟩⟩ fun _ _ _ e => e
        show _ = some (HO.ins _ dx (ldf _ _ _ _ _ _ _ (oLg (match s.gm with | none => some t | some g => if g < t then some t else some g)) _ _ _))
        rw [eg]
        show _ = some (HO.ins _ dx (ldf _ _ _ _ _ _ _ (oLg (if g < t then some t else some g)) _ _ _))
        rw [if_neg c]
        exact hx

theorem ok_Ledger_note_done {P : Program} {w : World} {K : PySem.W.Frag} {mg : Str → Option Value} {base : Heap} {a : Nat → Addr} {d : Nat → FuncData} (T : Txt K mg a d) (TB : Tb base mg a) : FnOk P w K mg base CX0 6 (a 31) (d 31) ["self", "entry"] (spNoteDone (a 56) (a 55) a) := by
  refine T.F_Ledger_note_done.ok sc_Ledger_note_done (fun vs H Q E h => ?_) (fun A outer s0 H vs Q E hr h => ?_)
  · obtain ⟨x, hs, hn, A, s, N, v, n, st, p, rfl, hl, hle, hv, hp, hw, hN, hT, q⟩ := h
    rfl
  · obtain ⟨x, hs, hn, A, s, N, v, n, st, p, rfl, hl, hle, hv, hp, hw, hN, hT, q⟩ := h
    obtain ⟨dx, gsv, hx, tgs⟩ := hl.ins
    refine ⟨_, (pss_cons (ps_asg (pv 1) (pg_tup (by rfl) (pgs_cons (pg_name (i := 2) sc_Ledger_note_done.nd rfl (.inl rfl)) (pgs_cons (pg_name (i := 3) sc_Ledger_note_done.nd rfl (.inl rfl)) (pgs_cons (pg_name (i := 4) sc_Ledger_note_done.nd rfl (.inl rfl)) pgs_nil))))) (pss_cons (ps_set (i := 5) sc_Ledger_note_done.nd rfl (Or.inl rfl) (pe_meth (pv 0) T.cl_Ledger T.m_Ledger_pledge_of (ok_Ledger_pledge_of T) (hr.mono (by decide)) T.b_Ledger_pledge_of .nil pass0 (pa_cons (pv 3) pa_nil))) (pss_cons (ps_dput (hu_of hr) (pe_fld (pv 0) rfl) (pv 3) (pe_tup (pa_cons (pe_glob (v := .str "done") (by rfl) (Exists.choose_spec T.g_DONE) ⟨_, rfl⟩) (pa_cons (pv 5) (pa_cons (pv 4) (pa_cons (pe_meth (pv 0) T.cl_Ledger T.m_Ledger_low_of (ok_Ledger_low_of T) (hr.mono (by decide)) T.b_Ledger_low_of .nil pass0 (pa_cons (pv 3) pa_nil)) pa_nil))))) rfl) (Evl.pss_cut (ps_expr (pe_dpop2 (pe_fld (pv 0) rfl) (pv 3) pe_non ⟨rfl, rfl, rfl, rfl⟩)) (pss_cons (ps_expr (pe_meth (pv 0) T.cl_Ledger T.m_Ledger_note_stamp (ok_Ledger_note_stamp T) (hr.mono (by decide)) T.b_Ledger_note_stamp .nil pass0 (pa_cons (pv 4) pa_nil))) (pss_cons (ps_for PassesOwn.never rfl (pi_tup (pe_call (ok_writes_in T) (hr.mono (by decide)) (by rfl) T.g_writes_in T.F_writes_in.kp T.b_writes_in .nil pass0 (pa_cons (pv 5) pa_nil))) (pg_tup (by rfl) (pgs_cons (pg_name (i := 6) sc_Ledger_note_done.nd rfl (.inl rfl)) (pgs_cons (pg_name (i := 7) sc_Ledger_note_done.nd rfl (.inl rfl)) pgs_nil))) (pss_one (ps_expr (pe_meth (pe_fld (pv 0) rfl) T.cl T.m_Shelf_put (ok_Shelf_put T) (hr.mono (by decide)) T.b_Shelf_put .nil pass0 (pa_cons (pv 6) (pa_cons (pv 4) (pa_cons (pv 7) pa_nil))))))) (pss_cons (ps_set (i := 8) sc_Ledger_note_done.nd rfl (Or.inl rfl) (pe_call (ok_move_in T) (hr.mono (by decide)) (by rfl) T.g_move_in T.F_move_in.kp T.b_move_in .nil pass0 (pa_cons (pv 5) pa_nil))) (Evl.pss_cut (ps_if (pt_cmpR op_notN (pv 8) pe_non (nomark _)) (pss_cons (ps_asg (pv 8) (pg_tup (by rfl) (pgs_cons (pg_name (i := 6) sc_Ledger_note_done.nd rfl (.inl rfl)) (pgs_cons (pg_name (i := 9) sc_Ledger_note_done.nd rfl (.inl rfl)) pgs_nil)))) (pss_one (ps_fld (pv 0) (SPL.pe_splat (pe_fld (pv 0) rfl) (pv 6) (pe_op op_cat (pe_dget2 (hu_of hr) (pe_fld (pv 0) rfl) (pv 6) (pe_lst pa_nil) ⟨rfl, rfl, rfl, rfl⟩) (pe_lst (pa_cons (pe_tup (pa_cons (pe_ix ix_tup (pv 4) pe_int (fun _ _ => rfl)) (pa_cons (pv 9) pa_nil))) pa_nil)))) rfl))) pss_nil) (pss_cons (ps_set (i := 10) sc_Ledger_note_done.nd rfl (Or.inl rfl) (pe_call (ok_form_in T) (hr.mono (by decide)) (by rfl) T.g_form_in T.F_form_in.kp T.b_form_in .nil pass0 (pa_cons (pv 5) pa_nil))) (pss_one (ps_if (pt_cmpR op_notN (pv 10) pe_non (nomark _)) (pss_one (ps_fld (pv 0) (SL.pe_sortLam (T := TTL a) (i := 0) (by rfl) T.z_sorted (pe_op op_cat (pe_fld (pv 0) rfl) (pe_lst (pa_cons (pv 10) pa_nil))) TB.t_note_done rfl (.head _) TTL.one hr rfl (by decide +kernel) (by decide +kernel) (fun _ _ _ _ _ _ => rfl) rfl rfl rfl (by decide +kernel) (by decide) (by decide)) rfl)) pss_nil))))))))))), ?_⟩
    have core := hl.core
    obtain ⟨q', xs, rfl, hq, tt⟩ := td_tup hv
    obtain ⟨_, _, rfl, t0, tt⟩ := td_cons tt
    obtain ⟨_, _, rfl, t1, tt⟩ := td_cons tt
    obtain ⟨sv, _, rfl, t2, tt⟩ := td_cons tt
    rw [td_nil tt, td_str t0, td_int t1] at hq
    refine ⟨_, rfl, q', _, rfl, SqT.of hq, rfl, _, _, rfl, _, _, rfl, _, _, rfl, rfl, ?_⟩
    refine ⟨_, rfl, x, dx, _, rfl, hx, ldf_no _ _ _ _ _ _ _ _ _ _ _ (by decide +kernel) (by decide +kernel) (by decide +kernel) (by decide +kernel) (by decide +kernel) (by decide +kernel) (by decide +kernel) (by decide +kernel) (by decide +kernel) (by decide +kernel) (by decide +kernel), _, rfl, x, hs, hn, A, s, N, n, rfl, hl, fun u tu0 => ?_⟩
    have tu0 : TD H u (oPl (s.nt n).p) := tu0
    refine ⟨_, rfl, _, rfl, _, rfl, x, dx, _, rfl, hx, ldf_no _ _ _ _ _ _ _ _ _ _ _ (by decide +kernel) (by decide +kernel) (by decide +kernel) (by decide +kernel) (by decide +kernel) (by decide +kernel) (by decide +kernel) (by decide +kernel) (by decide +kernel) (by decide +kernel) (by decide +kernel), _, rfl, x, hs, hn, A, s, N, n, rfl, hl, fun lw tlw => ⟨len4, fun t nt => ?_⟩⟩
    have tlw : TD H lw (oIn (s.nt n).low) := tlw
    have s1 : Same H (upd H t (.tup [.str "done", u, sv, lw])) := same_new (Same.refl H) nt
    have h1 : (upd H t (.tup [.str "done", u, sv, lw])) t = some (.tup [.str "done", u, sv, lw]) := upd_same
    generalize (upd H t (.tup [.str "done", u, sv, lw])) = H1 at s1 h1 ⊢
    have core1 := core.same s1
    have hx1 := s1 _ _ hx
    obtain ⟨kn, en, ln, _⟩ := core1.nt.ex
    refine ⟨_, rfl, x, _, dx, _, _, rfl, hx1, T.cl_Ledger, T.n_Ledger_notes, ldf_notes _ _ _ _ _ _ _ _ _ _ _, _, rfl, A.nd, _, rfl, DPut.k (k := Sum.inl n) en (Nat.lt_of_le_of_lt ln (Nat.lt_of_lt_of_le (show N < 1000 by omega) (by decide))), ?_⟩
    have tk1 : Tk H H1 := fun b xs e => s1 b _ e
    have c2 := core1.putNt en (n := n) (v := .ref t) (y := { s.nt n with w := some "done", st := some st }) (.tup h1 (.cons (.str _) (.cons (TD.tk tk1 tu0) (.cons (TD.tk tk1 t2) (.cons (TD.tk tk1 tlw) .nil)))))
    have ndx : A.nd ≠ x := core.nx hx _ (supC_mem.mpr (.inl rfl))
    have udx : A.ud ≠ x := core.nx hx _ (supC_mem.mpr (.inr (.inl rfl)))
    have k2 : ∀ b o, b ≠ A.nd → H1 b = some o → (upd H1 A.nd (.dK (putK kn (Sum.inl n) (.ref t)))) b = some o := fun b o n e => by rw [upd_ne n]; exact e
    have tk2 : Tk H1 (upd H1 A.nd (.dK (putK kn (Sum.inl n) (.ref t)))) := fun b xs e => k2 b _ (ne_of e en (by intro z; cases z)) e
    generalize (upd H1 A.nd (.dK (putK kn (Sum.inl n) (.ref t)))) = H2 at c2 k2 tk2 ⊢
    have hx2 := k2 _ _ (Ne.symm ndx) hx1
    have tk12 : Tk H H2 := fun b xs e => tk2 b _ (tk1 b _ e)
    have f02 : FrL x A H H2 := fun b o n1 n2 n3 e => k2 b o n2 (s1 b o e)
    obtain ⟨ku, eu, lu, nu1, nu2, gu⟩ := c2.un.ex
    refine ⟨fun σ' H' => σ' = [some (.ref x), some (.ref q'), some (.str "done"), some (.int n), some sv, some u, none, none, none, none, none] ∧ LedgerAt (a 56) (a 55) H' x hs hn A { s with nt := setN s.nt n { s.nt n with w := some "done", st := some st }, un := setN s.un n none } (N + 1) ∧ FrL x A H H' ∧ Tk H H', ?_, ?_⟩
    · refine ⟨_, rfl, x, _, dx, _, _, rfl, hx2, T.cl_Ledger, T.n_Ledger_unended, ldf_unended _ _ _ _ _ _ _ _ _ _ _, A.ud, rfl, .inl ⟨_, .inl eu⟩, _, rfl, ku, Sum.inl n, eu, rfl, fun v hv => ?_, fun hn' => ?_⟩
      · have c3 := c2.atUn (Nat.le_refl _) eu (c2.un.drop eu (n := n))
        have k3 : ∀ b o, b ≠ A.ud → H2 b = some o → (upd H2 A.ud (.dK (dropK ku (Sum.inl n)))) b = some o := fun b o n e => by rw [upd_ne n]; exact e
        have tk3 : Tk H2 (upd H2 A.ud (.dK (dropK ku (Sum.inl n)))) := fun b xs e => k3 b _ (ne_of e eu (by intro z; cases z)) e
        exact ⟨rfl, ⟨⟨dx, gsv, k3 _ _ (Ne.symm udx) hx2, TD.tk (fun b xs e => tk3 b _ (tk12 b _ e)) tgs⟩, c3⟩, fun b o n1 n2 n3 e => k3 b o n3 (f02 b o n1 n2 n3 e), fun b xs e => tk3 b _ (tk12 b _ e)⟩
      · have eun : setN s.un n none = s.un := setN_none (by have := gu n; rw [hn'] at this; exact this)
        refine ⟨rfl, ⟨⟨dx, gsv, hx2, TD.tk tk12 tgs⟩, ?_⟩, f02, tk12⟩
        show LCore _ _ _ _ { s with nt := setN s.nt n { s.nt n with w := some "done", st := some st }, un := setN s.un n none } _
        rw [eun]
        exact c2
    rintro σ' H3 ⟨rfl, hl3, f03, tk03⟩
    obtain ⟨dx3, gs3, hx3, tgs3⟩ := hl3.ins
    refine ⟨_, rfl, x, dx3, _, rfl, hx3, ldf_no _ _ _ _ _ _ _ _ _ _ _ (by decide +kernel) (by decide +kernel) (by decide +kernel) (by decide +kernel) (by decide +kernel) (by decide +kernel) (by decide +kernel) (by decide +kernel) (by decide +kernel) (by decide +kernel) (by decide +kernel), _, rfl, x, hs, hn, A, _, N + 1, sv, st, rfl, hl3, TD.tk tk03 t2, fun H4 hl4 k4 => ?_⟩
    have hl4 : LedgerAt (a 56) (a 55) H4 x hs hn A (s.done0 n st) (N + 1) := hl4
    have tk34 : Tk H3 H4 := fun b xs e => k4 b _ (ne_of e hx3 (by intro z; cases z)) e
    have tk04 : Tk H H4 := fun b xs e => tk34 b _ (tk03 b _ e)
    have f04 : FrL x A H H4 := fun b o n1 n2 n3 e => k4 b o n1 (f03 b o n1 n2 n3 e)
    have T4 : LamX.Tabs (TTL a) H4 := hl.tabs hT fun b o z e => f04 b o (fun r => z (r ▸ .head _)) (fun r => z (.tail _ (ownC_mem.mpr (.inl ⟨hle, .inl r⟩)))) (fun r => z (.tail _ (ownC_mem.mpr (.inl ⟨hle, .inr r⟩)))) e
    rw [hp] at tu0
    have tu4 : TD H4 u p.d := TD.tk tk04 tu0
    have tsv4 := TD.tk tk04 t2
    obtain ⟨sa, rfl, hsa4⟩ := st_at tsv4
    have ls4 : LStp x A H A H4 := .ofL hle f04
    refine ⟨_, rfl, u, p, rfl, tu4, fun wv twv => ?_⟩
    obtain ⟨wq, wxs, rfl, hwq, twl⟩ := td_tup twv
    have hwl : wxs.length = p.ws.length := by rw [twl.len, List.length_map]
    refine ⟨wq, rfl, ⟨_, SqT.of hwq⟩, ?_⟩
    refine for_tup (K := K) (a := wq) (xs := wxs) (fun j σ H' => ∃ (A' : LA) (v6 v7 : Option V), σ = [some (.ref x), some (.ref q'), some (.str "done"), some (.int n), some (.ref sa), some u, v6, v7, none, none, none] ∧ LedgerAt (a 56) (a 55) H' x hs hn A' { s.done0 n st with sh := putsW s.sh st (p.ws.take j) } (N + 1 + j) ∧ A'.le = false ∧ LStp x A H A' H' ∧ LamX.Tabs (TTL a) H' ∧ Tk H4 H') ⟨A, _, _, rfl, hl4, hle, ls4, T4, fun _ _ e => e⟩ (fun j σ H' _ z => by
      obtain ⟨A', _, _, _, _, _, _, _, k⟩ := z
      exact SqT.of (k _ _ hwq)) ?_ ?_
    · rintro j v0 σ H5 hj ⟨A5, v6, v7, rfl, hl5, hle5, ls5, T5, tk5⟩
      obtain ⟨d0, ed, td0⟩ := twl.getV hj
      rw [List.getElem?_map] at ed
      obtain ⟨w, hwj, rfl⟩ := Option.map_eq_some_iff.mp ed
      have hwm := List.mem_of_getElem? hwj
      have hjl := (List.getElem?_eq_some_iff.mp hwj).1
      obtain ⟨pq, _, rfl, hpq, tp⟩ := td_tup (show TD H5 v0 (wrD w) from TD.tk tk5 td0)
      obtain ⟨_, _, rfl, tp1, tp⟩ := td_cons tp
      obtain ⟨wt, _, rfl, tp2, tp⟩ := td_cons tp
      cases td_nil tp
      cases td_str tp1
      obtain ⟨wa, _, rfl, hwa, tp3⟩ := td_tup tp2
      cases td_ints tp3
      refine ⟨pq, _, rfl, SqT.of hpq, rfl, _, _, rfl, _, _, rfl, rfl, ?_⟩
      obtain ⟨dx5, gs5, hx5, tgs5⟩ := hl5.ins
      obtain ⟨dw, hwx⟩ := hl5.core.sh.ins
      have hsa5 := tk5 _ _ hsa4
      have few := hw.few
      have ect : ct A5.m = putsW s.sh st (p.ws.take j) := hl5.core.ct
      have knd : ((putsW s.sh st (p.ws.take j)).map (·.1)).Nodup := by rw [← ect, ct_nd]; exact hl5.core.sh.tab.nd
      have hnot : ¬ w.1 ∈ (p.ws.take j).map (·.1) := by
        rw [List.map_take]
        exact not_take hw.nd (by rw [List.getElem?_map, hwj]; rfl)
      have ees : esT A5.m w.1 = esC s.sh w.1 := by rw [esT_ct, ect, esC_puts hnot]
      have hlt := hw.lt w hwm
      have hmem : (esC (putsW s.sh st (p.ws.take j)) w.1).length ≤ N + 1 + j := by
        rcases esC_mem (c := putsW s.sh st (p.ws.take j)) (k := w.1) with e | e
        · rw [e]; exact Nat.zero_le _
        · exact (hl5.core.sz.2 _ e).1
      refine ⟨_, rfl, x, _, dx5, _, _, rfl, hx5, T.cl_Ledger, T.n_Ledger_worths, ldf_worths _ _ _ _ _ _ _ _ _ _ _, A5.wx, dw, _, rfl, hwx, sf_no _ _ _ _ (by decide +kernel) (by decide +kernel) (by decide +kernel) (by decide +kernel), _, rfl, _, rfl, _, rfl, A5.wx, A5.rd, A5.od, sa, wa, A5.sle, A5.sos, w.1, A5.m, _, entS st w.2, rfl, hl5.core.sh, hw.key w hwm, hsa5, hwa, hw.ent w hwm, ?_, ?_, ?_, fun rd' od' os' m' H6 hs6 hc6 st6 sp6 => ?_⟩
      · exact Nat.le_trans hl5.core.sz.1 (by omega)
      · rw [esT_ct, ect]
        exact Nat.le_trans hmem (by omega)
      · rw [ees]
        exact hlt
      have hl5' := hl5.mono (M := N + 1 + (j + 1)) (by omega)
      have c6 := hl5.core.atSh (M := N + 1 + (j + 1)) (by omega) hs6 hc6 st6 sp6 (by
        refine ⟨?_, ?_⟩
        · have e1 : m'.length = (putC (ct A5.m) w.1 (entS st w.2)).length := by rw [← hc6]; exact (ct_len m').symm
          have e2 : (putC (ct A5.m) w.1 (entS st w.2)).length ≤ (ct A5.m).length + 1 := by
            unfold putC
            split
            · rw [List.length_map]; omega
            · rw [List.length_append]; simp
          have e3 := hl5.core.sz.1
          rw [ct_len] at e2
          omega
        · rw [ect]
          refine putC_sz knd hl5.core.sz.2 fun l hl => ?_
          rw [esC_puts hnot] at hl
          have := hlt l hl
          unfold Ent.lt at this
          have e : (entS st w.2).t = st.t := rfl
          omega)
      have nx : ¬ x ∈ ownS A5.wx A5.rd A5.od A5.sle A5.sos A5.m := fun z => by
        rcases supF.mp (own_sup z) with r | r | r | ⟨q0, hq0, r⟩
        · exact hl5.core.xw r
        · rw [r, hl5.core.sh.own] at hx5; cases hx5
        · rw [r, hl5.core.sh.tab.dict] at hx5; cases hx5
        · obtain ⟨ps, hrow, _⟩ := hl5.core.sh.tab.row q0 hq0
          rw [← r, hrow] at hx5; cases hx5
      have tk56 : Tk H5 H6 := st6.tk hl5.core.sh.ntup
      have ls6 : LStp x A5 H5 { A5 with rd := rd', od := od', sle := false, sos := os', m := m' } H6 := .shelf st6 sp6
      have T6 : LamX.Tabs (TTL a) H6 := hl5.tabs T5 fun b o z e => st6.fr b o (fun r => z (.tail _ (ownC_mem.mpr (.inr r)))) e
      refine ⟨{ A5 with rd := rd', od := od', sle := false, sos := os', m := m' }, _, _, rfl, ⟨⟨dx5, gs5, st6.fr _ _ nx hx5, TD.tk tk56 tgs5⟩, ?_⟩, hle5, ls5.trans ls6, T6, fun b xs e => tk56 b _ (tk5 b _ e)⟩
      rw [putsW_take hwj, ← ect]
      exact c6
    rintro σ H5 ⟨A5, v6, v7, rfl, hl5, hle5, ls5, T5, tk5⟩
    rw [hwl, List.take_length] at hl5
    have hl5 : LedgerAt (a 56) (a 55) H5 x hs hn A5 (s.done1 n st p) (N + 6) := hl5.mono (by have := hw.few; omega)
    have tu5 := TD.tk tk5 tu4
    have hsa5 := tk5 _ _ hsa4
    have tk05 : Tk H H5 := fun b xs e => tk5 b _ (tk04 b _ e)
    rw [note_done hp] at q
    refine ⟨_, rfl, u, p, rfl, tu5, fun mv H6 s6 tmv => ?_⟩
    have hl6 := hl5.same s6
    have ls6 := ls5.same s6
    have T6 := T5.ext s6
    have tk06 : Tk H H6 := fun b xs e => s6 b _ (tk05 b _ e)
    have tu6 := TD.tk (fun b xs e => s6 b _ e) tu5
    have hsa6 := s6 _ _ hsa5
    generalize hs1 : s.done1 n st p = s1 at hl6 q
    obtain ⟨dx6, gs6, hx6, tgs6⟩ := hl6.ins
    have core6 := hl6.core
    refine ⟨fun σ' H' => ∃ (A' : LA) (w6 w8 w9 : Option V), σ' = [some (.ref x), some (.ref q'), some (.str "done"), some (.int n), some (.ref sa), some u, w6, v7, w8, w9, none] ∧ LedgerAt (a 56) (a 55) H' x hs hn A' (match p.more with | some (.move k to) => { s1 with mv := setK s1.mv k (s1.mv k ++ [(st.t, to)]) } | _ => s1) (N + 7) ∧ A'.le = false ∧ LStp x A H A' H' ∧ LamX.Tabs (TTL a) H' ∧ Tk H6 H', ?_, ?_⟩
    · cases em : p.more with
      | none =>
        rw [em] at tmv
        cases td_none tmv
        exact ⟨_, rfl, rfl, _, rfl, iteNSDl rfl ⟨A5, _, _, _, rfl, hl6.mono (by omega), hle5, ls6, T6, fun _ _ e => e⟩⟩
      | some mm =>
        cases mm with
        | form t f =>
          rw [em] at tmv
          have tmv : TD H6 mv .none := tmv
          cases td_none tmv
          exact ⟨_, rfl, rfl, _, rfl, iteNSDl rfl ⟨A5, _, _, _, rfl, hl6.mono (by omega), hle5, ls6, T6, fun _ _ e => e⟩⟩
        | move k to =>
          rw [em] at tmv
          have tmv : TD H6 mv (.tuple [.str k, .int to]) := tmv
          obtain ⟨mq, _, rfl, hmq, tm⟩ := td_tup tmv
          obtain ⟨_, _, rfl, tm1, tm⟩ := td_cons tm
          obtain ⟨_, _, rfl, tm2, tm⟩ := td_cons tm
          rw [td_nil tm, td_str tm1, td_int tm2] at hmq
          refine ⟨_, rfl, rfl, _, rfl, iteND (fun z => by cases z) ?_⟩
          refine ⟨_, rfl, mq, _, rfl, SqT.of hmq, rfl, _, _, rfl, _, _, rfl, rfl, ?_⟩
          obtain ⟨km, ekm, lkm, nkm, gkm⟩ := core6.mv.ex
          intro pd npd
          have s7 : Same H6 (upd H6 pd (.dK [])) := same_new (Same.refl H6) npd
          have h7 : (upd H6 pd (.dK [])) pd = some (.dK []) := upd_same
          generalize (upd H6 pd (.dK [])) = H7 at s7 h7 ⊢
          have hx7 := s7 _ _ hx6
          have ekm7 := s7 _ _ ekm
          have pmd : pd ≠ A5.md := Ne.symm (ne_of_none ekm npd)
          refine ⟨_, rfl, x, _, dx6, _, _, rfl, hx7, T.cl_Ledger, T.n_Ledger_moved, ldf_moved _ _ _ _ _ _ _ _ _ _ _, A5.md, km, rfl, pmd, h7, ekm7, nkm, Nat.lt_of_le_of_lt lkm (Nat.lt_of_lt_of_le (show N + 6 < 1000 by omega) (by decide)), fun q2 nq2 => ?_⟩
          have f8 : ∀ b o, H6 b = some o → (upd H7 pd (.dK km)) b = some o := fun b o e => by rw [upd_ne (ne_of_none e npd)]; exact s7 _ _ e
          have h8 : (upd H7 pd (.dK km)) pd = some (.dK km) := upd_same
          generalize (upd H7 pd (.dK km)) = H8 at nq2 f8 h8 ⊢
          have s9 : Same H8 (upd H8 q2 (.dK [])) := same_new (Same.refl H8) nq2
          have h9 : (upd H8 q2 (.dK [])) q2 = some (.dK []) := upd_same
          have q2pd : q2 ≠ pd := Ne.symm (ne_of_none h8 nq2)
          generalize (upd H8 q2 (.dK [])) = H9 at s9 h9 ⊢
          have k9 : Same H6 H9 := fun b o e => s9 _ _ (f8 _ _ e)
          have hx9 := k9 _ _ hx6
          have ekm9 := k9 _ _ ekm
          refine ⟨_, rfl, _, rfl, x, _, dx6, _, _, rfl, hx9, T.cl_Ledger, T.n_Ledger_moved, ldf_moved _ _ _ _ _ _ _ _ _ _ _, A5.md, rfl, .inl ⟨_, .inl ekm9⟩, _, rfl, (by decide : 0 ≤ sizeLine), fun l0 nl0 => ?_⟩
          have s10 : Same H9 (upd H9 l0 (.lst [])) := same_new (Same.refl H9) nl0
          have h10 : (upd H9 l0 (.lst [])) l0 = some (.lst []) := upd_same
          generalize (upd H9 l0 (.lst [])) = H10 at s10 h10 ⊢
          obtain ⟨lb, xs0, elb, hlb, txs0, lx0⟩ : ∃ lb xs0, (valV km (Sum.inr k)).getD (.ref l0) = .ref lb ∧ H10 lb = some (.lst xs0) ∧ TDAll H10 xs0 ((s1.mv k).map prD) ∧ (s1.mv k).length ≤ N + 6 := by
            have := gkm k
            cases ev : valV km (Sum.inr k) with
            | none =>
              rw [ev] at this
              rw [this]
              exact ⟨l0, [], rfl, h10, .nil, Nat.zero_le _⟩
            | some w0 =>
              rw [ev] at this
              obtain ⟨a0, y0, rfl, _, e3, e4, e5, _⟩ := this
              have k10 : Same H6 H10 := fun b o e => s10 _ _ (k9 _ _ e)
              exact ⟨a0, y0, rfl, k10 _ _ e3, TDAll.tk (fun b xs e => k10 b _ e) e4, e5⟩
          refine ⟨_, DGet.k (k := Sum.inr k) (s10 _ _ ekm9), ?_⟩
          rw [elb]
          have k10 : Same H6 H10 := fun b o e => s10 _ _ (k9 _ _ e)
          refine ⟨_, rfl, sa, _, 0, _, rfl, rfl, SqT.of (k10 _ _ hsa6), atI_nat (j := 0) rfl, _, rfl, len2, fun t3 nt3 => ?_⟩
          have s11 : Same H10 (upd H10 t3 (.tup [.int st.t, .int to])) := same_new (Same.refl H10) nt3
          have h11 : (upd H10 t3 (.tup [.int st.t, .int to])) t3 = some (.tup [.int st.t, .int to]) := upd_same
          generalize (upd H10 t3 (.tup [.int st.t, .int to])) = H11 at s11 h11 ⊢
          refine ⟨len1, fun l2 nl2 => ?_⟩
          have s12 : Same H11 (upd H11 l2 (.lst [.ref t3])) := same_new (Same.refl H11) nl2
          have h12 : (upd H11 l2 (.lst [.ref t3])) l2 = some (.lst [.ref t3]) := upd_same
          generalize (upd H11 l2 (.lst [.ref t3])) = H12 at s12 h12 ⊢
          have s1012 := s11.trans s12
          have lx := txs0.len
          rw [List.length_map] at lx
          refine ⟨lb, l2, _, _, rfl, rfl, s1012 _ _ hlb, h12, (Nat.le_trans (show xs0.length + 1 ≤ 1000 by omega) (by decide)), fun r nr => ?_⟩
          have s13 : Same H12 (upd H12 r (.lst (xs0 ++ [.ref t3]))) := same_new (Same.refl H12) nr
          have h13 : (upd H12 r (.lst (xs0 ++ [.ref t3]))) r = some (.lst (xs0 ++ [.ref t3])) := upd_same
          generalize (upd H12 r (.lst (xs0 ++ [.ref t3]))) = H13 at s13 h13 ⊢
          have s913 := s10.trans (s1012.trans s13)
          have k13 : Same H6 H13 := fun b o e => s913 _ _ (k9 _ _ e)
          have nr6 : H6 r = none := (k9.trans (s10.trans s1012)).free nr
          have h13q := s913 _ _ h9
          have h13p := s913 _ _ (s9 _ _ h8)
          refine ⟨Sum.inr k, rfl, h13q, h13p, ?_⟩
          have rq : r ≠ q2 := ne_of h13 h13q (by intro z; cases z)
          have rp : r ≠ pd := ne_of h13 h13p (by intro z; cases z)
          have xq : x ≠ q2 := ne_of (k13 _ _ hx6) h13q (by intro z; cases z)
          have xp : x ≠ pd := ne_of_none hx6 npd
          have nq6 : H6 q2 = none := by
            cases e : H6 q2 with
            | none => rfl
            | some o => rw [f8 _ _ e] at nq2; cases nq2
          have k15 : ∀ b o, H13 b = some o → b ≠ q2 → b ≠ pd → (upd (upd H13 q2 (.dK [(Sum.inr k, .ref r)])) pd (.dK (putK km (Sum.inr k) (.ref r)))) b = some o := fun b o e n1 n2 => by
            rw [upd_ne n2, upd_ne n1]
            exact e
          have h15 : (upd (upd H13 q2 (.dK [(Sum.inr k, .ref r)])) pd (.dK (putK km (Sum.inr k) (.ref r)))) pd = some (.dK (putK km (Sum.inr k) (.ref r))) := upd_same
          generalize (upd (upd H13 q2 (.dK [(Sum.inr k, .ref r)])) pd (.dK (putK km (Sum.inr k) (.ref r)))) = H15 at k15 h15 ⊢
          have k615 : Same H6 H15 := fun b o e => k15 b o (k13 _ _ e) (ne_of_none e nq6) (ne_of_none e npd)
          have hx15 := k615 _ _ hx6
          refine ⟨_, rfl, x, _, dx6, _, rfl, hx15, T.cl_Ledger, T.n_Ledger_moved, ldf_len _ _ _ _ _ _ _ _ _ _ _, ?_⟩
          rw [ldp_moved]
          have k16 : ∀ b o, b ≠ x → H15 b = some o → (upd H15 x (.ins (a 56) dx6 (ldf (.int hs) (.int hn) (.ref A5.nd) (.ref A5.ud) (.bl A5.le) gs6 (.int s1.gser) (oLg s1.gm) (.ref A5.wx) (.ref pd) (.ref A5.fl)))) b = some o := fun b o n e => by rw [upd_ne n]; exact e
          have h16 : (upd H15 x (.ins (a 56) dx6 (ldf (.int hs) (.int hn) (.ref A5.nd) (.ref A5.ud) (.bl A5.le) gs6 (.int s1.gser) (oLg s1.gm) (.ref A5.wx) (.ref pd) (.ref A5.fl)))) x = some (.ins (a 56) dx6 (ldf (.int hs) (.int hn) (.ref A5.nd) (.ref A5.ud) (.bl A5.le) gs6 (.int s1.gser) (oLg s1.gm) (.ref A5.wx) (.ref pd) (.ref A5.fl))) := upd_same
          generalize (upd H15 x (.ins (a 56) dx6 (ldf (.int hs) (.int hn) (.ref A5.nd) (.ref A5.ud) (.bl A5.le) gs6 (.int s1.gser) (oLg s1.gm) (.ref A5.wx) (.ref pd) (.ref A5.fl)))) = H16 at k16 h16 ⊢
          have k616 : ∀ b o, b ≠ x → H6 b = some o → H16 b = some o := fun b o n e => k16 b o n (k615 _ _ e)
          have tk616 : Tk H6 H16 := fun b xs e => k616 b _ (ne_of e hx6 (by intro z; cases z)) e
          have hr16 : H16 r = some (.lst (xs0 ++ [.ref t3])) := k16 _ _ (ne_of_none hx6 nr6).symm (k15 _ _ h13 rq rp)
          have k1016 : ∀ b xs, H11 b = some (.tup xs) → H16 b = some (.tup xs) := fun b xs e => by
            have e13 := (s12.trans s13) _ _ e
            have e15 := k15 b _ e13 (ne_of e13 h13q (by intro z; cases z)) (ne_of e13 h13p (by intro z; cases z))
            exact k16 b _ (ne_of e15 hx15 (by intro z; cases z)) e15
          have tk1016 : Tk H10 H16 := fun b xs e => k1016 b xs (s11 _ _ e)
          have mv16 : MvAt H16 pd (r :: A5.mls) (N + 7) (setK s1.mv k (s1.mv k ++ [(st.t, to)])) := by
            have lk := length_putK km (Sum.inr k) (.ref r)
            refine ⟨_, k16 _ _ (Ne.symm xp) h15, by omega, nodup_put nkm _ _, fun j => ?_⟩
            rw [valV_put]
            unfold setK
            by_cases c : j = k
            · subst c
              rw [if_pos rfl, if_pos rfl]
              refine ⟨r, _, rfl, .head _, hr16, ?_, ?_, by simp⟩
              · rw [List.map_append]
                exact (TDAll.tk tk1016 txs0).app (.cons (.tup (k1016 _ _ h11) (.cons (.int _) (.cons (.int _) .nil))) .nil)
              · rw [List.length_append]
                show _ + 1 ≤ _
                omega
            · rw [if_neg fun z => c (Sum.inr.inj z), if_neg c]
              have := gkm j
              cases ev : valV km (Sum.inr j) with
              | none => rw [ev] at this; exact this
              | some v =>
                rw [ev] at this
                obtain ⟨a0, y0, e1, e2, e3, e4, e5, e6⟩ := this
                exact ⟨a0, y0, e1, .tail _ e2, k616 _ _ (ne_of e3 hx6 (by intro z; cases z)) e3, TDAll.tk tk616 e4, by omega, e6⟩
          have c16 := core6.atMv (M := N + 7) (by omega) tk616 (fun c hc o e => k616 c o (core6.nx hx6 c hc) e) npd nr6 hr16 mv16
          refine ⟨{ A5 with md := pd, mls := r :: A5.mls }, _, _, _, rfl, ⟨⟨dx6, gs6, h16, TD.tk tk616 tgs6⟩, c16⟩, hle5, ls6.trans (.mvNew (fun c o n e _ => k616 c o (fun z => n (z ▸ .head _)) e) (Nw.of npd) (Nw.of nr6)), hl6.tabs T6 fun b o z e => k616 b o (fun r => z (r ▸ .head _)) e, tk616⟩
    rintro σ' H7 ⟨A7, w6, w8, w9, rfl, hl7, hle7, ls7, T7, tk67⟩
    have tk07 : Tk H H7 := fun b xs e => tk67 b _ (tk06 b _ e)
    have tu7 := TD.tk tk67 tu6
    refine ⟨_, rfl, u, p, rfl, tu7, fun fv H8 s8 tfv => ?_⟩
    have hl8 := hl7.same s8
    have ls8 := ls7.same s8
    have T8 := T7.ext s8
    have tk08 : Tk H H8 := fun b xs e => s8 b _ (tk07 b _ e)
    cases em : p.more with
    | none =>
      rw [em] at tfv hl8 q
      cases td_none tfv
      exact ⟨_, rfl, rfl, _, rfl, iteNSDl rfl (q A7 H8 (hl8.mono (by omega)) hle7 ls8 T8 tk08)⟩
    | some mm =>
      cases mm with
      | move k to =>
        rw [em] at tfv hl8 q
        have tfv : TD H8 fv .none := tfv
        cases td_none tfv
        exact ⟨_, rfl, rfl, _, rfl, iteNSDl rfl (q A7 H8 (hl8.mono (by omega)) hle7 ls8 T8 tk08)⟩
      | form t f =>
        rw [em] at tfv hl8 q
        have hl8 : LedgerAt (a 56) (a 55) H8 x hs hn A7 s1 (N + 7) := hl8
        have q : ∀ A' H', LedgerAt (a 56) (a 55) H' x hs hn A' { s1 with fm := (s1.fm ++ [(t, f)]).mergeSort keyLe } (N + 8) → A'.le = false → LStp x A H A' H' → LamX.Tabs (TTL a) H' → Tk H H' → Q .non H' := q
        have tfv : TD H8 fv (prD (t, f)) := tfv
        obtain ⟨fq, fxs, efv, _, _⟩ := td_tup (show TD H8 fv (.tuple _) from tfv)
        subst efv
        refine ⟨_, rfl, rfl, _, rfl, iteND (fun z => by cases z) ?_⟩
        obtain ⟨dx8, gs8, hx8, tgs8⟩ := hl8.ins
        have core8 := hl8.core
        obtain ⟨fx0, efl, tfx0, lfx0⟩ := core8.fm.ex
        have lfx := tfx0.len
        rw [List.length_map] at lfx
        refine ⟨_, rfl, x, _, dx8, _, _, rfl, hx8, T.cl_Ledger, T.n_Ledger_forms, ldf_forms _ _ _ _ _ _ _ _ _ _ _, _, rfl, len1, fun l nl => ?_⟩
        have s9 : Same H8 (upd H8 l (.lst [.ref fq])) := same_new (Same.refl H8) nl
        have h9 : (upd H8 l (.lst [.ref fq])) l = some (.lst [.ref fq]) := upd_same
        generalize (upd H8 l (.lst [.ref fq])) = H9 at s9 h9 ⊢
        refine ⟨A7.fl, l, _, _, rfl, rfl, s9 _ _ efl, h9, (Nat.le_trans (show fx0.length + 1 ≤ 1000 by omega) (by decide)), fun r nr => ?_⟩
        have s10 : Same H9 (upd H9 r (.lst (fx0 ++ [.ref fq]))) := same_new (Same.refl H9) nr
        have h10 : (upd H9 r (.lst (fx0 ++ [.ref fq]))) r = some (.lst (fx0 ++ [.ref fq])) := upd_same
        generalize (upd H9 r (.lst (fx0 ++ [.ref fq]))) = H10 at s10 h10 ⊢
        have k810 := s9.trans s10
        obtain ⟨ps, ep1, ep2, tps⟩ := td_pairs (H := H10) (xs := fx0 ++ [.ref fq]) (fm := s1.fm ++ [(t, f)]) (by
          rw [List.map_append]
          exact (TDAll.tk (fun b xs e => k810 b _ e) tfx0).app (.cons (TD.tk (fun b xs e => k810 b _ e) tfv) .nil))
        rw [← ep1] at h10
        refine ⟨r, ps.map (fun z => (z.1, .int z.2.1)), rfl, SqL.of (by rw [h10, List.map_map]; rfl), ?_, ?_, ?_, T8.ext k810, fun H11 pn eN T11 np => ?_⟩
        · intro x hx y hy
          rw [List.map_map] at hx hy
          obtain ⟨u, _, rfl⟩ := List.mem_map.mp hx
          obtain ⟨v, _, rfl⟩ := List.mem_map.mp hy
          rfl
        · right
          intro x hx
          rw [List.map_map] at hx
          obtain ⟨u, _, rfl⟩ := List.mem_map.mp hx
          exact ⟨by simp, fun _ => by simp⟩
        · intro b hb'
          obtain ⟨z, hz, rfl⟩ := List.mem_map.mp hb'
          obtain ⟨zq, zxs, ez, hzq, tz⟩ := td_tup (show TD H10 z.1 (.tuple [.int z.2.1, .int z.2.2]) from tps z hz)
          obtain ⟨_, _, rfl, tz1, tz⟩ := td_cons tz
          obtain ⟨_, _, rfl, tz2, tz⟩ := td_cons tz
          rw [td_nil tz, td_int tz1, td_int tz2] at hzq
          exact ⟨zq, _, _, ez, SqT.of hzq, atI_nat (j := 0) rfl, .inl ⟨_, rfl, rfl⟩⟩
        have e := List.map_mergeSort (r := PySem.W.dataLe false fun z : V × Int × Int => PyData.int z.2.1) (s := PySem.W.dataLe false (·.2)) (f := fun z : V × Int × Int => (z.1, PyData.int z.2.1)) (l := ps) fun _ _ _ _ => rfl
        have e2 := List.map_mergeSort (r := PySem.W.dataLe false fun z : V × Int × Int => PyData.int z.2.1) (s := keyLe) (f := fun z : V × Int × Int => z.2) (l := ps) fun _ _ _ _ => rfl
        have ev : ((ps.map (fun z : V × Int × Int => (z.1, PyData.int z.2.1))).mergeSort (PySem.W.dataLe false (·.2))).map (·.1) = (ps.mergeSort (PySem.W.dataLe false fun z : V × Int × Int => PyData.int z.2.1)).map (·.1) := by
          rw [← e, List.map_map]
          rfl
        rw [ev]
        rw [ep2] at e2
        have hms : ∀ z ∈ ps.mergeSort (PySem.W.dataLe false fun z : V × Int × Int => PyData.int z.2.1), z ∈ ps := fun z hz => List.mem_mergeSort.mp hz
        generalize (ps.mergeSort (PySem.W.dataLe false fun z : V × Int × Int => PyData.int z.2.1)) = qs at e2 hms ⊢
        have s12 : Same H11 (upd H11 pn (.lst (qs.map (·.1)))) := same_new (Same.refl H11) np
        have h12 : (upd H11 pn (.lst (qs.map (·.1)))) pn = some (.lst (qs.map (·.1))) := upd_same
        generalize (upd H11 pn (.lst (qs.map (·.1)))) = H12 at s12 h12 ⊢
        have x1012 : LamX.ExtN H10 H12 := eN.trans (LamX.ExtN.of s12)
        have x812 : LamX.ExtN H8 H12 := (LamX.ExtN.of k810).trans x1012
        have hx12 := x812 _ _ hx8 (fun _ z => by cases z)
        refine ⟨_, rfl, x, _, dx8, _, rfl, hx12, T.cl_Ledger, T.n_Ledger_forms, ldf_len _ _ _ _ _ _ _ _ _ _ _, ?_⟩
        rw [ldp_forms]
        have k13 : ∀ b o, b ≠ x → H12 b = some o → (upd H12 x (.ins (a 56) dx8 (ldf (.int hs) (.int hn) (.ref A7.nd) (.ref A7.ud) (.bl A7.le) gs8 (.int s1.gser) (oLg s1.gm) (.ref A7.wx) (.ref A7.md) (.ref pn)))) b = some o := fun b o n e => by rw [upd_ne n]; exact e
        have h13 : (upd H12 x (.ins (a 56) dx8 (ldf (.int hs) (.int hn) (.ref A7.nd) (.ref A7.ud) (.bl A7.le) gs8 (.int s1.gser) (oLg s1.gm) (.ref A7.wx) (.ref A7.md) (.ref pn)))) x = some (.ins (a 56) dx8 (ldf (.int hs) (.int hn) (.ref A7.nd) (.ref A7.ud) (.bl A7.le) gs8 (.int s1.gser) (oLg s1.gm) (.ref A7.wx) (.ref A7.md) (.ref pn))) := upd_same
        generalize (upd H12 x (.ins (a 56) dx8 (ldf (.int hs) (.int hn) (.ref A7.nd) (.ref A7.ud) (.bl A7.le) gs8 (.int s1.gser) (oLg s1.gm) (.ref A7.wx) (.ref A7.md) (.ref pn)))) = H13 at k13 h13 ⊢
        have k813 : ∀ b o, b ≠ x → H8 b = some o → (∀ ps, o ≠ .tbl ps) → H13 b = some o := fun b o n e nt => k13 b o n (x812 b o e nt)
        have tk813 : Tk H8 H13 := fun b xs e => k813 b _ (ne_of e hx8 (by intro z; cases z)) e (fun _ z => by cases z)
        have tk1013 : Tk H10 H13 := fun b xs e => k13 b _ (ne_of (x1012 b _ e (fun _ z => by cases z)) hx12 (by intro z; cases z)) (x1012 b _ e (fun _ z => by cases z))
        have np8 : Nw H8 pn := fun o e => by
          by_cases c : ∃ ps, o = .tbl ps
          · exact c
          · rw [eN _ _ (k810 _ _ e) (fun ps z => c ⟨ps, z⟩)] at np
            cases np
        have fm13 : FmAt H13 pn (N + 8) ((s1.fm ++ [(t, f)]).mergeSort keyLe) := by
          have pnx : pn ≠ x := fun z => by
            obtain ⟨_, r⟩ := np8 _ (z ▸ hx8)
            cases r
          refine ⟨_, k13 _ _ pnx h12, ?_, ?_⟩
          · rw [← e2]
            exact td_of_pairs fun z hz => TD.tk tk1013 (tps z (hms z hz))
          · rw [List.length_mergeSort, List.length_append]
            show _ + 1 ≤ _
            omega
        have keep : ∀ c ∈ supC A7, ∀ o, H8 c = some o → H13 c = some o := fun c hc o e => k813 c o (core8.nx hx8 c hc) e (fun ps z => by
          obtain ⟨o', e', k'⟩ := hl8.kinds c (.tail _ hc)
          rw [e] at e'
          cases e'
          rcases k' with ⟨_, _, _, r⟩ | ⟨_, r⟩ | ⟨_, r⟩ <;> rw [z] at r <;> cases r)
        have c13 := core8.atFm (M := N + 8) (by omega) tk813 keep np8 fm13
        have T13 : LamX.Tabs (TTL a) H13 := tabs_mut (T11.ext s12) fun b o e n1 _ _ => k13 b o (fun z => by
          rw [z, hx12] at e
          cases e
          exact n1 _ _ _ rfl) e
        refine q { A7 with fl := pn } H13 ⟨⟨dx8, gs8, h13, TD.tk tk813 tgs8⟩, c13⟩ hle7 (ls8.trans (.fmNew (fun c o n e nt => k813 c o (fun z => n (z ▸ .head _)) e nt) np8)) T13 fun b xs e => tk813 b _ (tk08 b _ e)

theorem ok_Ledger_note {P : Program} {w : World} {K : PySem.W.Frag} {mg : Str → Option Value} {base : Heap} {a : Nat → Addr} {d : Nat → FuncData} (T : Txt K mg a d) (TB : Tb base mg a) : FnOk P w K mg base CX0 7 (a 32) (d 32) ["self", "entry"] (spNote (a 56) (a 55) a) := by
  refine T.F_Ledger_note.ok sc_Ledger_note (fun vs H Q E h => ?_) (fun cdv A outer s0 H vs Q E hr h => ?_)
  · obtain ⟨x, hs, hn, A, s, N, v, e, rfl, hl, hv, hok, hN, hT, q⟩ := h
    rfl
  · obtain ⟨x, hs, hn, A, s, N, v, e, rfl, hl, hv, hok, hN, hT, q⟩ := h
    obtain ⟨dx, gsv, hx, tgs⟩ := hl.ins
    refine ⟨_, (pss_cons (ps_expr (pe_meth0 (pv 0) T.cl_Ledger T.m_Ledger_make_own (ok_Ledger_make_own T) (hr.mono (by decide)) T.b_Ledger_make_own .nil pass0)) (pss_cons (ps_set (i := 2) sc_Ledger_note.nd rfl (Or.inl rfl) (pe_ix ix_tup (pv 1) pe_int (fun _ _ => rfl))) (pss_one (ps_if (pt_cmpR op_eq (pv 2) (pe_glob (v := .str "pledge") (by rfl) (Exists.choose_spec T.g_PLEDGE) ⟨_, rfl⟩) (nomark _)) (pss_one (ps_expr (pe_meth (pv 0) T.cl_Ledger T.m_Ledger_note_pledge (ok_Ledger_note_pledge T) (hr.mono (by decide)) T.b_Ledger_note_pledge .nil pass0 (pa_cons (pv 1) pa_nil)))) (pss_one (ps_if (pt_cmpR op_eq (pv 2) (pe_glob (v := .str "sure") (by rfl) (Exists.choose_spec T.g_SURE) ⟨_, rfl⟩) (nomark _)) (pss_one (ps_expr (pe_meth (pv 0) T.cl_Ledger T.m_Ledger_note_sure (ok_Ledger_note_sure T) (hr.mono (by decide)) T.b_Ledger_note_sure .nil pass0 (pa_cons (pv 1) pa_nil)))) (pss_one (ps_if (pt_cmpR op_eq (pv 2) (pe_glob (v := .str "done") (by rfl) (Exists.choose_spec T.g_DONE) ⟨_, rfl⟩) (nomark _)) (pss_one (ps_expr (pe_meth (pv 0) T.cl_Ledger T.m_Ledger_note_done (ok_Ledger_note_done T TB) (hr.mono (by decide)) T.b_Ledger_note_done .nil pass0 (pa_cons (pv 1) pa_nil)))) (pss_one (ps_if (pt_cmpR op_eq (pv 2) (pe_glob (v := .str "off") (by rfl) (Exists.choose_spec T.g_OFF) ⟨_, rfl⟩) (nomark _)) (pss_one (ps_expr (pe_meth (pv 0) T.cl_Ledger T.m_Ledger_note_end (ok_Ledger_note_end T) (hr.mono (by decide)) T.b_Ledger_note_end .nil pass0 (pa_cons (pe_ix ix_tup (pv 1) pe_int (fun _ _ => rfl)) (pa_cons (pe_glob (v := .str "off") (by rfl) (Exists.choose_spec T.g_OFF) ⟨_, rfl⟩) pa_nil))))) (pss_one (ps_if (pt_cmpR op_eq (pv 2) (pe_glob (v := .str "mark") (by rfl) (Exists.choose_spec T.g_MARK) ⟨_, rfl⟩) (nomark _)) (pss_one (ps_expr (pe_meth (pv 0) T.cl_Ledger T.m_Ledger_note_mark (ok_Ledger_note_mark T) (hr.mono (by decide)) T.b_Ledger_note_mark .nil pass0 (pa_cons (pe_ix ix_tup (pv 1) pe_int (fun _ _ => rfl)) pa_nil)))) (pss_one (ps_if (pt_cmpR op_eq (pv 2) (pe_glob (v := .str "gone") (by rfl) (Exists.choose_spec T.g_GONE) ⟨_, rfl⟩) (nomark _)) (pss_one (ps_expr (pe_meth (pe_fld (pv 0) rfl) T.cl T.m_Shelf_let_go (ok_Shelf_let_go T) (hr.mono (by decide)) T.b_Shelf_let_go .nil pass0 (pa_cons (pe_ix ix_tup (pv 1) pe_int (fun _ _ => rfl)) pa_nil)))) pss_nil)))))))))))))), ?_⟩
    refine ⟨_, rfl, x, dx, _, rfl, hx, ldf_no _ _ _ _ _ _ _ _ _ _ _ (by decide +kernel) (by decide +kernel) (by decide +kernel) (by decide +kernel) (by decide +kernel) (by decide +kernel) (by decide +kernel) (by decide +kernel) (by decide +kernel) (by decide +kernel) (by decide +kernel), x, hs, hn, A, s, N, rfl, hl, fun nd ud H1 hl1 k1 o1 o2 => ?_⟩
    have ls1 : LStp x A H { A with nd := nd, ud := ud, le := false } H1 := .own k1 o1 o2
    have tk1 : Tk H H1 := fun b xs z => k1 b _ (ne_of z hx (by intro r; cases r)) z
    have T1 : LamX.Tabs (TTL a) H1 := hl.tabs hT fun b o z e => k1 b o (fun r => z (r ▸ .head _)) e
    have hv1 := TD.tk tk1 hv
    have hle1 : ({ A with nd := nd, ud := ud, le := false } : LA).le = false := rfl
    generalize ({ A with nd := nd, ud := ud, le := false } : LA) = A1 at hl1 ls1 hle1
    obtain ⟨dx1, gs1, hx1, tgs1⟩ := hl1.ins
    have fin : ∀ H2, LedgerAt (a 56) (a 55) H2 x hs hn A1 (s.note e) (N + 2) → FrL x A1 H1 H2 → Q .non H2 := fun H2 g f => q A1 H2 (g.mono (by omega)) (ls1.trans (.ofL hle1 f)) (hl1.tabs T1 fun b o z e => f b o (fun r => z (r ▸ .head _)) (fun r => z (.tail _ (ownC_mem.mpr (.inl ⟨hle1, .inl r⟩)))) (fun r => z (.tail _ (ownC_mem.mpr (.inl ⟨hle1, .inr r⟩)))) e) (fun b xs z => by
      have z1 := tk1 b xs z
      obtain ⟨kn, en, _⟩ := hl1.core.nt.ex
      obtain ⟨ku, eu, _⟩ := hl1.core.un.ex
      exact f b _ (ne_of z1 hx1 (by intro r; cases r)) (ne_of z1 en (by intro r; cases r)) (ne_of z1 eu (by intro r; cases r)) z1)
    cases e with
    | pledge p =>
      obtain ⟨q', hv', sv, rv, wv, mv, rfl, hq, t3, t4, t5, t6, t7⟩ := pl_at (show TD H1 v p.d from hv1)
      refine ⟨_, rfl, q', _, 0, _, rfl, rfl, SqT.of hq, atI_nat (j := 0) rfl, ?_⟩
      refine ⟨_, rfl, rfl, _, rfl, iteDT rfl ?_⟩
      exact ⟨_, rfl, x, dx1, _, rfl, hx1, ldf_no _ _ _ _ _ _ _ _ _ _ _ (by decide +kernel) (by decide +kernel) (by decide +kernel) (by decide +kernel) (by decide +kernel) (by decide +kernel) (by decide +kernel) (by decide +kernel) (by decide +kernel) (by decide +kernel) (by decide +kernel), _, rfl, x, hs, hn, A1, s, N, .ref q', p, rfl, hl1, hle1, hv1, by omega, fun H2 g f => fin H2 g f⟩
    | sure n st low =>
      obtain ⟨q', xs, rfl, hq, tt⟩ := td_tup (show TD H1 v (.tuple [.str "sure", .int n, st.d, .int low]) from hv1)
      obtain ⟨_, _, rfl, t0, tt⟩ := td_cons tt
      rw [td_str t0] at hq
      refine ⟨_, rfl, q', _, 0, _, rfl, rfl, SqT.of hq, atI_nat (j := 0) rfl, ?_⟩
      refine ⟨_, rfl, rfl, _, rfl, iteDF (fun z => by cases z) ⟨_, rfl, rfl, _, rfl, iteDT rfl ?_⟩⟩
      exact ⟨_, rfl, x, dx1, _, rfl, hx1, ldf_no _ _ _ _ _ _ _ _ _ _ _ (by decide +kernel) (by decide +kernel) (by decide +kernel) (by decide +kernel) (by decide +kernel) (by decide +kernel) (by decide +kernel) (by decide +kernel) (by decide +kernel) (by decide +kernel) (by decide +kernel), _, rfl, x, hs, hn, A1, s, N, .ref q', n, st, low, rfl, hl1, hle1, hv1, by omega, fun H2 g f => fin H2 g f⟩
    | done n st =>
      obtain ⟨q', xs, rfl, hq, tt⟩ := td_tup (show TD H1 v (.tuple [.str "done", .int n, st.d]) from hv1)
      obtain ⟨_, _, rfl, t0, tt⟩ := td_cons tt
      rw [td_str t0] at hq
      refine ⟨_, rfl, q', _, 0, _, rfl, rfl, SqT.of hq, atI_nat (j := 0) rfl, ?_⟩
      refine ⟨_, rfl, rfl, _, rfl, iteDF (fun z => by cases z) ⟨_, rfl, rfl, _, rfl, iteDF (fun z => by cases z) ⟨_, rfl, rfl, _, rfl, iteDT rfl ?_⟩⟩⟩
      obtain ⟨p, hp, hw⟩ := hok
      exact ⟨_, rfl, x, dx1, _, rfl, hx1, ldf_no _ _ _ _ _ _ _ _ _ _ _ (by decide +kernel) (by decide +kernel) (by decide +kernel) (by decide +kernel) (by decide +kernel) (by decide +kernel) (by decide +kernel) (by decide +kernel) (by decide +kernel) (by decide +kernel) (by decide +kernel), _, rfl, x, hs, hn, A1, s, N, .ref q', n, st, p, rfl, hl1, hle1, hv1, hp, hw, by omega, T1, fun A' H2 g _ ls2 T2 tk2 => q A' H2 g (ls1.trans ls2) T2 fun b xs z => tk2 b _ (tk1 b _ z)⟩
    | off n =>
      obtain ⟨q', xs, rfl, hq, tt⟩ := td_tup (show TD H1 v (.tuple [.str "off", .int n]) from hv1)
      obtain ⟨_, _, rfl, t0, tt⟩ := td_cons tt
      obtain ⟨_, _, rfl, t1, tt⟩ := td_cons tt
      rw [td_nil tt, td_str t0, td_int t1] at hq
      refine ⟨_, rfl, q', _, 0, _, rfl, rfl, SqT.of hq, atI_nat (j := 0) rfl, ?_⟩
      refine ⟨_, rfl, rfl, _, rfl, iteDF (fun z => by cases z) ⟨_, rfl, rfl, _, rfl, iteDF (fun z => by cases z) ⟨_, rfl, rfl, _, rfl, iteDF (fun z => by cases z) ⟨_, rfl, rfl, _, rfl, iteDT rfl ?_⟩⟩⟩⟩
      exact ⟨_, rfl, x, dx1, _, rfl, hx1, ldf_no _ _ _ _ _ _ _ _ _ _ _ (by decide +kernel) (by decide +kernel) (by decide +kernel) (by decide +kernel) (by decide +kernel) (by decide +kernel) (by decide +kernel) (by decide +kernel) (by decide +kernel) (by decide +kernel) (by decide +kernel), _, rfl, q', _, 1, _, rfl, rfl, SqT.of hq, atI_nat (j := 1) rfl, x, hs, hn, A1, s, N, n, rfl, hl1, hle1, by omega, fun H2 g f => fin H2 g f⟩
    | mark t =>
      obtain ⟨q', xs, rfl, hq, tt⟩ := td_tup (show TD H1 v (.tuple [.str "mark", .int t]) from hv1)
      obtain ⟨_, _, rfl, t0, tt⟩ := td_cons tt
      obtain ⟨_, _, rfl, t1, tt⟩ := td_cons tt
      rw [td_nil tt, td_str t0, td_int t1] at hq
      refine ⟨_, rfl, q', _, 0, _, rfl, rfl, SqT.of hq, atI_nat (j := 0) rfl, ?_⟩
      refine ⟨_, rfl, rfl, _, rfl, iteDF (fun z => by cases z) ⟨_, rfl, rfl, _, rfl, iteDF (fun z => by cases z) ⟨_, rfl, rfl, _, rfl, iteDF (fun z => by cases z) ⟨_, rfl, rfl, _, rfl, iteDF (fun z => by cases z) ⟨_, rfl, rfl, _, rfl, iteDT rfl ?_⟩⟩⟩⟩⟩
      exact ⟨_, rfl, x, dx1, _, rfl, hx1, ldf_no _ _ _ _ _ _ _ _ _ _ _ (by decide +kernel) (by decide +kernel) (by decide +kernel) (by decide +kernel) (by decide +kernel) (by decide +kernel) (by decide +kernel) (by decide +kernel) (by decide +kernel) (by decide +kernel) (by decide +kernel), _, rfl, q', _, 1, _, rfl, rfl, SqT.of hq, atI_nat (j := 1) rfl, x, hs, hn, A1, s, N, t, rfl, hl1, fun H2 g f => fin H2 (g.mono (by omega)) fun b o n1 _ _ z => f b o n1 z⟩
    | gone t =>
      obtain ⟨q', xs, rfl, hq, tt⟩ := td_tup (show TD H1 v (.tuple [.str "gone", .int t]) from hv1)
      obtain ⟨_, _, rfl, t0, tt⟩ := td_cons tt
      obtain ⟨_, _, rfl, t1, tt⟩ := td_cons tt
      rw [td_nil tt, td_str t0, td_int t1] at hq
      refine ⟨_, rfl, q', _, 0, _, rfl, rfl, SqT.of hq, atI_nat (j := 0) rfl, ?_⟩
      refine ⟨_, rfl, rfl, _, rfl, iteDF (fun z => by cases z) ⟨_, rfl, rfl, _, rfl, iteDF (fun z => by cases z) ⟨_, rfl, rfl, _, rfl, iteDF (fun z => by cases z) ⟨_, rfl, rfl, _, rfl, iteDF (fun z => by cases z) ⟨_, rfl, rfl, _, rfl, iteDF (fun z => by cases z) ⟨_, rfl, rfl, _, rfl, iteDT rfl ?_⟩⟩⟩⟩⟩⟩
      have core1 := hl1.core
      obtain ⟨dw, hwx⟩ := core1.sh.ins
      refine ⟨_, rfl, x, _, dx1, _, _, rfl, hx1, T.cl_Ledger, T.n_Ledger_worths, ldf_worths _ _ _ _ _ _ _ _ _ _ _, A1.wx, dw, _, rfl, hwx, sf_no _ _ _ _ (by decide +kernel) (by decide +kernel) (by decide +kernel) (by decide +kernel), _, rfl, q', _, 1, _, rfl, rfl, SqT.of hq, atI_nat (j := 1) rfl, A1.wx, A1.rd, A1.od, A1.sle, A1.sos, A1.m, _, t, rfl, core1.sh, LgK_o _, Nat.le_trans core1.sz.1 (by omega), ?_, fun rd' od' os' m' H2 hs2 hc2 st2 sp2 => ?_⟩
      · intro p hp
        have := core1.sz.2 (p.1, p.2.2) (by rw [← core1.ct]; exact List.mem_map.mpr ⟨p, hp, rfl⟩)
        exact ⟨Nat.le_trans this.1 (by omega), this.2⟩
      rw [lgMax_o] at hs2
      have nx : ¬ x ∈ ownS A1.wx A1.rd A1.od A1.sle A1.sos A1.m := fun z => by
        rcases supF.mp (own_sup z) with r | r | r | ⟨q0, hq0, r⟩
        · exact core1.xw r
        · rw [r, core1.sh.own] at hx1; cases hx1
        · rw [r, core1.sh.tab.dict] at hx1; cases hx1
        · obtain ⟨ps, hrow, _⟩ := core1.sh.tab.row q0 hq0
          rw [← r, hrow] at hx1; cases hx1
      have tk12 : Tk H1 H2 := st2.tk core1.sh.ntup
      have c2 := core1.atSh (M := N) (Nat.le_refl _) hs2 hc2 st2 sp2 (by
        refine ⟨?_, ?_⟩
        · have e1 : m'.length = (goC t (ct A1.m)).length := by rw [← hc2]; exact (ct_len m').symm
          rw [e1]
          unfold goC
          rw [List.length_map, ct_len]
          exact core1.sz.1
        · rw [core1.ct]
          exact goC_sz core1.sz.2)
      rw [core1.ct] at c2
      refine q { A1 with rd := rd', od := od', sle := false, sos := os', m := m' } H2 ⟨⟨dx1, gs1, st2.fr _ _ nx hx1, TD.tk tk12 tgs1⟩, c2.mono (by omega)⟩ (ls1.trans (.shelf st2 sp2)) (hl1.tabs T1 fun b o z e => st2.fr b o (fun r => z (.tail _ (ownC_mem.mpr (.inr r)))) e) fun b xs z => tk12 b _ (tk1 b _ z)

theorem ok_Ledger___init__ {P : Program} {w : World} {K : PySem.W.Frag} {mg : Str → Option Value} {base : Heap} {a : Nat → Addr} {d : Nat → FuncData} (T : Txt K mg a d) : FnOk P w K mg base CX0 4 (a 33) (d 33) ["self", "house", "houses"] (spLInit (a 56) (a 55)) := by
  refine T.F_Ledger___init__.ok (CX := CX0) sc_Ledger___init__ (fun vs H Q E h => ?_) (fun cdv A outer s0 H vs Q E hr h => ?_)
  · obtain ⟨x, dx, hs, hn, rfl, hx, q⟩ := h
    rfl
  · obtain ⟨x, dx, hs, hn, rfl, hx, q⟩ := h
    refine ⟨_, PSs.nox (pss_cons (ps_fld (pv 0) (pv 1) rfl) (pss_cons (ps_fld (pv 0) (pv 2) rfl) (pss_cons (ps_fld (pv 0) pe_dnewK rfl) (pss_cons (ps_fld (pv 0) pe_dnewK rfl) (pss_cons (ps_fld (pv 0) pe_bl rfl) (pss_cons (ps_fld (pv 0) pe_non rfl) (pss_cons (ps_fld (pv 0) pe_int rfl) (pss_cons (ps_fld (pv 0) pe_non rfl) (pss_cons (ps_fld (pv 0) (pe_make0 T.m_Shelf___init__ (ok_Shelf___init__ T) (hr.mono (by decide)) (by rfl) T.g_Shelf T.b_Shelf___init__ .nil pass0) rfl) (pss_cons (ps_fld (pv 0) pe_dnewK rfl) (pss_one (ps_fld (pv 0) (pe_lst pa_nil) rfl)))))))))))), ?_⟩
    have Hx0 := hx
    have K0 : ∀ b o, b ≠ x → H b = some o → H b = some o := fun _ _ _ e => e
    refine ⟨_, rfl, _, rfl, x, _, dx, _, rfl, Hx0, T.cl_Ledger, T.n_Ledger_at_house, (by decide), ?_⟩
    have Hx1 : (upd H x (.ins (a 56) dx (putF "at_house" (.int hs) ([])))) x = some (.ins (a 56) dx (putF "at_house" (.int hs) ([]))) := upd_same
    have W1 : ∀ b o, b ≠ x → H b = some o → (upd H x (.ins (a 56) dx (putF "at_house" (.int hs) ([])))) b = some o := fun b o n e => by rw [upd_ne n]; exact e
    have F1 : ∀ b, b ≠ x → (upd H x (.ins (a 56) dx (putF "at_house" (.int hs) ([])))) b = none → H b = none := fun b n e => by rw [upd_ne n] at e; exact e
    generalize (upd H x (.ins (a 56) dx (putF "at_house" (.int hs) ([])))) = G1 at Hx1 W1 F1 ⊢
    have K1 : ∀ b o, b ≠ x → H b = some o → G1 b = some o := fun b o n e => W1 b o n (K0 b o n e)
    refine ⟨_, rfl, _, rfl, x, _, dx, _, rfl, Hx1, T.cl_Ledger, T.n_Ledger_many_houses, Nat.lt_of_le_of_lt (few_up few0 _ _) (by decide), ?_⟩
    have Hx2 : (upd G1 x (.ins (a 56) dx (putF "many_houses" (.int hn) (putF "at_house" (.int hs) ([]))))) x = some (.ins (a 56) dx (putF "many_houses" (.int hn) (putF "at_house" (.int hs) ([])))) := upd_same
    have W2 : ∀ b o, b ≠ x → G1 b = some o → (upd G1 x (.ins (a 56) dx (putF "many_houses" (.int hn) (putF "at_house" (.int hs) ([]))))) b = some o := fun b o n e => by rw [upd_ne n]; exact e
    have F2 : ∀ b, b ≠ x → (upd G1 x (.ins (a 56) dx (putF "many_houses" (.int hn) (putF "at_house" (.int hs) ([]))))) b = none → G1 b = none := fun b n e => by rw [upd_ne n] at e; exact e
    generalize (upd G1 x (.ins (a 56) dx (putF "many_houses" (.int hn) (putF "at_house" (.int hs) ([]))))) = G2 at Hx2 W2 F2 ⊢
    have K2 : ∀ b o, b ≠ x → H b = some o → G2 b = some o := fun b o n e => W2 b o n (K1 b o n e)
    intro u_notes nu_notes
    have xu_notes : x ≠ u_notes := ne_of_none Hx2 nu_notes
    have S3 : Same G2 (upd G2 u_notes (.dK [])) := same_new (Same.refl _) nu_notes
    have hu_notes : (upd G2 u_notes (.dK [])) u_notes = some (.dK []) := upd_same
    have F3 : ∀ b, (upd G2 u_notes (.dK [])) b = none → G2 b = none := fun b e => S3.free e
    generalize (upd G2 u_notes (.dK [])) = G3 at S3 hu_notes F3 ⊢
    have Hx3 := S3 _ _ Hx2
    have K3 : ∀ b o, b ≠ x → H b = some o → G3 b = some o := fun b o n e => S3 _ _ (K2 b o n e)
    refine ⟨_, rfl, x, _, dx, _, rfl, Hx3, T.cl_Ledger, T.n_Ledger_notes, Nat.lt_of_le_of_lt (few_up (few_up few0 _ _) _ _) (by decide), ?_⟩
    have Hx4 : (upd G3 x (.ins (a 56) dx (putF "notes" (.ref u_notes) (putF "many_houses" (.int hn) (putF "at_house" (.int hs) ([])))))) x = some (.ins (a 56) dx (putF "notes" (.ref u_notes) (putF "many_houses" (.int hn) (putF "at_house" (.int hs) ([]))))) := upd_same
    have W4 : ∀ b o, b ≠ x → G3 b = some o → (upd G3 x (.ins (a 56) dx (putF "notes" (.ref u_notes) (putF "many_houses" (.int hn) (putF "at_house" (.int hs) ([])))))) b = some o := fun b o n e => by rw [upd_ne n]; exact e
    have F4 : ∀ b, b ≠ x → (upd G3 x (.ins (a 56) dx (putF "notes" (.ref u_notes) (putF "many_houses" (.int hn) (putF "at_house" (.int hs) ([])))))) b = none → G3 b = none := fun b n e => by rw [upd_ne n] at e; exact e
    generalize (upd G3 x (.ins (a 56) dx (putF "notes" (.ref u_notes) (putF "many_houses" (.int hn) (putF "at_house" (.int hs) ([])))))) = G4 at Hx4 W4 F4 ⊢
    have K4 : ∀ b o, b ≠ x → H b = some o → G4 b = some o := fun b o n e => W4 b o n (K3 b o n e)
    intro u_unended nu_unended
    have xu_unended : x ≠ u_unended := ne_of_none Hx4 nu_unended
    have S5 : Same G4 (upd G4 u_unended (.dK [])) := same_new (Same.refl _) nu_unended
    have hu_unended : (upd G4 u_unended (.dK [])) u_unended = some (.dK []) := upd_same
    have F5 : ∀ b, (upd G4 u_unended (.dK [])) b = none → G4 b = none := fun b e => S5.free e
    generalize (upd G4 u_unended (.dK [])) = G5 at S5 hu_unended F5 ⊢
    have Hx5 := S5 _ _ Hx4
    have K5 : ∀ b o, b ≠ x → H b = some o → G5 b = some o := fun b o n e => S5 _ _ (K4 b o n e)
    refine ⟨_, rfl, x, _, dx, _, rfl, Hx5, T.cl_Ledger, T.n_Ledger_unended, Nat.lt_of_le_of_lt (few_up (few_up (few_up few0 _ _) _ _) _ _) (by decide), ?_⟩
    have Hx6 : (upd G5 x (.ins (a 56) dx (putF "unended" (.ref u_unended) (putF "notes" (.ref u_notes) (putF "many_houses" (.int hn) (putF "at_house" (.int hs) ([]))))))) x = some (.ins (a 56) dx (putF "unended" (.ref u_unended) (putF "notes" (.ref u_notes) (putF "many_houses" (.int hn) (putF "at_house" (.int hs) ([])))))) := upd_same
    have W6 : ∀ b o, b ≠ x → G5 b = some o → (upd G5 x (.ins (a 56) dx (putF "unended" (.ref u_unended) (putF "notes" (.ref u_notes) (putF "many_houses" (.int hn) (putF "at_house" (.int hs) ([]))))))) b = some o := fun b o n e => by rw [upd_ne n]; exact e
    have F6 : ∀ b, b ≠ x → (upd G5 x (.ins (a 56) dx (putF "unended" (.ref u_unended) (putF "notes" (.ref u_notes) (putF "many_houses" (.int hn) (putF "at_house" (.int hs) ([]))))))) b = none → G5 b = none := fun b n e => by rw [upd_ne n] at e; exact e
    generalize (upd G5 x (.ins (a 56) dx (putF "unended" (.ref u_unended) (putF "notes" (.ref u_notes) (putF "many_houses" (.int hn) (putF "at_house" (.int hs) ([]))))))) = G6 at Hx6 W6 F6 ⊢
    have K6 : ∀ b o, b ≠ x → H b = some o → G6 b = some o := fun b o n e => W6 b o n (K5 b o n e)
    refine ⟨_, rfl, x, _, dx, _, rfl, Hx6, T.cl_Ledger, T.n_Ledger_lent, Nat.lt_of_le_of_lt (few_up (few_up (few_up (few_up few0 _ _) _ _) _ _) _ _) (by decide), ?_⟩
    have Hx7 : (upd G6 x (.ins (a 56) dx (putF "lent" (.bl false) (putF "unended" (.ref u_unended) (putF "notes" (.ref u_notes) (putF "many_houses" (.int hn) (putF "at_house" (.int hs) ([])))))))) x = some (.ins (a 56) dx (putF "lent" (.bl false) (putF "unended" (.ref u_unended) (putF "notes" (.ref u_notes) (putF "many_houses" (.int hn) (putF "at_house" (.int hs) ([]))))))) := upd_same
    have W7 : ∀ b o, b ≠ x → G6 b = some o → (upd G6 x (.ins (a 56) dx (putF "lent" (.bl false) (putF "unended" (.ref u_unended) (putF "notes" (.ref u_notes) (putF "many_houses" (.int hn) (putF "at_house" (.int hs) ([])))))))) b = some o := fun b o n e => by rw [upd_ne n]; exact e
    have F7 : ∀ b, b ≠ x → (upd G6 x (.ins (a 56) dx (putF "lent" (.bl false) (putF "unended" (.ref u_unended) (putF "notes" (.ref u_notes) (putF "many_houses" (.int hn) (putF "at_house" (.int hs) ([])))))))) b = none → G6 b = none := fun b n e => by rw [upd_ne n] at e; exact e
    generalize (upd G6 x (.ins (a 56) dx (putF "lent" (.bl false) (putF "unended" (.ref u_unended) (putF "notes" (.ref u_notes) (putF "many_houses" (.int hn) (putF "at_house" (.int hs) ([])))))))) = G7 at Hx7 W7 F7 ⊢
    have K7 : ∀ b o, b ≠ x → H b = some o → G7 b = some o := fun b o n e => W7 b o n (K6 b o n e)
    refine ⟨_, rfl, x, _, dx, _, rfl, Hx7, T.cl_Ledger, T.n_Ledger_greatest_stamp, Nat.lt_of_le_of_lt (few_up (few_up (few_up (few_up (few_up few0 _ _) _ _) _ _) _ _) _ _) (by decide), ?_⟩
    have Hx8 : (upd G7 x (.ins (a 56) dx (putF "greatest_stamp" (.non) (putF "lent" (.bl false) (putF "unended" (.ref u_unended) (putF "notes" (.ref u_notes) (putF "many_houses" (.int hn) (putF "at_house" (.int hs) ([]))))))))) x = some (.ins (a 56) dx (putF "greatest_stamp" (.non) (putF "lent" (.bl false) (putF "unended" (.ref u_unended) (putF "notes" (.ref u_notes) (putF "many_houses" (.int hn) (putF "at_house" (.int hs) ([])))))))) := upd_same
    have W8 : ∀ b o, b ≠ x → G7 b = some o → (upd G7 x (.ins (a 56) dx (putF "greatest_stamp" (.non) (putF "lent" (.bl false) (putF "unended" (.ref u_unended) (putF "notes" (.ref u_notes) (putF "many_houses" (.int hn) (putF "at_house" (.int hs) ([]))))))))) b = some o := fun b o n e => by rw [upd_ne n]; exact e
    have F8 : ∀ b, b ≠ x → (upd G7 x (.ins (a 56) dx (putF "greatest_stamp" (.non) (putF "lent" (.bl false) (putF "unended" (.ref u_unended) (putF "notes" (.ref u_notes) (putF "many_houses" (.int hn) (putF "at_house" (.int hs) ([]))))))))) b = none → G7 b = none := fun b n e => by rw [upd_ne n] at e; exact e
    generalize (upd G7 x (.ins (a 56) dx (putF "greatest_stamp" (.non) (putF "lent" (.bl false) (putF "unended" (.ref u_unended) (putF "notes" (.ref u_notes) (putF "many_houses" (.int hn) (putF "at_house" (.int hs) ([]))))))))) = G8 at Hx8 W8 F8 ⊢
    have K8 : ∀ b o, b ≠ x → H b = some o → G8 b = some o := fun b o n e => W8 b o n (K7 b o n e)
    refine ⟨_, rfl, x, _, dx, _, rfl, Hx8, T.cl_Ledger, T.n_Ledger_greatest_serial, Nat.lt_of_le_of_lt (few_up (few_up (few_up (few_up (few_up (few_up few0 _ _) _ _) _ _) _ _) _ _) _ _) (by decide), ?_⟩
    have Hx9 : (upd G8 x (.ins (a 56) dx (putF "greatest_serial" (.int 0) (putF "greatest_stamp" (.non) (putF "lent" (.bl false) (putF "unended" (.ref u_unended) (putF "notes" (.ref u_notes) (putF "many_houses" (.int hn) (putF "at_house" (.int hs) ([])))))))))) x = some (.ins (a 56) dx (putF "greatest_serial" (.int 0) (putF "greatest_stamp" (.non) (putF "lent" (.bl false) (putF "unended" (.ref u_unended) (putF "notes" (.ref u_notes) (putF "many_houses" (.int hn) (putF "at_house" (.int hs) ([]))))))))) := upd_same
    have W9 : ∀ b o, b ≠ x → G8 b = some o → (upd G8 x (.ins (a 56) dx (putF "greatest_serial" (.int 0) (putF "greatest_stamp" (.non) (putF "lent" (.bl false) (putF "unended" (.ref u_unended) (putF "notes" (.ref u_notes) (putF "many_houses" (.int hn) (putF "at_house" (.int hs) ([])))))))))) b = some o := fun b o n e => by rw [upd_ne n]; exact e
    have F9 : ∀ b, b ≠ x → (upd G8 x (.ins (a 56) dx (putF "greatest_serial" (.int 0) (putF "greatest_stamp" (.non) (putF "lent" (.bl false) (putF "unended" (.ref u_unended) (putF "notes" (.ref u_notes) (putF "many_houses" (.int hn) (putF "at_house" (.int hs) ([])))))))))) b = none → G8 b = none := fun b n e => by rw [upd_ne n] at e; exact e
    generalize (upd G8 x (.ins (a 56) dx (putF "greatest_serial" (.int 0) (putF "greatest_stamp" (.non) (putF "lent" (.bl false) (putF "unended" (.ref u_unended) (putF "notes" (.ref u_notes) (putF "many_houses" (.int hn) (putF "at_house" (.int hs) ([])))))))))) = G9 at Hx9 W9 F9 ⊢
    have K9 : ∀ b o, b ≠ x → H b = some o → G9 b = some o := fun b o n e => W9 b o n (K8 b o n e)
    refine ⟨_, rfl, x, _, dx, _, rfl, Hx9, T.cl_Ledger, T.n_Ledger_greatest_mark, Nat.lt_of_le_of_lt (few_up (few_up (few_up (few_up (few_up (few_up (few_up few0 _ _) _ _) _ _) _ _) _ _) _ _) _ _) (by decide), ?_⟩
    have Hx10 : (upd G9 x (.ins (a 56) dx (putF "greatest_mark" (.non) (putF "greatest_serial" (.int 0) (putF "greatest_stamp" (.non) (putF "lent" (.bl false) (putF "unended" (.ref u_unended) (putF "notes" (.ref u_notes) (putF "many_houses" (.int hn) (putF "at_house" (.int hs) ([]))))))))))) x = some (.ins (a 56) dx (putF "greatest_mark" (.non) (putF "greatest_serial" (.int 0) (putF "greatest_stamp" (.non) (putF "lent" (.bl false) (putF "unended" (.ref u_unended) (putF "notes" (.ref u_notes) (putF "many_houses" (.int hn) (putF "at_house" (.int hs) ([])))))))))) := upd_same
    have W10 : ∀ b o, b ≠ x → G9 b = some o → (upd G9 x (.ins (a 56) dx (putF "greatest_mark" (.non) (putF "greatest_serial" (.int 0) (putF "greatest_stamp" (.non) (putF "lent" (.bl false) (putF "unended" (.ref u_unended) (putF "notes" (.ref u_notes) (putF "many_houses" (.int hn) (putF "at_house" (.int hs) ([]))))))))))) b = some o := fun b o n e => by rw [upd_ne n]; exact e
    have F10 : ∀ b, b ≠ x → (upd G9 x (.ins (a 56) dx (putF "greatest_mark" (.non) (putF "greatest_serial" (.int 0) (putF "greatest_stamp" (.non) (putF "lent" (.bl false) (putF "unended" (.ref u_unended) (putF "notes" (.ref u_notes) (putF "many_houses" (.int hn) (putF "at_house" (.int hs) ([]))))))))))) b = none → G9 b = none := fun b n e => by rw [upd_ne n] at e; exact e
    generalize (upd G9 x (.ins (a 56) dx (putF "greatest_mark" (.non) (putF "greatest_serial" (.int 0) (putF "greatest_stamp" (.non) (putF "lent" (.bl false) (putF "unended" (.ref u_unended) (putF "notes" (.ref u_notes) (putF "many_houses" (.int hn) (putF "at_house" (.int hs) ([]))))))))))) = G10 at Hx10 W10 F10 ⊢
    have K10 : ∀ b o, b ≠ x → H b = some o → G10 b = some o := fun b o n e => W10 b o n (K9 b o n e)
    intro y dy ny ndy ney
    have S11 : Same G10 (upd (upd G10 dy (.own y)) y (.ins (a 55) dy [])) := fun b o e => by
      rw [upd_ne (ne_of_none e ny), upd_ne (ne_of_none e ndy)]
      exact e
    refine ⟨y, dy, rfl, upd_same, fun rd od G11b nrd nod kb hsy => ⟨rfl, ?_⟩⟩
    have xy : x ≠ y := ne_of_none Hx10 ny
    have frd : G10 rd = none := S11.free nrd
    have fod : G10 od = none := S11.free nod
    have Sb : Same G10 G11b := fun b o e => kb b o (ne_of_none e ny) (S11 b o e)
    have F11 : ∀ b, G11b b = none → G10 b = none := fun b e => Sb.free e
    have Hx11 := Sb _ _ Hx10
    have K11 : ∀ b o, b ≠ x → H b = some o → G11b b = some o := fun b o n e => Sb _ _ (K10 b o n e)
    clear S11
    refine ⟨_, rfl, x, _, dx, _, rfl, Hx11, T.cl_Ledger, T.n_Ledger_worths, Nat.lt_of_le_of_lt (few_up (few_up (few_up (few_up (few_up (few_up (few_up (few_up few0 _ _) _ _) _ _) _ _) _ _) _ _) _ _) _ _) (by decide), ?_⟩
    have Hx12 : (upd G11b x (.ins (a 56) dx (putF "worths" (.ref y) (putF "greatest_mark" (.non) (putF "greatest_serial" (.int 0) (putF "greatest_stamp" (.non) (putF "lent" (.bl false) (putF "unended" (.ref u_unended) (putF "notes" (.ref u_notes) (putF "many_houses" (.int hn) (putF "at_house" (.int hs) ([])))))))))))) x = some (.ins (a 56) dx (putF "worths" (.ref y) (putF "greatest_mark" (.non) (putF "greatest_serial" (.int 0) (putF "greatest_stamp" (.non) (putF "lent" (.bl false) (putF "unended" (.ref u_unended) (putF "notes" (.ref u_notes) (putF "many_houses" (.int hn) (putF "at_house" (.int hs) ([]))))))))))) := upd_same
    have W12 : ∀ b o, b ≠ x → G11b b = some o → (upd G11b x (.ins (a 56) dx (putF "worths" (.ref y) (putF "greatest_mark" (.non) (putF "greatest_serial" (.int 0) (putF "greatest_stamp" (.non) (putF "lent" (.bl false) (putF "unended" (.ref u_unended) (putF "notes" (.ref u_notes) (putF "many_houses" (.int hn) (putF "at_house" (.int hs) ([])))))))))))) b = some o := fun b o n e => by rw [upd_ne n]; exact e
    have F12 : ∀ b, b ≠ x → (upd G11b x (.ins (a 56) dx (putF "worths" (.ref y) (putF "greatest_mark" (.non) (putF "greatest_serial" (.int 0) (putF "greatest_stamp" (.non) (putF "lent" (.bl false) (putF "unended" (.ref u_unended) (putF "notes" (.ref u_notes) (putF "many_houses" (.int hn) (putF "at_house" (.int hs) ([])))))))))))) b = none → G11b b = none := fun b n e => by rw [upd_ne n] at e; exact e
    generalize (upd G11b x (.ins (a 56) dx (putF "worths" (.ref y) (putF "greatest_mark" (.non) (putF "greatest_serial" (.int 0) (putF "greatest_stamp" (.non) (putF "lent" (.bl false) (putF "unended" (.ref u_unended) (putF "notes" (.ref u_notes) (putF "many_houses" (.int hn) (putF "at_house" (.int hs) ([])))))))))))) = G12 at Hx12 W12 F12 ⊢
    have K12 : ∀ b o, b ≠ x → H b = some o → G12 b = some o := fun b o n e => W12 b o n (K11 b o n e)
    intro u_moved nu_moved
    have xu_moved : x ≠ u_moved := ne_of_none Hx12 nu_moved
    have S13 : Same G12 (upd G12 u_moved (.dK [])) := same_new (Same.refl _) nu_moved
    have hu_moved : (upd G12 u_moved (.dK [])) u_moved = some (.dK []) := upd_same
    have F13 : ∀ b, (upd G12 u_moved (.dK [])) b = none → G12 b = none := fun b e => S13.free e
    generalize (upd G12 u_moved (.dK [])) = G13 at S13 hu_moved F13 ⊢
    have Hx13 := S13 _ _ Hx12
    have K13 : ∀ b o, b ≠ x → H b = some o → G13 b = some o := fun b o n e => S13 _ _ (K12 b o n e)
    refine ⟨_, rfl, x, _, dx, _, rfl, Hx13, T.cl_Ledger, T.n_Ledger_moved, Nat.lt_of_le_of_lt (few_up (few_up (few_up (few_up (few_up (few_up (few_up (few_up (few_up few0 _ _) _ _) _ _) _ _) _ _) _ _) _ _) _ _) _ _) (by decide), ?_⟩
    have Hx14 : (upd G13 x (.ins (a 56) dx (putF "moved" (.ref u_moved) (putF "worths" (.ref y) (putF "greatest_mark" (.non) (putF "greatest_serial" (.int 0) (putF "greatest_stamp" (.non) (putF "lent" (.bl false) (putF "unended" (.ref u_unended) (putF "notes" (.ref u_notes) (putF "many_houses" (.int hn) (putF "at_house" (.int hs) ([]))))))))))))) x = some (.ins (a 56) dx (putF "moved" (.ref u_moved) (putF "worths" (.ref y) (putF "greatest_mark" (.non) (putF "greatest_serial" (.int 0) (putF "greatest_stamp" (.non) (putF "lent" (.bl false) (putF "unended" (.ref u_unended) (putF "notes" (.ref u_notes) (putF "many_houses" (.int hn) (putF "at_house" (.int hs) ([])))))))))))) := upd_same
    have W14 : ∀ b o, b ≠ x → G13 b = some o → (upd G13 x (.ins (a 56) dx (putF "moved" (.ref u_moved) (putF "worths" (.ref y) (putF "greatest_mark" (.non) (putF "greatest_serial" (.int 0) (putF "greatest_stamp" (.non) (putF "lent" (.bl false) (putF "unended" (.ref u_unended) (putF "notes" (.ref u_notes) (putF "many_houses" (.int hn) (putF "at_house" (.int hs) ([]))))))))))))) b = some o := fun b o n e => by rw [upd_ne n]; exact e
    have F14 : ∀ b, b ≠ x → (upd G13 x (.ins (a 56) dx (putF "moved" (.ref u_moved) (putF "worths" (.ref y) (putF "greatest_mark" (.non) (putF "greatest_serial" (.int 0) (putF "greatest_stamp" (.non) (putF "lent" (.bl false) (putF "unended" (.ref u_unended) (putF "notes" (.ref u_notes) (putF "many_houses" (.int hn) (putF "at_house" (.int hs) ([]))))))))))))) b = none → G13 b = none := fun b n e => by rw [upd_ne n] at e; exact e
    generalize (upd G13 x (.ins (a 56) dx (putF "moved" (.ref u_moved) (putF "worths" (.ref y) (putF "greatest_mark" (.non) (putF "greatest_serial" (.int 0) (putF "greatest_stamp" (.non) (putF "lent" (.bl false) (putF "unended" (.ref u_unended) (putF "notes" (.ref u_notes) (putF "many_houses" (.int hn) (putF "at_house" (.int hs) ([]))))))))))))) = G14 at Hx14 W14 F14 ⊢
    have K14 : ∀ b o, b ≠ x → H b = some o → G14 b = some o := fun b o n e => W14 b o n (K13 b o n e)
    refine ⟨(by decide : 0 ≤ sizeLine), fun u_forms nu_forms => ?_⟩
    have xu_forms : x ≠ u_forms := ne_of_none Hx14 nu_forms
    have S15 : Same G14 (upd G14 u_forms (.lst [])) := same_new (Same.refl _) nu_forms
    have hu_forms : (upd G14 u_forms (.lst [])) u_forms = some (.lst []) := upd_same
    have F15 : ∀ b, (upd G14 u_forms (.lst [])) b = none → G14 b = none := fun b e => S15.free e
    generalize (upd G14 u_forms (.lst [])) = G15 at S15 hu_forms F15 ⊢
    have Hx15 := S15 _ _ Hx14
    have K15 : ∀ b o, b ≠ x → H b = some o → G15 b = some o := fun b o n e => S15 _ _ (K14 b o n e)
    refine ⟨_, rfl, x, _, dx, _, rfl, Hx15, T.cl_Ledger, T.n_Ledger_forms, Nat.lt_of_le_of_lt (few_up (few_up (few_up (few_up (few_up (few_up (few_up (few_up (few_up (few_up few0 _ _) _ _) _ _) _ _) _ _) _ _) _ _) _ _) _ _) _ _) (by decide), ?_⟩
    have Hx16 : (upd G15 x (.ins (a 56) dx (putF "forms" (.ref u_forms) (putF "moved" (.ref u_moved) (putF "worths" (.ref y) (putF "greatest_mark" (.non) (putF "greatest_serial" (.int 0) (putF "greatest_stamp" (.non) (putF "lent" (.bl false) (putF "unended" (.ref u_unended) (putF "notes" (.ref u_notes) (putF "many_houses" (.int hn) (putF "at_house" (.int hs) ([])))))))))))))) x = some (.ins (a 56) dx (putF "forms" (.ref u_forms) (putF "moved" (.ref u_moved) (putF "worths" (.ref y) (putF "greatest_mark" (.non) (putF "greatest_serial" (.int 0) (putF "greatest_stamp" (.non) (putF "lent" (.bl false) (putF "unended" (.ref u_unended) (putF "notes" (.ref u_notes) (putF "many_houses" (.int hn) (putF "at_house" (.int hs) ([]))))))))))))) := upd_same
    have W16 : ∀ b o, b ≠ x → G15 b = some o → (upd G15 x (.ins (a 56) dx (putF "forms" (.ref u_forms) (putF "moved" (.ref u_moved) (putF "worths" (.ref y) (putF "greatest_mark" (.non) (putF "greatest_serial" (.int 0) (putF "greatest_stamp" (.non) (putF "lent" (.bl false) (putF "unended" (.ref u_unended) (putF "notes" (.ref u_notes) (putF "many_houses" (.int hn) (putF "at_house" (.int hs) ([])))))))))))))) b = some o := fun b o n e => by rw [upd_ne n]; exact e
    have F16 : ∀ b, b ≠ x → (upd G15 x (.ins (a 56) dx (putF "forms" (.ref u_forms) (putF "moved" (.ref u_moved) (putF "worths" (.ref y) (putF "greatest_mark" (.non) (putF "greatest_serial" (.int 0) (putF "greatest_stamp" (.non) (putF "lent" (.bl false) (putF "unended" (.ref u_unended) (putF "notes" (.ref u_notes) (putF "many_houses" (.int hn) (putF "at_house" (.int hs) ([])))))))))))))) b = none → G15 b = none := fun b n e => by rw [upd_ne n] at e; exact e
    generalize (upd G15 x (.ins (a 56) dx (putF "forms" (.ref u_forms) (putF "moved" (.ref u_moved) (putF "worths" (.ref y) (putF "greatest_mark" (.non) (putF "greatest_serial" (.int 0) (putF "greatest_stamp" (.non) (putF "lent" (.bl false) (putF "unended" (.ref u_unended) (putF "notes" (.ref u_notes) (putF "many_houses" (.int hn) (putF "at_house" (.int hs) ([])))))))))))))) = G16 at Hx16 W16 F16 ⊢
    have K16 : ∀ b o, b ≠ x → H b = some o → G16 b = some o := fun b o n e => W16 b o n (K15 b o n e)
    have L16 : ∀ b o, b ≠ x → G16 b = some o → G16 b = some o := fun _ _ _ e => e
    have L15 : ∀ b o, b ≠ x → G15 b = some o → G16 b = some o := fun b o n e => L16 b o n (W16 _ _ n e)
    have L14 : ∀ b o, b ≠ x → G14 b = some o → G16 b = some o := fun b o n e => L15 b o n (S15 _ _ e)
    have L13 : ∀ b o, b ≠ x → G13 b = some o → G16 b = some o := fun b o n e => L14 b o n (W14 _ _ n e)
    have L12 : ∀ b o, b ≠ x → G12 b = some o → G16 b = some o := fun b o n e => L13 b o n (S13 _ _ e)
    have L11 : ∀ b o, b ≠ x → G11b b = some o → G16 b = some o := fun b o n e => L12 b o n (W12 _ _ n e)
    have L10 : ∀ b o, b ≠ x → G10 b = some o → G16 b = some o := fun b o n e => L11 b o n (Sb _ _ e)
    have L9 : ∀ b o, b ≠ x → G9 b = some o → G16 b = some o := fun b o n e => L10 b o n (W10 _ _ n e)
    have L8 : ∀ b o, b ≠ x → G8 b = some o → G16 b = some o := fun b o n e => L9 b o n (W9 _ _ n e)
    have L7 : ∀ b o, b ≠ x → G7 b = some o → G16 b = some o := fun b o n e => L8 b o n (W8 _ _ n e)
    have L6 : ∀ b o, b ≠ x → G6 b = some o → G16 b = some o := fun b o n e => L7 b o n (W7 _ _ n e)
    have L5 : ∀ b o, b ≠ x → G5 b = some o → G16 b = some o := fun b o n e => L6 b o n (W6 _ _ n e)
    have L4 : ∀ b o, b ≠ x → G4 b = some o → G16 b = some o := fun b o n e => L5 b o n (S5 _ _ e)
    have L3 : ∀ b o, b ≠ x → G3 b = some o → G16 b = some o := fun b o n e => L4 b o n (W4 _ _ n e)
    have L2 : ∀ b o, b ≠ x → G2 b = some o → G16 b = some o := fun b o n e => L3 b o n (S3 _ _ e)
    have L1 : ∀ b o, b ≠ x → G1 b = some o → G16 b = some o := fun b o n e => L2 b o n (W2 _ _ n e)
    have L0 : ∀ b o, b ≠ x → H b = some o → G16 b = some o := fun b o n e => L1 b o n (W1 _ _ n e)
    have D0 : ∀ b, b ≠ x → H b = none → H b = none := fun _ _ e => e
    have D1 : ∀ b, b ≠ x → G1 b = none → H b = none := fun b n e => D0 b n (F1 b n e)
    have D2 : ∀ b, b ≠ x → G2 b = none → H b = none := fun b n e => D1 b n (F2 b n e)
    have D3 : ∀ b, b ≠ x → G3 b = none → H b = none := fun b n e => D2 b n (F3 b e)
    have D4 : ∀ b, b ≠ x → G4 b = none → H b = none := fun b n e => D3 b n (F4 b n e)
    have D5 : ∀ b, b ≠ x → G5 b = none → H b = none := fun b n e => D4 b n (F5 b e)
    have D6 : ∀ b, b ≠ x → G6 b = none → H b = none := fun b n e => D5 b n (F6 b n e)
    have D7 : ∀ b, b ≠ x → G7 b = none → H b = none := fun b n e => D6 b n (F7 b n e)
    have D8 : ∀ b, b ≠ x → G8 b = none → H b = none := fun b n e => D7 b n (F8 b n e)
    have D9 : ∀ b, b ≠ x → G9 b = none → H b = none := fun b n e => D8 b n (F9 b n e)
    have D10 : ∀ b, b ≠ x → G10 b = none → H b = none := fun b n e => D9 b n (F10 b n e)
    have D11 : ∀ b, b ≠ x → G11b b = none → H b = none := fun b n e => D10 b n (F11 b e)
    have D12 : ∀ b, b ≠ x → G12 b = none → H b = none := fun b n e => D11 b n (F12 b n e)
    have D13 : ∀ b, b ≠ x → G13 b = none → H b = none := fun b n e => D12 b n (F13 b e)
    have D14 : ∀ b, b ≠ x → G14 b = none → H b = none := fun b n e => D13 b n (F14 b n e)
    have D15 : ∀ b, b ≠ x → G15 b = none → H b = none := fun b n e => D14 b n (F15 b e)
    have D16 : ∀ b, b ≠ x → G16 b = none → H b = none := fun b n e => D15 b n (F16 b n e)
    have xrd : x ≠ rd := ne_of_none Hx10 frd
    have xod : x ≠ od := ne_of_none Hx10 fod
    rw [ldf_new] at Hx16
    have hsN := hsy.keep (H' := G16) (fun b xs e => L11 b _ (ne_of e Hx11 (by intro z; cases z)) e) fun c hc o e => L11 c o (by
      rcases supF.mp hc with r | r | r | ⟨_, r, _⟩
      · exact r ▸ xy.symm
      · exact r ▸ xod.symm
      · exact r ▸ xrd.symm
      · cases r) e
    refine q ⟨u_notes, u_unended, y, u_moved, u_forms, false, rd, od, false, [], [], []⟩ _ ⟨⟨dx, .non, Hx16, .non⟩, ⟨⟨[], (W16 _ _ xu_notes.symm (S15 _ _ (W14 _ _ xu_notes.symm (S13 _ _ (W12 _ _ xu_notes.symm (Sb _ _ (W10 _ _ xu_notes.symm (W9 _ _ xu_notes.symm (W8 _ _ xu_notes.symm (W7 _ _ xu_notes.symm (W6 _ _ xu_notes.symm (S5 _ _ (W4 _ _ xu_notes.symm hu_notes))))))))))))), Nat.zero_le _, fun n => rfl⟩, ⟨[], (W16 _ _ xu_unended.symm (S15 _ _ (W14 _ _ xu_unended.symm (S13 _ _ (W12 _ _ xu_unended.symm (Sb _ _ (W10 _ _ xu_unended.symm (W9 _ _ xu_unended.symm (W8 _ _ xu_unended.symm (W7 _ _ xu_unended.symm (W6 _ _ xu_unended.symm hu_unended))))))))))), Nat.zero_le _, List.nodup_nil, (fun k h => by cases h), fun n => rfl⟩, hsN, rfl, ⟨[], (W16 _ _ xu_moved.symm (S15 _ _ (W14 _ _ xu_moved.symm hu_moved))), Nat.zero_le _, List.nodup_nil, fun k => rfl⟩, ⟨[], (W16 _ _ xu_forms.symm hu_forms), .nil, Nat.zero_le _⟩, xy, dd_of (ne_of_none (W4 _ _ xu_notes.symm hu_notes) nu_unended) (ne_of_none (W12 _ _ xu_notes.symm (Sb _ _ (W10 _ _ xu_notes.symm (W9 _ _ xu_notes.symm (W8 _ _ xu_notes.symm (W7 _ _ xu_notes.symm (W6 _ _ xu_notes.symm (S5 _ _ (W4 _ _ xu_notes.symm hu_notes))))))))) nu_moved) (ne_of_none (W10 _ _ xu_notes.symm (W9 _ _ xu_notes.symm (W8 _ _ xu_notes.symm (W7 _ _ xu_notes.symm (W6 _ _ xu_notes.symm (S5 _ _ (W4 _ _ xu_notes.symm hu_notes))))))) frd) (ne_of_none (W10 _ _ xu_notes.symm (W9 _ _ xu_notes.symm (W8 _ _ xu_notes.symm (W7 _ _ xu_notes.symm (W6 _ _ xu_notes.symm (S5 _ _ (W4 _ _ xu_notes.symm hu_notes))))))) fod) (ne_of_none (W12 _ _ xu_unended.symm (Sb _ _ (W10 _ _ xu_unended.symm (W9 _ _ xu_unended.symm (W8 _ _ xu_unended.symm (W7 _ _ xu_unended.symm (W6 _ _ xu_unended.symm hu_unended))))))) nu_moved) (ne_of_none (W10 _ _ xu_unended.symm (W9 _ _ xu_unended.symm (W8 _ _ xu_unended.symm (W7 _ _ xu_unended.symm (W6 _ _ xu_unended.symm hu_unended))))) frd) (ne_of_none (W10 _ _ xu_unended.symm (W9 _ _ xu_unended.symm (W8 _ _ xu_unended.symm (W7 _ _ xu_unended.symm (W6 _ _ xu_unended.symm hu_unended))))) fod) (ne_of_none (W12 _ _ xrd.symm hsy.tab.dict) nu_moved).symm (ne_of_none (W12 _ _ xod.symm hsy.own) nu_moved).symm hsy.nod.symm, ⟨(by simp), (fun c h => by cases h)⟩, (fun c h => by cases h), ⟨Nat.zero_le _, fun p h => by cases h⟩⟩⟩ rfl K16 fun c hc => ?_
    rcases supC_mem.mp hc with r | r | r | r | r | r
    · exact r ▸ (D2 _ xu_notes.symm nu_notes)
    · exact r ▸ (D4 _ xu_unended.symm nu_unended)
    · exact r ▸ (D12 _ xu_moved.symm nu_moved)
    · exact r ▸ (D14 _ xu_forms.symm nu_forms)
    · cases r
    rcases supF.mp r with r | r | r | ⟨_, r, _⟩
    · exact r ▸ D10 _ xy.symm ny
    · exact r ▸ D10 _ xod.symm fod
    · exact r ▸ D10 _ xrd.symm frd
    · cases r

theorem ok_last_up_to {P : Program} {w : World} {K : PySem.W.Frag} {mg : Str → Option Value} {base : Heap} {a : Nat → Addr} {d : Nat → FuncData} (T : Txt K mg a d) : FnOk P w K mg base CX0 1 (a 34) (d 34) ["rows", "time", "otherwise"] (spLastUp K) := by
  refine T.F_last_up_to.ok sc_last_up_to (fun vs H Q E h => ?_) (fun cdv A outer s0 H vs Q E hr h => ?_)
  · obtain ⟨l, zs, t, o, rfl, hl, hz, q⟩ := h
    rfl
  · obtain ⟨l, zs, t, o, rfl, hl, hz, q⟩ := h
    refine ⟨_, (pss_cons (ps_for PassesOwn.never rfl (pi_reversed (by rfl) T.z_reversed (pa_cons (pv 0) pa_nil)) (pg_tup (by rfl) (pgs_cons (pg_name (i := 3) sc_last_up_to.nd rfl (.inl rfl)) (pgs_cons (pg_name (i := 4) sc_last_up_to.nd rfl (.inl rfl)) pgs_nil))) (pss_one (ps_if (pt_cmpR op_le (pv 3) (pv 1) (nomark _)) (pss_one (ps_ret (pv 4))) pss_nil))) (pss_one (ps_ret (pv 2)))), ?_⟩
    refine ⟨_, rfl, l, _, rfl, hl, ?_⟩
    have key : ∀ (i : Nat) (z : V × Int × V), zs[zs.length - 1 - i]? = some z → i < zs.length → (zs.reverse)[i]? = some z := fun i z hz hi => by
      rw [List.getElem?_reverse hi]
      exact hz
    refine for_it (walk_rev (K := K) (a := l) (xs := zs.map (·.1))) (fun i σ H' => H' = H ∧ (∃ x y, σ = [some (.ref l), some (.int t), some o, x, y]) ∧ ∀ z ∈ zs.reverse.take i, ¬ z.2.1 ≤ t) ⟨rfl, ⟨none, none, rfl⟩, fun z h => by cases h⟩ (fun i σ H' _ z => by rw [z.1]; exact hl) ?_ ?_
    · rintro i x σ H1 H' hi ⟨rfl, ⟨x1, y1, rfl⟩, hno⟩ ⟨rfl, hx⟩
      rw [List.length_map] at hi hx
      rw [List.getElem?_map] at hx
      cases ez : zs[zs.length - 1 - i]? with
      | none => rw [ez] at hx; cases hx
      | some z =>
        rw [ez] at hx
        cases hx
        obtain ⟨p, e, hp⟩ := hz z (List.mem_of_getElem? ez)
        refine ⟨p, _, e, hp, rfl, _, _, rfl, _, _, rfl, rfl, _, rfl, _, rfl, z.2.1, t, rfl, rfl, _, rfl, ?_⟩
        have hr := key i z ez hi
        by_cases c : z.2.1 ≤ t
        · refine iteDT c ⟨_, rfl, ?_⟩
          have e2 : (lastUp (zs.map (·.2)) t) = some z.2.2 := by
            unfold lastUp
            rw [← List.map_reverse]
            have : (zs.reverse.map (·.2)).find? (fun p => decide (p.1 ≤ t)) = some z.2 := by
              rw [List.find?_map]
              have : zs.reverse.find? ((fun p : Int × V => decide (p.1 ≤ t)) ∘ fun z => z.2) = some z := by
                have sp : zs.reverse = zs.reverse.take i ++ (z :: zs.reverse.drop (i + 1)) := by
                  have hlt := (List.getElem?_eq_some_iff.mp hr).1
                  have h2 := (List.getElem?_eq_some_iff.mp hr).2
                  rw [← h2, List.getElem_cons_drop, List.take_append_drop]
                rw [sp, List.find?_append]
                have : (zs.reverse.take i).find? ((fun p : Int × V => decide (p.1 ≤ t)) ∘ fun z => z.2) = none := by
                  rw [List.find?_eq_none]
                  intro y hy
                  simpa using hno y hy
                rw [this, List.find?_cons]
                have : ((fun p : Int × V => decide (p.1 ≤ t)) ∘ fun z : V × Int × V => z.2) z = true := decide_eq_true c
                rw [this]
                rfl
              rw [this]
              rfl
            rw [this]
            rfl
          rw [e2] at q
          exact q
        · refine iteDF c ⟨rfl, ⟨_, _, rfl⟩, fun y hy => ?_⟩
          rw [List.take_add_one, hr] at hy
          rcases List.mem_append.mp hy with hy | hy
          · exact hno y hy
          · cases List.mem_singleton.mp hy
            exact c
    · rintro σ H' ⟨rfl, ⟨x1, y1, rfl⟩, hno⟩
      refine ⟨_, rfl, ?_⟩
      rw [List.length_map, ← List.length_reverse, List.take_length] at hno
      have e2 : (lastUp (zs.map (·.2)) t) = none := by
        unfold lastUp
        rw [← List.map_reverse, List.find?_map]
        have : zs.reverse.find? ((fun p : Int × V => decide (p.1 ≤ t)) ∘ fun z => z.2) = none := by
          rw [List.find?_eq_none]
          intro y hy
          simpa using hno y hy
        rw [this]
        rfl
      rw [e2] at q
      exact q

theorem ok_first_house {P : Program} {w : World} {K : PySem.W.Frag} {mg : Str → Option Value} {base : Heap} {a : Nat → Addr} {d : Nat → FuncData} (T : Txt K mg a d) : FnOk P w K mg base CX0 1 (a 35) (d 35) ["key", "houses"] spFirst0 := by
  refine T.F_first_house.ok sc_first_house (fun vs H Q E h => ?_) (fun cdv A outer s0 H vs Q E hr h => ?_)
  · obtain ⟨k, hn, rfl, hkl, h0, q⟩ := h
    rfl
  · obtain ⟨k, hn, rfl, hkl, h0, q⟩ := h
    refine ⟨_, (pss_one (ps_ret (pe_op op_mod (pe_op op_sub (pe_callB (cr_sum rfl) (by rfl) T.z_sum (by decide +kernel) (pa_cons (pe_lc (own := [("sign", 2)]) (g := gName 2) (by rfl) sc_first_house.nd (pi_str (pv 0)) (blkOk_by (own := [("sign", 2)]) (N := ["key", "houses", "sign"]) (sc := defScope s_first_house) (by decide +kernel)) (fun _ _ _ _ _ => (pg_name (i := 2) sc_first_house.nd rfl (.inl rfl))) (fun _ _ _ _ _ => pts_nil) (fun _ _ _ _ _ => (pe_callB call_ord (by rfl) T.z_ord (by decide +kernel) (pa_cons (pv 2) pa_nil)))) pa_nil)) (pe_op op_mul (pe_glob (v := .int (97)) (by rfl) (Exists.choose_spec T.g_FIRST_LETTER) ⟨_, rfl⟩) (pe_callB call_len_str (by rfl) T.z_len PySem.boot_len (pa_cons (pv 0) pa_nil)))) (pv 1)))), ?_⟩
    refine ⟨_, rfl, k, rfl, fun D nD => ?_⟩
    have sz : k.cps.size = k.cps.toList.length := rfl
    refine lc_it walk_str (fun i H' => Same H H' ∧ H' D = some (.lst ((((k.cps.toList.take i).map fun c : Nat => (c : Int))).map V.int))) ⟨same_new (Same.refl H) nD, upd_same⟩ (fun _ _ _ _ => trivial) ?_ ?_
    · rintro i x H2' H2 hi ⟨s2, hD⟩ ⟨rfl, c, hc, rfl⟩
      have hc' : k.cps.toList[i]? = some c := by simpa using hc
      refine ⟨rfl, _, rfl, _, rfl, rfl, ?_⟩
      refine ⟨_, hD, ?_, fun b o e => ?_, ?_⟩
      · rw [List.length_map, List.length_map]
        exact Nat.lt_of_le_of_lt (List.length_take_le' _ _) (Nat.lt_of_le_of_lt hkl (by decide))
      · rw [upd_ne (ne_of_none e nD)]
        exact s2 b o e
      · rw [upd_same, List.take_add_one, hc', List.map_append, List.map_append]
        rfl
    · rintro H2 ⟨s2, hD⟩
      rw [sz, List.take_length] at hD
      have hk2 : k.length ≤ sizeLine := by
        show k.cps.size ≤ sizeLine
        rw [sz]
        exact Nat.le_trans hkl (by decide)
      refine ⟨D, _, rfl, SqL.of hD, _, rfl, k, rfl, hk2, _, _, rfl, rfl, .inl ⟨by decide, by decide⟩, _, _, rfl, rfl, _, rfl, _, _, rfl, rfl, h0, ?_⟩
      have e1 : (((k.cps.toList.map fun c : Nat => (c : Int))).sum - 97 * (k.length : Int)) = sumK k := by
        have : (k.length : Int) = (k.cps.toList.length : Int) := rfl
        rw [this]
        exact sum_sub _
      show Q (.int ((((k.cps.toList.map fun c : Nat => (c : Int))).sum - 97 * (k.length : Int)) % hn)) H2
      rw [e1]
      exact q H2 s2

theorem ok_Ledger_house_of {P : Program} {w : World} {K : PySem.W.Frag} {mg : Str → Option Value} {base : Heap} {a : Nat → Addr} {d : Nat → FuncData} (T : Txt K mg a d) : FnOk P w K mg base CX0 2 (a 36) (d 36) ["self", "key"] (spHouseOf (a 56) (a 55)) := by
  refine T.F_Ledger_house_of.ok sc_Ledger_house_of (fun vs H Q E h => ?_) (fun cdv A outer s0 H vs Q E hr h => ?_)
  · obtain ⟨x, hs, hn, A, s, N, k, rfl, hl, hkl, h0, q⟩ := h
    rfl
  · obtain ⟨x, hs, hn, A, s, N, k, rfl, hl, hkl, h0, q⟩ := h
    obtain ⟨dx, gsv, hx, tgs⟩ := hl.ins
    refine ⟨_, (pss_cons (ps_set (i := 2) sc_Ledger_house_of.nd rfl (Or.inl rfl) (pe_dget1 (hu_of hr) (pe_fld (pv 0) rfl) (pv 1) ⟨rfl, rfl, rfl, rfl⟩)) (pss_one (ps_ret (pe_ifExp (pt_truth (pv 2) (by intro _; rfl)) (pe_ix ix_tup (pe_ix ix_list (pv 2) (pe_un un_neg pe_int) (fun _ _ => rfl)) pe_int (fun _ _ => rfl)) (pe_call (ok_first_house T) (hr.mono (by decide)) (by rfl) T.g_first_house T.F_first_house.kp T.b_first_house .nil pass0 (pa_cons (pv 1) (pa_cons (pe_fld (pv 0) rfl) pa_nil))))))), ?_⟩
    obtain ⟨kv, e, lk, nd, g⟩ := hl.core.mv.ex
    refine ⟨_, rfl, x, _, dx, _, _, rfl, hx, T.cl_Ledger, T.n_Ledger_moved, ldf_moved _ _ _ _ _ _ _ _ _ _ _, A.md, rfl, .inl ⟨kv, .inl e⟩, _, rfl, valV kv (Sum.inr k), DGet.k (k := Sum.inr k) e, ?_⟩
    have gk := g k
    cases ev : valV kv (Sum.inr k) with
    | none =>
      rw [ev] at gk
      refine ⟨_, rfl, false, rfl, iteF ⟨_, rfl, _, rfl, x, _, dx, _, _, rfl, hx, T.cl_Ledger, T.n_Ledger_many_houses, ldf_many_houses _ _ _ _ _ _ _ _ _ _ _, k, hn, rfl, hkl, h0, fun H1 s1 => ?_⟩⟩
      have := q H1 s1
      have gk : s.mv k = [] := gk
      rw [gk] at this
      exact this
    | some v =>
      rw [ev] at gk
      obtain ⟨a, xs, rfl, _, hxs, t, _, ne⟩ := gk
      rcases List.eq_nil_or_concat (s.mv k) with z | ⟨ps, p, z⟩
      · exact absurd z ne
      · rw [List.concat_eq_append] at z
        rw [z, List.map_append] at t
        obtain ⟨ys, w, rfl, tw⟩ := td_last t
        obtain ⟨qw, zs, rfl, hq, tz⟩ := td_tup tw
        obtain ⟨_, _, rfl, t0, tz⟩ := td_cons tz
        obtain ⟨_, _, rfl, t1, tz⟩ := td_cons tz
        rw [td_nil tz, td_int t0, td_int t1] at hq
        refine ⟨_, rfl, true, .inl ⟨_, SqL.of hxs, by cases ys <;> rfl⟩, iteT ⟨_, rfl, _, rfl, a, _, _, _, rfl, rfl, SqL.of hxs, atI_last _ _, qw, _, 1, _, rfl, rfl, SqT.of hq, atI_nat (j := 1) rfl, ?_⟩⟩
        have := q H (Same.refl H)
        rw [z, List.getLast?_concat] at this
        exact this

theorem ok_Ledger_house_at {P : Program} {w : World} {K : PySem.W.Frag} {mg : Str → Option Value} {base : Heap} {a : Nat → Addr} {d : Nat → FuncData} (T : Txt K mg a d) : FnOk P w K mg base CX0 2 (a 37) (d 37) ["self", "key", "time"] (spHouseAt (a 56) (a 55)) := by
  refine T.F_Ledger_house_at.ok sc_Ledger_house_at (fun vs H Q E h => ?_) (fun cdv A outer s0 H vs Q E hr h => ?_)
  · obtain ⟨x, hs, hn, A, s, N, k, t, rfl, hl, hkl, h0, q⟩ := h
    rfl
  · obtain ⟨x, hs, hn, A, s, N, k, t, rfl, hl, hkl, h0, q⟩ := h
    obtain ⟨dx, gsv, hx, tgs⟩ := hl.ins
    refine ⟨_, (pss_cons (ps_set (i := 3) sc_Ledger_house_at.nd rfl (Or.inl rfl) (pe_call (ok_last_up_to T) (hr.mono (by decide)) (by rfl) T.g_last_up_to T.F_last_up_to.kp T.b_last_up_to .nil pass0 (pa_cons (pe_dget2 (hu_of hr) (pe_fld (pv 0) rfl) (pv 1) (pe_lst pa_nil) ⟨rfl, rfl, rfl, rfl⟩) (pa_cons (pv 2) (pa_cons pe_non pa_nil))))) (pss_one (ps_ret (pe_ifExp (pt_cmpR op_isN (pv 3) pe_non (nomark _)) (pe_call (ok_first_house T) (hr.mono (by decide)) (by rfl) T.g_first_house T.F_first_house.kp T.b_first_house .nil pass0 (pa_cons (pv 1) (pa_cons (pe_fld (pv 0) rfl) pa_nil))) (pv 3))))), ?_⟩
    obtain ⟨kv, e, lk, nd, g⟩ := hl.core.mv.ex
    refine ⟨_, rfl, x, _, dx, _, _, rfl, hx, T.cl_Ledger, T.n_Ledger_moved, ldf_moved _ _ _ _ _ _ _ _ _ _ _, A.md, rfl, .inl ⟨kv, .inl e⟩, _, rfl, Nat.zero_le _, fun L nL => ?_⟩
    have s1 : Same H (upd H L (.lst [])) := same_new (Same.refl H) nL
    have hL : (upd H L (.lst [])) L = some (.lst []) := upd_same
    generalize (upd H L (.lst [])) = H1 at s1 hL ⊢
    refine ⟨valV kv (Sum.inr k), DGet.k (k := Sum.inr k) (s1 _ _ e), ?_⟩
    have hx1 := s1 _ _ hx
    have gk := g k
    have fin : ∀ o : Option Int, o = lastUp (s.mv k) t → (tRet (tIf (tTest (tOp (fun x y H Q => y = V.non ∧ Q (V.bl (decide (x = V.non))) H) (tVar 3) (tC V.non))) (tCall spFirst0 [] E0 (tCons (tVar 1) (tCons (tFld K (tVar 0) "many_houses") tNil))) (tVar 3))) { nx := fun x H' => Q V.non H', rt := Q } [some (.ref x), some (.str k), some (.int t), some (oLg o)] H1 := fun o eo => by
      have q1 := q
      rw [← eo] at q1
      cases o with
      | none => exact ⟨_, rfl, rfl, _, rfl, iteDT rfl ⟨_, rfl, _, rfl, x, _, dx, _, _, rfl, hx1, T.cl_Ledger, T.n_Ledger_many_houses, ldf_many_houses _ _ _ _ _ _ _ _ _ _ _, k, hn, rfl, hkl, h0, fun H2 s2 => q1 H2 (s1.trans s2)⟩⟩
      | some w => exact ⟨_, rfl, rfl, _, rfl, iteDF (fun z => by cases z) ⟨_, rfl, q1 H1 s1⟩⟩
    cases ev : valV kv (Sum.inr k) with
    | none =>
      rw [ev] at gk
      have gk : s.mv k = [] := gk
      refine ⟨_, rfl, L, [], t, .non, rfl, SqL.of hL, fun z hz => (by cases hz), ?_⟩
      exact fin none (by rw [gk]; rfl)
    | some v =>
      rw [ev] at gk
      obtain ⟨a, xs, rfl, _, hxs, tt, _, ne⟩ := gk
      obtain ⟨zs, e1, e2, e3⟩ := prs_at (K := K) (TDAll.tk (fun c ys z => s1 _ _ z) tt)
      refine ⟨_, rfl, a, zs, t, .non, rfl, SqL.of (by rw [e1]; exact s1 _ _ hxs), e3, ?_⟩
      rw [e2, lastUp_map]
      have : (Option.map V.int (lastUp (s.mv k) t)).getD .non = oLg (lastUp (s.mv k) t) := by cases lastUp (s.mv k) t <;> rfl
      rw [this]
      exact fin _ rfl

theorem ok_l_bag {P : Program} {w : World} {K : PySem.W.Frag} {mg : Str → Option Value} {base : Heap} {a : Nat → Addr} {d : Nat → FuncData} (T : Txt K mg a d) : FnOk P w K mg base CX0 1 (a 38) (d 38) ["_law_script", "_law_k"] (spBag K) := by
  refine T.F_l_bag.ok sc_l_bag (fun vs H Q E h => ?_) (fun cdv A outer s0 H vs Q E hr h => ?_)
  · obtain ⟨l, ns, k, rfl, hS, hk0, hk1, q⟩ := h
    rfl
  · obtain ⟨l, ns, k, rfl, hS, hk0, hk1, q⟩ := h
    obtain ⟨k, rfl⟩ := Int.eq_ofNat_of_zero_le hk0
    refine ⟨_, (pss_cons (ps_set (i := 2) sc_l_bag.nd rfl (Or.inl rfl) pe_int) (pss_cons (ps_if (pt_cmpR op_lt (pv 1) (pe_callB call_len_seq (by rfl) T.z_len PySem.boot_len (pa_cons (pv 0) pa_nil)) (nomark _)) (pss_one (ps_set (i := 2) sc_l_bag.nd rfl (Or.inl rfl) (pe_ix ix_list (pv 0) (pv 1) (fun _ _ => rfl)))) pss_nil) (pss_cons (ps_set (i := 3) sc_l_bag.nd rfl (Or.inl rfl) pe_int) (pss_cons (ps_if (pt_cmpR op_ge (pv 2) (pe_op op_pow pe_int pe_int) (nomark _)) (pss_one (ps_set (i := 3) sc_l_bag.nd rfl (Or.inl rfl) (pv 2))) pss_nil) (pss_one (ps_ret (pe_lst (pa_cons (pv 3) (pa_cons (pe_op op_mod (pe_op op_pow (pe_op op_add (pe_op op_add (pe_op op_mod (pv 2) pe_int) (pe_op op_mul pe_int (pv 1))) pe_int) pe_int) pe_int) pa_nil))))))))), ?_⟩
    have fin : ∀ cell great : Int, ∀ p4, H p4 = none → BagAt (upd H p4 (.lst [.int great, .int ((cell % 998244353 + 7368787 * (k : Int) + 41) ^ (3 : Int).toNat % 2147483629)])) p4 := fun cell great p4 n4 =>
      ⟨_, _, upd_same, Int.emod_nonneg _ (by decide), Int.lt_trans (Int.emod_lt_of_pos _ (by decide)) (by decide)⟩
    have pw : ∀ cell : Int, (cell % 998244353 + 7368787 * (k : Int) + 41).natAbs < 2 ^ 64 := fun cell => by
      have h1 := Int.emod_nonneg cell (show (998244353 : Int) ≠ 0 by decide)
      have h2 := Int.emod_lt_of_pos cell (show (0 : Int) < 998244353 by decide)
      have e : (2 : Nat) ^ 64 = 18446744073709551616 := by decide
      rw [e]
      omega
    refine ⟨_, rfl, _, rfl, l, _, rfl, .inl hS, _, _, rfl, rfl, _, rfl, ?_⟩
    refine ite2 (fun hlt => ?_) (fun hlt => ?_)
    · have hlt' : k < ns.length := by
        have z := of_decide_eq_true hlt
        rw [List.length_map] at z
        omega
      refine ⟨_, rfl, _, rfl, l, _, _, _, rfl, rfl, hS, atI_nat (j := k) (v := .int ns[k]) (by rw [List.getElem?_map, List.getElem?_eq_getElem hlt']; rfl), ?_⟩
      refine ⟨_, rfl, 10, 18, rfl, rfl, ⟨by decide, by decide, by decide⟩, _, _, rfl, rfl, _, rfl, ?_⟩
      refine ite2 (fun _ => ?_) (fun _ => ?_)
      · refine ⟨_, rfl, ?_⟩
        refine ⟨_, rfl, _, rfl, _, _, rfl, rfl, (by show (0 : Int) < 998244353; decide), _, rfl, _, k, rfl, rfl, .inl (m64 (by decide) (by decide)), _, _, rfl, rfl, _, 41, rfl, rfl, _, 3, rfl, rfl, ⟨by decide, by decide, pw _⟩, _, _, rfl, rfl, (by show (0 : Int) < 2147483629; decide), len2, fun p4 n4 => ?_⟩
        exact q p4 _ n4 (same_new (Same.refl H) n4) (fin _ _ p4 n4)
      · refine ⟨_, rfl, _, rfl, _, _, rfl, rfl, (by show (0 : Int) < 998244353; decide), _, rfl, _, k, rfl, rfl, .inl (m64 (by decide) (by decide)), _, _, rfl, rfl, _, 41, rfl, rfl, _, 3, rfl, rfl, ⟨by decide, by decide, pw _⟩, _, _, rfl, rfl, (by show (0 : Int) < 2147483629; decide), len2, fun p4 n4 => ?_⟩
        exact q p4 _ n4 (same_new (Same.refl H) n4) (fin _ _ p4 n4)
    · refine ⟨_, rfl, 10, 18, rfl, rfl, ⟨by decide, by decide, by decide⟩, _, _, rfl, rfl, _, rfl, ?_⟩
      refine iteDF (by decide) ?_
      refine ⟨_, rfl, _, rfl, _, _, rfl, rfl, (by show (0 : Int) < 998244353; decide), _, rfl, _, k, rfl, rfl, .inl (m64 (by decide) (by decide)), _, _, rfl, rfl, _, 41, rfl, rfl, _, 3, rfl, rfl, ⟨by decide, by decide, pw _⟩, _, _, rfl, rfl, (by show (0 : Int) < 2147483629; decide), len2, fun p4 n4 => ?_⟩
      exact q p4 _ n4 (same_new (Same.refl H) n4) (fin _ _ p4 n4)

theorem ok_l_out {P : Program} {w : World} {K : PySem.W.Frag} {mg : Str → Option Value} {base : Heap} {a : Nat → Addr} {d : Nat → FuncData} (T : Txt K mg a d) : FnOk P w K mg base CX0 1 (a 39) (d 39) ["_law_bag_here", "_law_many"] spOut := by
  refine T.F_l_out.ok sc_l_out (fun vs H Q E h => ?_) (fun cdv A outer s0 H vs Q E hr h => ?_)
  · obtain ⟨s, m, rfl, ⟨x, y, hs, y0, y1⟩, m0, m1, q⟩ := h
    rfl
  · obtain ⟨s, m, rfl, ⟨x, y, hs, y0, y1⟩, m0, m1, q⟩ := h
    refine ⟨_, (pss_cons (ps_if (pt_cmpR op_gt (pe_ix ix_list (pv 0) pe_int (fun _ _ => rfl)) pe_int (nomark _)) (pss_cons (ps_set (i := 2) sc_l_out.nd rfl (Or.inl rfl) (pe_op op_mod (pe_ix ix_list (pv 0) pe_int (fun _ _ => rfl)) (pv 1))) (pss_cons (ps_asg (pe_op op_fdivW (pe_ix ix_list (pv 0) pe_int (fun _ _ => rfl)) (pv 1)) (pg_sub (pv 0) pe_int set_list)) (pss_one (ps_ret (pv 2))))) pss_nil) (pss_cons (ps_asg (pe_op op_mod (pe_op op_add (pe_op op_mul (pe_ix ix_list (pv 0) pe_int (fun _ _ => rfl)) pe_int) pe_int) pe_int) (pg_sub (pv 0) pe_int set_list)) (pss_one (ps_ret (pe_op op_mod (pe_op op_fdiv (pe_op op_mod (pe_op op_mul (pe_ix ix_list (pv 0) pe_int (fun _ _ => rfl)) (pe_op op_add (pe_op op_fdiv (pe_ix ix_list (pv 0) pe_int (fun _ _ => rfl)) pe_int) pe_int)) pe_int) pe_int) (pv 1)))))), ?_⟩
    refine ⟨_, rfl, s, _, 0, _, rfl, rfl, SqL.of hs, rfl, x, 0, rfl, rfl, _, rfl, ?_⟩
    refine ite2 (fun _ => ?_) (fun _ => ?_)
    · refine ⟨_, rfl, s, _, 0, _, rfl, rfl, SqL.of hs, rfl, _, rfl, x, m, rfl, rfl, m0, ?_⟩
      refine ⟨_, rfl, s, _, 0, _, rfl, rfl, SqL.of hs, rfl, _, rfl, x, m, rfl, rfl, divW m0 (p2000 m1), _, rfl, s, _, 0, 0, rfl, rfl, hs, rfl, ?_⟩
      refine ⟨_, rfl, ?_⟩
      exact q _ _ (Int.emod_nonneg _ (by omega)) (Int.emod_lt_of_pos _ m0) (Fr.refl s H).put ⟨_, _, upd_same, y0, y1⟩
    · refine ⟨_, rfl, s, _, 1, _, rfl, rfl, SqL.of hs, rfl, y, 40692, rfl, rfl, .inr (m64 (by decide) (by decide)), _, 12345, rfl, rfl, _, 2147483399, rfl, rfl, (by show (0 : Int) < 2147483399; decide), _, rfl, s, _, 1, 1, rfl, rfl, hs, rfl, ?_⟩
      have e0 : 0 ≤ (y * 40692 + 12345) % 2147483399 := Int.emod_nonneg _ (by decide)
      have e1 : (y * 40692 + 12345) % 2147483399 < 2147483399 := Int.emod_lt_of_pos _ (by decide)
      refine ⟨_, rfl, s, _, 1, _, rfl, rfl, SqL.of upd_same, rfl, _, rfl, s, _, 1, _, rfl, rfl, SqL.of upd_same, rfl, _, 1024, rfl, rfl, ⟨by decide, by decide⟩, _, 7, rfl, rfl, _, _, rfl, rfl, .inl (m64 (by omega) (by omega)), _, 2147483647, rfl, rfl, (by show (0 : Int) < 2147483647; decide), _, 32, rfl, rfl, ⟨by decide, by decide⟩, _, rfl, _, m, rfl, rfl, m0, ?_⟩
      exact q _ _ (Int.emod_nonneg _ (by omega)) (Int.emod_lt_of_pos _ m0) (Fr.refl s H).put ⟨_, _, upd_same, e0, by omega⟩

theorem ok_l_worth {P : Program} {w : World} {K : PySem.W.Frag} {mg : Str → Option Value} {base : Heap} {a : Nat → Addr} {d : Nat → FuncData} (T : Txt K mg a d) : FnOk P w K mg base CX0 2 (a 40) (d 40) ["_law_bag_here"] spWorth := by
  refine T.F_l_worth.ok sc_l_worth (fun vs H Q E h => ?_) (fun cdv A outer s0 H vs Q E hr h => ?_)
  · obtain ⟨s, rfl, hb, q⟩ := h
    rfl
  · obtain ⟨s, rfl, hb, q⟩ := h
    refine ⟨_, (pss_one (ps_ret (pe_callTy call_tuple_of (by rfl) T.z_tuple (by decide +kernel) (pa_cons (pe_lc (own := [("_law_field", 1)]) (g := gName 1) (te := (tOp (rI0 fun i j => .int (i - j)) (tCall spOut [] E0 (tCons (tVar 0) (tCons (tC (.int 50)) tNil))) (tC (.int 9)))) (by rfl) sc_l_worth.nd (pi_range1 (by rfl) T.z_range (pa_cons (pe_op op_add pe_int (pe_call (ok_l_out T) (hr.mono (by decide)) (by rfl) T.g_l_out T.F_l_out.kp T.b_l_out .nil pass0 (pa_cons (pv 0) (pa_cons pe_int pa_nil)))) pa_nil)) (blkOk_by (own := [("_law_field", 1)]) (N := ["_law_bag_here", "_law_field"]) (sc := defScope s_l_worth) (by decide +kernel)) (fun _ _ _ _ _ => (pg_name (i := 1) sc_l_worth.nd rfl (.inl rfl))) (fun _ _ _ _ _ => pts_nil) (fun _ _ _ _ _ => (pe_op op_sub (pe_call (ok_l_out T) (hr.mono (by decide)) (by rfl) T.g_l_out T.F_l_out.kp T.b_l_out .nil pass0 (pa_cons (pv 0) (pa_cons pe_int pa_nil))) pe_int))) pa_nil)))), ?_⟩
    refine ⟨_, rfl, s, 4, rfl, hb, by decide, by decide, fun r0 H1 a0 a1 k1 hb1 => ?_⟩
    refine ⟨_, _, rfl, rfl, _, rfl, by omega, by omega, fun D nD => ?_⟩
    have s2 : Same H1 (upd H1 D (.lst [])) := same_new (Same.refl H1) nD
    have Ds : D ≠ s := hb1.ne_new nD
    have hD0 : (upd H1 D (.lst [])) D = some (.lst []) := upd_same
    refine lc_range (lo := 0) (fun i H' => (∀ c o, c ≠ s → c ≠ D → H1 c = some o → H' c = some o) ∧ BagAt H' s ∧ ∃ ns : List Int, H' D = some (.lst (ns.map V.int)) ∧ ns.length = i ∧ ∀ x ∈ ns, -9 ≤ x ∧ x ≤ 40) ⟨fun c o _ z e => by rw [upd_ne z]; exact e, hb1.same s2, [], upd_same, rfl, fun x hx => by cases hx⟩ ?_ ?_
    · rintro i H2 hi ⟨f, hb2, ns, hD, hl, hb⟩
      refine ⟨rfl, _, rfl, s, 50, rfl, hb2, by decide, by decide, fun r1 H3 b0 b1 k3 hb3 => ?_⟩
      have hD3 := k3 _ _ Ds hD
      refine ⟨_, _, rfl, rfl, _, hD3, ?_, fun c o n1 n2 e => ?_, hb3.keepU Ds, ns ++ [r1 - 9], ?_, by rw [List.length_append, hl]; rfl, fun x hx => ?_⟩
      · rw [List.length_map, hl]
        exact Nat.lt_of_lt_of_le (show i < 100 by omega) (by decide)
      · rw [upd_ne n2]
        exact k3 c o n1 (f c o n1 n2 e)
      · rw [upd_same, List.map_append]
        rfl
      · rcases List.mem_append.mp hx with hx | hx
        · exact hb x hx
        · rw [List.mem_singleton.mp hx]
          omega
    · rintro H2 ⟨f, hb2, ns, hD, hl, hb⟩
      refine ⟨D, _, rfl, .inl ⟨SqL.of hD, fun p np => ?_⟩⟩
      have fD : H D = none := (Same.free (H := H1) (H' := H1) (Same.refl H1) nD) |> fun z => k1.freeB hb1 z
      refine q ns p _ (fun c o n e => ?_) (hb2.new np) ?_ upd_same (by omega) (by omega) hb
      · have e1 := k1 c o n e
        rw [upd_ne (ne_of_none (f c o n (ne_of_none e1 nD) e1) np)]
        exact f c o n (ne_of_none e1 nD) e1
      · cases e : H p with
        | none => rfl
        | some o =>
          have e1 := k1 p o (hb2.ne_new np) e
          rw [f p o (hb2.ne_new np) (ne_of_none e1 nD) e1] at np
          cases np

theorem ok_l_first {P : Program} {w : World} {K : PySem.W.Frag} {mg : Str → Option Value} {base : Heap} {a : Nat → Addr} {d : Nat → FuncData} (T : Txt K mg a d) : FnOk P w K mg base CX0 1 (a 41) (d 41) ["_law_key", "_law_houses"] spFirst := by
  refine T.F_l_first.ok sc_l_first (fun vs H Q E h => ?_) (fun cdv A outer s0 H vs Q E hr h => ?_)
  · obtain ⟨k, hn, rfl, hk, hkl, h0, q⟩ := h
    rfl
  · obtain ⟨k, hn, rfl, hk, hkl, h0, q⟩ := h
    refine ⟨_, (pss_one (ps_ret (pe_op op_mod (pe_callB (cr_sum rfl) (by rfl) T.z_sum (by decide +kernel) (pa_cons (pe_lc (own := [("_law_sign", 2)]) (g := gName 2) (te := (tBMS K "str" (rIndexX fun _ _ _ _ => False) (tC (.str "abcdefghijklmnopqrstuvwxyz")) (tCons (tVar 2) tNil))) (by rfl) sc_l_first.nd (pi_str (pv 0)) (blkOk_by (own := [("_law_sign", 2)]) (N := ["_law_key", "_law_houses", "_law_sign"]) (sc := defScope s_l_first) (by decide +kernel)) (fun _ _ _ _ _ => (pg_name (i := 2) sc_l_first.nd rfl (.inl rfl))) (fun _ _ _ _ _ => pts_nil) (fun _ _ _ _ _ => (pe_bmS PySem.F.plainAttrs_str PySem.F.slot_str_index PySem.F.type_str_index (mt_indexX rfl takes_no) pe_str (pa_cons (pv 2) pa_nil)))) pa_nil)) (pv 1)))), ?_⟩
    refine ⟨_, rfl, k, rfl, fun D nD => ?_⟩
    have sz : k.cps.size = k.cps.toList.length := rfl
    refine lc_it walk_str (fun i H' => Same H H' ∧ H' D = some (.lst ((((k.cps.toList.take i).map fun c : Nat => (c : Int) - 97)).map V.int))) ⟨same_new (Same.refl H) nD, upd_same⟩ (fun _ _ _ _ => trivial) ?_ ?_
    · rintro i x H2' H2 hi ⟨s2, hD⟩ ⟨rfl, c, hc, rfl⟩
      have hc' : k.cps.toList[i]? = some c := by simpa using hc
      obtain ⟨j, ej, ej2⟩ := alpha_index (hk c (List.mem_of_getElem? hc'))
      refine ⟨rfl, rfl, _, rfl, _, _, rfl, rfl, fun j' e' => ?_, fun e' => by rw [ej] at e'; cases e'⟩
      rw [ej] at e'
      cases e'
      refine ⟨_, hD, ?_, fun b o e => ?_, ?_⟩
      · rw [List.length_map, List.length_map]
        exact Nat.lt_of_le_of_lt (List.length_take_le' _ _) (Nat.lt_of_le_of_lt hkl (by decide))
      · rw [upd_ne (ne_of_none e nD)]
        exact s2 b o e
      · rw [upd_same, List.take_add_one, hc', List.map_append, List.map_append]
        show _ = some (HO.lst (_ ++ [V.int ((c : Int) - 97)]))
        rw [ej2]
    · rintro H2 ⟨s2, hD⟩
      rw [sz, List.take_length] at hD
      refine ⟨D, _, rfl, SqL.of hD, _, rfl, _, _, rfl, rfl, h0, ?_⟩
      exact q H2 s2

theorem ok_l_state {P : Program} {w : World} {K : PySem.W.Frag} {mg : Str → Option Value} {base : Heap} {a : Nat → Addr} {d : Nat → FuncData} (T : Txt K mg a d) : FnOk P w K mg base CX0 1 (a 42) (d 42) ["_law_house", "_law_houses"] spStateB := by
  refine T.F_l_state.ok sc_l_state (fun vs H Q E h => ?_) (fun cdv A outer s0 H vs Q E hr h => ?_)
  · obtain ⟨ho, hn, rfl, h0, h1, h2, q⟩ := h
    rfl
  · obtain ⟨ho, hn, rfl, h0, h1, h2, q⟩ := h
    refine ⟨_, (pss_one (ps_ret (pe_disp (pps_cons pe_str (pv 0) (pps_cons pe_str (pv 1) (pps_cons pe_str (pe_lst pa_nil) (pps_cons pe_str pe_dnewK (pps_cons pe_str pe_int (pps_cons pe_str (pe_un un_neg pe_int) (pps_cons pe_str pe_int (pps_cons pe_str (pe_un un_neg pe_int) pps_nil)))))))) (by rfl) (by rfl) (fun z => by cases z) (by decide)))), ?_⟩
    intro m nm
    have s1 : Same H (upd H m (.dK [])) := same_new (Same.refl H) nm
    have hm1 : (upd H m (.dK [])) m = some (.dK []) := upd_same
    generalize (upd H m (.dK [])) = H1 at s1 hm1 ⊢
    refine ⟨_, rfl, _, rfl, Nat.zero_le _, fun p1 n1 => ?_⟩
    have s2 : Same H1 (upd H1 p1 (.lst [])) := same_new (Same.refl H1) n1
    have h2p : (upd H1 p1 (.lst [])) p1 = some (.lst []) := upd_same
    generalize (upd H1 p1 (.lst [])) = H2 at s2 h2p ⊢
    intro p2 n2
    have s3 : Same H2 (upd H2 p2 (.dK [])) := same_new (Same.refl H2) n2
    have h3p : (upd H2 p2 (.dK [])) p2 = some (.dK []) := upd_same
    generalize (upd H2 p2 (.dK [])) = H3 at s3 h3p ⊢
    have s13 := s2.trans s3
    have hm3 := s13 _ _ hm1
    have hr3 := s3 _ _ h2p
    have nm1 : m ≠ p1 := ne_of_none hm1 n1
    have nm2 : m ≠ p2 := ne_of_none (s2 _ _ hm1) n2
    have n12 : p1 ≠ p2 := ne_of_none h2p n2
    refine ⟨1, rfl, 1, rfl, hm3, skv ⟨m, p1, p2⟩ ⟨ho, hn, 0, -1, 0, -1⟩, rfl, by rw [skv_len]; decide, ?_⟩
    rw [skv_merge]
    have k4 : ∀ c o, c ≠ m → H3 c = some o → (upd H3 m (.dK (skv ⟨m, p1, p2⟩ ⟨ho, hn, 0, -1, 0, -1⟩))) c = some o := fun c o n e => by rw [upd_ne n]; exact e
    refine q ⟨m, p1, p2⟩ _ (fun c o e => k4 c o (ne_of_none e nm) (s13 _ _ (s1 _ _ e))) ⟨upd_same, ⟨k4 _ _ (Ne.symm nm1) hr3, fun z hz => by cases hz⟩, ⟨[], k4 _ _ (Ne.symm nm2) h3p, Nat.zero_le _, List.nodup_nil, fun k hk => (by cases hk), fun n => rfl⟩, nm2⟩ fun c hc => ?_
    rcases bOwn_mem.mp hc with rfl | rfl | rfl
    · exact nm
    · exact s1.free n1
    · exact s1.free (s2.free n2)

theorem ok_l_busy {P : Program} {w : World} {K : PySem.W.Frag} {mg : Str → Option Value} {base : Heap} {a : Nat → Addr} {d : Nat → FuncData} (T : Txt K mg a d) : FnOk P w K mg base CX0 1 (a 43) (d 43) ["_law_state_here", "_law_key"] spBusy := by
  refine T.F_l_busy.ok sc_l_busy (fun vs H Q E h => ?_) (fun cdv A outer s0 H vs Q E hr h => ?_)
  · obtain ⟨A, b, zs, s, k, N, rfl, h, hl, hpk, q⟩ := h
    rfl
  · obtain ⟨A, b, zs, s, k, N, rfl, h, hl, hpk, q⟩ := h
    refine ⟨_, (pss_cons (ps_set (i := 2) sc_l_busy.nd rfl (Or.inl rfl) (pe_lst pa_nil)) (pss_cons (ps_lock (ps_for PassesOwn.never rfl (pi_keys (pe_dget (hu_of hr) (pv 0) pe_str (fun _ _ => rfl))) (pg_name (i := 3) sc_l_busy.nd rfl (.inl rfl)) (pss_cons (ps_set (i := 4) sc_l_busy.nd rfl (Or.inl rfl) (pe_dget (hu_of hr) (pe_dget (hu_of hr) (pv 0) pe_str (fun _ _ => rfl)) (pv 3) (fun _ _ => rfl))) (Evl.pss_cut (ps_set (i := 5) sc_l_busy.nd rfl (Or.inl rfl) (pe_ifExp (PW.pt (pw_and (pt_cmpR op_notN (pe_ix ix_tup (pv 4) pe_int (fun _ _ => rfl)) pe_non (nomark _)) (pw_and1 (pt_cmpR op_eq (pe_ix ix_tup (pe_ix ix_tup (pv 4) pe_int (fun _ _ => rfl)) pe_int (fun _ _ => rfl)) pe_str (nomark _))))) (pe_lst (pa_cons (pe_ix ix_tup (pe_ix ix_tup (pv 4) pe_int (fun _ _ => rfl)) pe_int (fun _ _ => rfl)) pa_nil)) (pe_lst pa_nil))) (Evl.pss_cut (ps_if (pt_cmpR op_in_seq (pv 1) (pe_op op_cat (pe_lc (own := [("_law_own", 6), ("_law_worth_here", 7)]) (g := (gTup K 2 (gCons (gName 6) (gCons (gName 7) gNil)))) (te := (tVar 6)) (by rfl) sc_l_busy.nd (pi_tup (pe_ix ix_tup (pv 4) pe_int (fun _ _ => rfl))) (blkOk_by (own := [("_law_own", 6), ("_law_worth_here", 7)]) (N := ["_law_state_here", "_law_key", "_law_found", "_law_dealing", "_law_entry", "_law_moved", "_law_own", "_law_worth_here"]) (sc := defScope s_l_busy) (by decide +kernel)) (fun _ _ _ _ _ => (pg_tup (by rfl) (pgs_cons (pg_name (i := 6) sc_l_busy.nd rfl (.inl rfl)) (pgs_cons (pg_name (i := 7) sc_l_busy.nd rfl (.inl rfl)) pgs_nil)))) (fun _ _ _ _ _ => pts_nil) (fun _ _ _ _ _ => (pv 6))) (pv 5)) (by rfl)) (pss_one (ps_expr (pe_bm PySem.F.plainAttrs_list PySem.F.slot_list_append PySem.F.type_list_append mt_append (pv 2) (pa_cons pe_str pa_nil)))) pss_nil) (pss_one (ps_if (pt_cmpR op_in_seq (pv 1) (pe_ix ix_tup (pv 4) pe_int (fun _ _ => rfl)) (by rfl)) (pss_one (ps_expr (pe_bm PySem.F.plainAttrs_list PySem.F.slot_list_append PySem.F.type_list_append mt_append (pv 2) (pa_cons pe_str pa_nil)))) pss_nil))))))) (pss_one (ps_ret (pv 2))))), ?_⟩
    obtain ⟨kv, ek, lk, ndk, ksk, gk⟩ := h.op.ex
    refine ⟨Nat.zero_le _, fun D nD => ?_⟩
    have s1 : Same H (upd H D (.lst [])) := same_new (Same.refl H) nD
    have hD1 : (upd H D (.lst [])) D = some (.lst []) := upd_same
    generalize (upd H D (.lst [])) = H1 at s1 hD1 ⊢
    have h1 := h.same s1
    have ek1 := s1 _ _ ek
    refine ⟨A.op, _, ek1, trivial, fun od => ?_⟩
    have hfz : (upd H1 A.op (.frz od (.dK kv))) A.op = some (.frz od (.dK kv)) := upd_same
    have hmf : (upd H1 A.op (.frz od (.dK kv))) A.m = some (.dK (skv A b)) := by rw [upd_ne h.mo]; exact h1.top
    have hDf : (upd H1 A.op (.frz od (.dK kv))) D = some (.lst []) := by rw [upd_ne (ne_of hD1 ek1 (by intro z; cases z))]; exact hD1
    have tkf : Tk H (upd H1 A.op (.frz od (.dK kv))) := fun c xs e => by rw [upd_ne (ne_of (s1 _ _ e) ek1 (by intro z; cases z))]; exact s1 _ _ e
    have tail : ∀ H', (∀ c o, c ≠ D → (upd H1 A.op (.frz od (.dK kv))) c = some o → H' c = some o) → Same H (upd H' A.op (.dK kv)) := fun H' f c o e => by
      by_cases z : c = A.op
      · rw [z, ek] at e
        cases e
        rw [z, upd_same]
      · rw [upd_ne z]
        exact f c o (ne_of_none e nD) (by rw [upd_ne z]; exact s1 _ _ e)
    generalize (upd H1 A.op (.frz od (.dK kv))) = Hf at hfz hmf hDf tkf tail ⊢
    have gk : ∀ n, match valV kv (Sum.inl n) with
        | none => s.un n = none
        | some v => ∃ p, s.un n = some p ∧ TD Hf v p.d := fun n => by
      have := gk n
      cases e : valV kv (Sum.inl n) with
      | none => rw [e] at this; exact this
      | some v =>
        rw [e] at this
        obtain ⟨p, a, t⟩ := this
        exact ⟨p, a, TD.tk tkf t⟩
    refine ⟨_, rfl, A.m, _, rfl, .inl ⟨_, Sum.inr "open", .inl hmf, rfl, (skv_open A b).symm⟩, A.op, od, rfl, .inl ⟨kv, hfz, ?_⟩⟩
    refine for_it walk_keys (fun j σ H' => ∃ (v3 v4 v5 v6 v7 : Option V) (xs : List Str), σ = [some (.ref A.m), some (.str k), some (.ref D), v3, v4, v5, v6, v7] ∧ (∀ c o, c ≠ D → Hf c = some o → H' c = some o) ∧ H' D = some (.lst (xs.map V.str)) ∧ xs.length ≤ 2 * j ∧ (xs = [] → ∀ i n p v, i < j → kv[i]? = some (Sum.inl n, v) → s.un n = some p → ¬ k ∈ p.ws.map (·.1))) ⟨none, none, none, none, none, [], rfl, fun c o _ e => e, hDf, Nat.zero_le _, fun _ i n p v hi => absurd hi (Nat.not_lt_zero _)⟩ (fun i σ H' _ z => ?_) ?_ ?_
    · obtain ⟨v3, v4, v5, v6, v7, xs, _, f, _⟩ := z
      exact f _ _ (ne_of hfz hDf (by intro z; cases z)) hfz
    · rintro j kx σ H3' H3 hj ⟨v3, v4, v5, v6, v7, xs, rfl, f3, hD3, hxl, hfr⟩ ⟨rfl, key, v, hkv, rfl⟩
      obtain ⟨n, p, rfl, hv, hun, tv⟩ := un_at ndk ksk gk hkv
      show ∃ v, _
      have nDo : A.op ≠ D := ne_of hfz hDf (by intro z; cases z)
      have hz3 := f3 _ _ nDo hfz
      have hm3 := f3 _ _ (ne_of hmf hDf (by intro z; cases z)) hmf
      have tv3 : TD H3 v p.d := TD.tk (fun c xs e => f3 c _ (ne_of e hDf (by intro z; cases z)) e) tv
      obtain ⟨q', hv', sv, rv, wv, mv, rfl, hq, t3, t4, t5, t6, t7⟩ := pl_at tv3
      refine ⟨_, rfl, A.m, _, rfl, .inl ⟨_, Sum.inr "open", .inl hm3, rfl, (skv_open A b).symm⟩, _, rfl, A.op, _, rfl, .inl ⟨kv, Sum.inl n, .inr ⟨od, hz3⟩, rfl, hv.symm⟩, ?_⟩
      obtain ⟨ra, rxs, rfl, hra3, trs⟩ := td_tup t5
      cases td_strs trs
      have hwl := (hpk n p hun).wl
      refine ⟨fun σ' H' => ∃ (L : Addr) (ms : List Str), σ' = [some (.ref A.m), some (.str k), some (.ref D), some (.int n), some (.ref q'), some (.ref L), v6, v7] ∧ Same H3 H' ∧ H' L = some (.lst (ms.map V.str)) ∧ ms.length ≤ 1, ?_, ?_⟩
      · cases em : p.more with
        | none =>
          rw [em] at t7
          cases td_none t7
          exact ⟨_, rfl, q', _, 7, _, rfl, rfl, SqT.of hq, atI_nat (j := 7) rfl, rfl, _, rfl, iteNSDl rfl (iteF ⟨Nat.zero_le _, fun L nL => ⟨L, [], rfl, same_new (Same.refl H3) nL, upd_same, Nat.zero_le _⟩⟩)⟩
        | some mm =>
          rw [em] at t7
          obtain ⟨q7, x, y, rfl, h7, mvf, fmf⟩ := more_at t7
          refine ⟨_, rfl, q', _, 7, _, rfl, rfl, SqT.of hq, atI_nat (j := 7) rfl, rfl, _, rfl, iteND (fun z => by cases z) ⟨_, rfl, q', _, 7, _, rfl, rfl, SqT.of hq, atI_nat (j := 7) rfl, q7, _, 0, _, rfl, rfl, SqT.of h7, atI_nat (j := 0) rfl, rfl, _, rfl, ?_⟩⟩
          cases mm with
          | move k' to =>
            obtain ⟨rfl, rfl⟩ := mvf k' to rfl
            exact iteDT rfl ⟨_, rfl, q', _, 7, _, rfl, rfl, SqT.of hq, atI_nat (j := 7) rfl, q7, _, 1, _, rfl, rfl, SqT.of h7, atI_nat (j := 1) rfl, len1, fun L nL => ⟨L, [k'], rfl, same_new (Same.refl H3) nL, upd_same, Nat.le_refl _⟩⟩
          | form t' f' => exact iteDF (fun z => absurd (V.str.inj z) (by simp only [More.w]; decide +kernel)) ⟨Nat.zero_le _, fun L nL => ⟨L, [], rfl, same_new (Same.refl H3) nL, upd_same, Nat.zero_le _⟩⟩
      · rintro σ' H4 ⟨L, ms, rfl, s4, hL, hml⟩
        have hq4 := s4 _ _ hq
        obtain ⟨wa, wxs, rfl, hwa, tws⟩ := td_tup (TD.tk (fun c xs e => s4 c _ e) t6)
        refine ⟨fun σ' H' => ∃ (v6 v7 : Option V) (ys : List Str), σ' = [some (.ref A.m), some (.str k), some (.ref D), some (.int n), some (.ref q'), some (.ref L), v6, v7] ∧ (∀ c o, c ≠ D → H3 c = some o → H' c = some o) ∧ H' D = some (.lst (ys.map V.str)) ∧ ys.length ≤ 2 * j + 1 ∧ (ys = [] → xs = [] ∧ ¬ k ∈ p.ws.map (·.1)), ?_, ?_⟩
        · refine ⟨_, rfl, _, rfl, q', _, 6, _, rfl, rfl, SqT.of hq4, atI_nat (j := 6) rfl, wa, rfl, ⟨_, SqT.of hwa⟩, fun D2 nD2 => ?_⟩
          refine lc_tup (K := K) (a := wa) (xs := wxs) (fun i H' => Same H4 H' ∧ H' D2 = some (.lst (((p.ws.take i).map (·.1)).map V.str))) ⟨same_new (Same.refl H4) nD2, upd_same⟩ (fun i H' _ z => SqT.of (z.1 _ _ hwa)) ?_ ?_
          · rintro i v0 HA hi ⟨sA, hD2⟩
            obtain ⟨d, ed, td⟩ := TDAll.getV tws hi
            rw [List.getElem?_map] at ed
            obtain ⟨w0, hw0, rfl⟩ := Option.map_eq_some_iff.mp ed
            obtain ⟨qw, bw, rfl, hqw, hbw⟩ := wr_at td
            refine ⟨qw, _, rfl, SqT.of (sA _ _ hqw), rfl, _, _, rfl, _, _, rfl, rfl, ?_⟩
            refine ⟨rfl, _, rfl, _, hD2, ?_, fun b o e => ?_, ?_⟩
            · rw [List.length_map, List.length_map]
              exact Nat.lt_of_le_of_lt (List.length_take_le' _ _) (Nat.lt_of_lt_of_le (Nat.lt_succ_of_le hwl) (by decide))
            · rw [upd_ne (ne_of_none e nD2)]
              exact sA b o e
            · rw [upd_same, List.take_add_one, hw0, List.map_append, List.map_append]
              rfl
          · rintro HA ⟨sA, hD2⟩
            have el : wxs.length = p.ws.length := by
              have := TDAll.len tws
              rw [List.length_map] at this
              exact this
            rw [el, List.take_length] at hD2
            refine ⟨_, rfl, D2, L, _, _, rfl, rfl, hD2, sA _ _ hL, ?_, fun D3 nD3 => ?_⟩
            · rw [List.length_map, List.length_map, List.length_map]
              exact Nat.le_trans (show p.ws.length + ms.length ≤ 100 by omega) (by decide)
            rw [← List.map_append]
            refine ⟨D3, _, rfl, .inl (SqL.of upd_same), rfl, flat_strs _, _, rfl, ?_⟩
            have s5 : Same H3 (upd HA D3 (.lst ((p.ws.map (·.1) ++ ms).map V.str))) := same_new (s4.trans sA) nD3
            generalize (upd HA D3 (.lst ((p.ws.map (·.1) ++ ms).map V.str))) = HB at s5 ⊢
            have hDB := s5 _ _ hD3
            rw [inV_strs]
            by_cases c : k ∈ p.ws.map (·.1) ++ ms
            · refine iteDT c ⟨_, rfl, .inl ⟨rfl, _, SqL.of hDB⟩, D, _, _, rfl, rfl, hDB, ?_, ⟨_, _, xs ++ [("write" : Str)], rfl, fun b o n e => ?_, ?_, ?_, fun e => absurd (congrArg List.length e) (by rw [List.length_append]; simp)⟩⟩
              · rw [List.length_map]
                exact Nat.lt_of_le_of_lt (show xs.length ≤ 200 by omega) (by decide)
              · rw [upd_ne n]
                exact s5 b o e
              · rw [upd_same, List.map_append]
                rfl
              · rw [List.length_append]
                show xs.length + 1 ≤ _
                omega
            · exact iteDF c ⟨_, _, xs, rfl, fun b o n e => s5 b o e, hDB, by omega, fun e => ⟨e, fun z => c (List.mem_append_left _ z)⟩⟩
        · rintro σ' H5 ⟨v6', v7', ys, rfl, f5, hD5, hyl, hyn⟩
          have hra5 := f5 _ _ (ne_of hra3 hD3 (by intro z; cases z)) hra3
          have hq5 := f5 _ _ (ne_of hq hD3 (by intro z; cases z)) hq
          have nxt : ∀ ys' : List Str, (ys' = [] → ys = []) → ys' = [] → ∀ i n p v, i < j + 1 → kv[i]? = some (Sum.inl n, v) → s.un n = some p → ¬ k ∈ p.ws.map (·.1) := fun ys' h1 h2 i n2 p2 v2 hi hk2 hu2 => by
            obtain ⟨e1, e2⟩ := hyn (h1 h2)
            rcases Nat.lt_or_ge i j with c | c
            · exact hfr e1 i n2 p2 v2 c hk2 hu2
            · have : i = j := by omega
              subst this
              rw [hkv] at hk2
              cases hk2
              rw [hun] at hu2
              cases hu2
              exact e2
          refine ⟨_, rfl, _, rfl, q', _, 5, _, rfl, rfl, SqT.of hq5, atI_nat (j := 5) rfl, ra, _, rfl, .inr (SqT.of hra5), rfl, flat_strs _, _, rfl, ?_⟩
          rw [inV_strs]
          by_cases c : k ∈ p.rs
          · refine iteDT c ⟨_, rfl, .inl ⟨rfl, _, SqL.of hD5⟩, D, _, _, rfl, rfl, hD5, ?_, ⟨_, _, _, _, _, ys ++ [("read" : Str)], rfl, fun b o n e => ?_, ?_, ?_, nxt _ fun e => absurd (congrArg List.length e) (by rw [List.length_append]; simp)⟩⟩
            · rw [List.length_map]
              exact Nat.lt_of_le_of_lt (show ys.length ≤ 200 by omega) (by decide)
            · rw [upd_ne n]
              exact f5 b o n (f3 b o n e)
            · rw [upd_same, List.map_append]
              rfl
            · rw [List.length_append]
              show ys.length + 1 ≤ _
              omega
          · exact iteDF c ⟨_, _, _, _, _, ys, rfl, fun b o n e => f5 b o n (f3 b o n e), hD5, by omega, nxt _ fun e => e⟩
    · rintro σ H3 ⟨v3, v4, v5, v6, v7, xs, rfl, f3, hD3, hxl, hfr⟩
      have nDo : A.op ≠ D := ne_of hfz hDf (by intro z; cases z)
      have hz3 := f3 _ _ nDo hfz
      refine ⟨hz3, ?_⟩
      refine ⟨_, rfl, ?_⟩
      refine q D xs _ (tail _ f3) nD (by rw [upd_ne (Ne.symm nDo)]; exact hD3) (fun e n p hun hk => ?_) (by omega)
      obtain ⟨i, v, hi⟩ := un_in gk hun
      exact hfr e i n p v (List.getElem?_eq_some_iff.mp hi).1 hi hun hk

theorem ok_l_forms_open {P : Program} {w : World} {K : PySem.W.Frag} {mg : Str → Option Value} {base : Heap} {a : Nat → Addr} {d : Nat → FuncData} (T : Txt K mg a d) : FnOk P w K mg base CX0 1 (a 44) (d 44) ["_law_state_here"] spForms := by
  refine T.F_l_forms_open.ok sc_l_forms_open (fun vs H Q E h => ?_) (fun cdv A outer s0 H vs Q E hr h => ?_)
  · obtain ⟨A, b, zs, s, N, rfl, h, hl, q⟩ := h
    rfl
  · obtain ⟨A, b, zs, s, N, rfl, h, hl, q⟩ := h
    refine ⟨_, (pss_cons (ps_lock (ps_setLc (i := 1) (own := [("_law_dealing", 2)]) (g := gName 2) (te := (tOp (rIxT K) (tDGet (tDGet (tVar 0) (tC (.str "open"))) (tVar 2)) (tC (.int 7)))) (by rfl) sc_l_forms_open.nd rfl rfl (sw_true rfl rfl rfl (by decide +kernel)) (pi_keys (pe_dget (hu_of hr) (pv 0) pe_str (fun _ _ => rfl))) (blkOk_by (own := [("_law_dealing", 2)]) (N := ["_law_state_here", "_law_some", "_law_dealing", "_law_more_here"]) (sc := defScope s_l_forms_open) (by decide +kernel)) (fun _ _ _ _ _ => (pg_name (i := 2) sc_l_forms_open.nd rfl (.inl rfl))) (fun _ _ _ _ _ => pts_nil) (fun _ _ _ _ _ => (pe_ix ix_tup (pe_dget (hu_of hr) (pe_dget (hu_of hr) (pv 0) pe_str (fun _ _ => rfl)) (pv 2) (fun _ _ => rfl)) pe_int (fun _ _ => rfl))))) (pss_one (ps_ret (pe_lc (own := [("_law_more_here", 3)]) (g := gName 3) (te := (tOp (rIxT K) (tVar 3) (tC (.int 1)))) (tt := (tAnd (tTest (tOp (fun x y H Q => y = V.non ∧ Q (V.bl (!decide (x = V.non))) H) (tVar 3) (tC .non))) (tTest (tOp rEq (tOp (rIxT K) (tVar 3) (tC (.int 0))) (tC (.str "form")))))) (by rfl) sc_l_forms_open.nd (pi_list (pv 1)) (blkOk_by (own := [("_law_more_here", 3)]) (N := ["_law_state_here", "_law_some", "_law_dealing", "_law_more_here"]) (sc := defScope s_l_forms_open) (by decide +kernel)) (fun _ _ _ _ _ => (pg_name (i := 3) sc_l_forms_open.nd rfl (.inl rfl))) (fun _ _ _ _ _ => (pts_one (PW.pt (pw_and (pt_cmpR op_notN (pv 3) pe_non (nomark _)) (pw_and1 (pt_cmpR op_eq (pe_ix ix_tup (pv 3) pe_int (fun _ _ => rfl)) pe_str (nomark _))))))) (fun _ _ _ _ _ => (pe_ix ix_tup (pv 3) pe_int (fun _ _ => rfl))))))), ?_⟩
    obtain ⟨kv, ek, lk, ndk, ksk, gk⟩ := h.op.ex
    refine ⟨A.op, _, ek, trivial, fun od => ?_⟩
    have hfz : (upd H A.op (.frz od (.dK kv))) A.op = some (.frz od (.dK kv)) := upd_same
    have hmf : (upd H A.op (.frz od (.dK kv))) A.m = some (.dK (skv A b)) := by rw [upd_ne h.mo]; exact h.top
    have tkf : Tk H (upd H A.op (.frz od (.dK kv))) := fun c xs e => by rw [upd_ne (ne_of e ek (by intro z; cases z))]; exact e
    have tail : ∀ H', Same (upd H A.op (.frz od (.dK kv))) H' → Same H (upd H' A.op (.dK kv)) := fun H' s => lock_same' ek s
    have frf : ∀ D, (upd H A.op (.frz od (.dK kv))) D = none → H D = none := fun D e => by
      by_cases z : D = A.op
      · rw [z, upd_same] at e; cases e
      · rw [upd_ne z] at e; exact e
    generalize (upd H A.op (.frz od (.dK kv))) = Hf at hfz hmf tkf tail frf ⊢
    have gk : ∀ n, match valV kv (Sum.inl n) with
        | none => s.un n = none
        | some v => ∃ p, s.un n = some p ∧ TD Hf v p.d := fun n => by
      have := gk n
      cases e : valV kv (Sum.inl n) with
      | none => rw [e] at this; exact this
      | some v =>
        rw [e] at this
        obtain ⟨p, a, t⟩ := this
        exact ⟨p, a, TD.tk tkf t⟩
    refine ⟨_, rfl, A.m, _, rfl, .inl ⟨_, Sum.inr "open", .inl hmf, rfl, (skv_open A b).symm⟩, A.op, od, rfl, .inl ⟨kv, hfz, fun D nD => ?_⟩⟩
    have kvl : kv.length ≤ 60 := by omega
    refine lc_it walk_keys (fun i H' => Same Hf H' ∧ ∃ us : List (V × Option More), H' D = some (.lst (us.map (·.1))) ∧ us.length = i ∧ ∀ u ∈ us, TD Hf u.1 (moreD u.2)) ⟨same_new (Same.refl Hf) nD, [], upd_same, rfl, fun u hu => by cases hu⟩ (fun i H' _ z => z.1 _ _ hfz) ?_ ?_
    · rintro i kx H2' H2 hi ⟨s2, us, hD, hul, hut⟩ ⟨rfl, key, v, hkv, rfl⟩
      obtain ⟨n, p, rfl, hv, hun, tv⟩ := un_at ndk ksk gk hkv
      obtain ⟨q', hv', sv, rv, wv, mv, rfl, hq, t3, t4, t5, t6, t7⟩ := pl_at tv
      have hz2 := s2 _ _ hfz
      refine ⟨rfl, _, rfl, A.m, _, rfl, .inl ⟨_, Sum.inr "open", .inl (s2 _ _ hmf), rfl, (skv_open A b).symm⟩, _, rfl, A.op, _, rfl, .inl ⟨kv, Sum.inl n, .inr ⟨od, hz2⟩, rfl, hv.symm⟩, q', _, 7, _, rfl, rfl, SqT.of (s2 _ _ hq), atI_nat (j := 7) rfl, ?_⟩
      refine ⟨_, hD, ?_, fun b o e => ?_, us ++ [(mv, p.more)], ?_, by rw [List.length_append, hul]; rfl, fun u hu => ?_⟩
      · rw [List.length_map, hul]
        exact Nat.lt_of_lt_of_le (show i < 100 by omega) (by decide)
      · rw [upd_ne (ne_of_none e nD)]
        exact s2 b o e
      · rw [upd_same, List.map_append]
        rfl
      · rcases List.mem_append.mp hu with hu | hu
        · exact hut u hu
        · rw [List.mem_singleton.mp hu]
          exact t7
    rintro H2 ⟨s2, us, hD, hul, hut⟩
    refine ⟨s2 _ _ hfz, ?_⟩
    have nDo : D ≠ A.op := (ne_of_none hfz nD).symm
    have hD3 : (upd H2 A.op (.dK kv)) D = some (.lst (us.map (·.1))) := by rw [upd_ne nDo]; exact hD
    have s3 : Same H (upd H2 A.op (.dK kv)) := tail _ s2
    have hut3 : ∀ u ∈ us, TD (upd H2 A.op (.dK kv)) u.1 (moreD u.2) := fun u hu => TD.tk (fun c xs e => by rw [upd_ne (ne_of e hfz (by intro z; cases z))]; exact s2 _ _ e) (hut u hu)
    generalize (upd H2 A.op (.dK kv)) = H3 at hD3 s3 hut3 ⊢
    refine ⟨_, rfl, D, rfl, ⟨_, SqL.of hD3⟩, fun D2 nD2 => ?_⟩
    refine lc_list (K := K) (a := D) (xs := us.map (·.1)) (fun i H' => Same H3 H' ∧ ∃ ts : List Int, H' D2 = some (.lst (ts.map V.int)) ∧ ts.length ≤ i) ⟨same_new (Same.refl H3) nD2, [], upd_same, Nat.le_refl _⟩ (fun i H' _ z => SqL.of (z.1 _ _ hD3)) ?_ ?_
    · rintro i v0 H4 hi ⟨s4, ts, hD2, htl⟩
      rw [List.getElem?_map] at hi
      obtain ⟨u, hu, rfl⟩ := Option.map_eq_some_iff.mp hi
      have tu := TD.tk (fun c xs e => s4 c _ e) (hut3 u (List.mem_of_getElem? hu))
      have il := (List.getElem?_eq_some_iff.mp hu).1
      obtain ⟨uv, um⟩ := u
      cases um with
      | none =>
        cases td_none tu
        exact ⟨rfl, _, rfl, rfl, _, rfl, iteNSDl rfl (iteF ⟨s4, ts, hD2, by omega⟩)⟩
      | some m =>
        obtain ⟨q7, x, y, e7, h7, mvf, fmf⟩ := more_at tu
        cases e7
        refine ⟨rfl, _, rfl, rfl, _, rfl, iteND (fun z => by cases z) ⟨_, rfl, q7, _, 0, _, rfl, rfl, SqT.of h7, atI_nat (j := 0) rfl, rfl, _, rfl, ?_⟩⟩
        cases m with
        | move k' to => exact iteDF (fun z => absurd (V.str.inj z) (by simp only [More.w]; decide +kernel)) ⟨s4, ts, hD2, by omega⟩
        | form t' f' =>
          obtain ⟨rfl, rfl⟩ := fmf t' f' rfl
          refine iteDT rfl ⟨_, rfl, q7, _, 1, _, rfl, rfl, SqT.of h7, atI_nat (j := 1) rfl, _, hD2, ?_, fun b o e => ?_, ts ++ [t'], ?_, ?_⟩
          · rw [List.length_map]
            exact Nat.lt_of_le_of_lt (show ts.length ≤ 100 by omega) (by decide)
          · rw [upd_ne (ne_of_none e nD2)]
            exact s4 b o e
          · rw [upd_same, List.map_append]
            rfl
          · rw [List.length_append]
            show ts.length + 1 ≤ _
            omega
    · rintro H4 ⟨s4, ts, hD2, htl⟩
      rw [List.length_map] at htl
      exact q D2 ts H4 (s3.trans s4) (s3.free nD2) hD2 (by omega)

theorem ok_l_done {P : Program} {w : World} {K : PySem.W.Frag} {mg : Str → Option Value} {base : Heap} {a : Nat → Addr} {d : Nat → FuncData} (T : Txt K mg a d) : FnOk P w K mg base CX0 1 (a 45) (d 45) ["_law_rows", "_law_word"] spDoneB := by
  refine T.F_l_done.ok sc_l_done (fun vs H Q E h => ?_) (fun cdv A outer s0 H vs Q E hr h => ?_)
  · obtain ⟨p, zs, z, rfl, h, hg, hl, q⟩ := h
    rfl
  · obtain ⟨p, zs, z, rfl, h, hg, hl, q⟩ := h
    refine ⟨_, (pss_cons (ps_set (i := 2) sc_l_done.nd rfl (Or.inl rfl) (pe_lst pa_nil)) (pss_cons (ps_for PassesOwn.never rfl (pi_list (pv 0)) (pg_name (i := 3) sc_l_done.nd rfl (.inr rfl)) (pss_one (ps_if (pt_cmpR op_eq (pe_ix ix_tup (pv 3) pe_int (fun _ _ => rfl)) pe_str (nomark _)) (pss_cons (ps_set (i := 4) sc_l_done.nd rfl (Or.inl rfl) (pe_ix ix_list (pe_lc (own := [("_law_one", 5)]) (g := gName 5) (te := (tVar 5)) (tt := (tAnd (tTest (tOp rEq (tOp (rIxT K) (tVar 5) (tC (.int 0))) (tC (.str "pledge")))) (tTest (tOp rEq (tOp (rIxT K) (tVar 5) (tC (.int 1))) (tOp (rIxT K) (tVar 3) (tC (.int 1))))))) (by rfl) sc_l_done.nd (pi_list (pv 0)) (blkOk_by (own := [("_law_one", 5)]) (N := ["_law_rows", "_law_word", "_law_found", "_law_row", "_law_entry", "_law_one"]) (sc := defScope s_l_done) (by decide +kernel)) (fun _ _ _ _ _ => (pg_name (i := 5) sc_l_done.nd rfl (.inl rfl))) (fun _ _ _ _ _ => (pts_one (PW.pt (pw_and (pt_cmpR op_eq (pe_ix ix_tup (pv 5) pe_int (fun _ _ => rfl)) pe_str (nomark _)) (pw_and1 (pt_cmpR op_eq (pe_ix ix_tup (pv 5) pe_int (fun _ _ => rfl)) (pe_ix ix_tup (pv 3) pe_int (fun _ _ => rfl)) (nomark _))))))) (fun _ _ _ _ _ => (pv 5))) pe_int (fun _ _ => rfl))) (pss_one (ps_if (PW.pt (pw_and (pt_cmpR op_notN (pe_ix ix_tup (pv 4) pe_int (fun _ _ => rfl)) pe_non (nomark _)) (pw_and1 (pt_cmpR op_eq (pe_ix ix_tup (pe_ix ix_tup (pv 4) pe_int (fun _ _ => rfl)) pe_int (fun _ _ => rfl)) (pv 1) (nomark _))))) (pss_one (ps_expr (pe_bm PySem.F.plainAttrs_list PySem.F.slot_list_append PySem.F.type_list_append mt_append (pv 2) (pa_cons (pe_tup (pa_cons (pe_ix ix_tup (pv 3) pe_int (fun _ _ => rfl)) (pa_cons (pe_ix ix_tup (pv 4) pe_int (fun _ _ => rfl)) pa_nil))) pa_nil)))) pss_nil))) pss_nil))) (pss_one (ps_ret (pv 2))))), ?_⟩
    refine ⟨Nat.zero_le _, fun D nD => ?_⟩
    have s1 : Same H (upd H D (.lst [])) := same_new (Same.refl H) nD
    have hD1 : (upd H D (.lst [])) D = some (.lst []) := upd_same
    generalize (upd H D (.lst [])) = H1 at s1 hD1 ⊢
    have h1 := h.same s1
    refine ⟨_, rfl, p, rfl, ⟨_, SqL.of h1.1⟩, ?_⟩
    have pD : p ≠ D := ne_of_none h.1 nD
    have keep : ∀ {H'}, (∀ c o, c ≠ D → H1 c = some o → H' c = some o) → RowsL H' p zs := fun {H'} f => ⟨f _ _ pD h1.1, h1.2.tk fun c xs e => f c _ (ne_of e hD1 (by intro z; cases z)) e⟩
    refine for_list (K := K) (a := p) (xs := zs.map (·.1)) (fun j σ H' => ∃ (v3 v4 v5 : Option V) (xs : List V), σ = [some (.ref p), some (.str z), some (.ref D), v3, v4, v5] ∧ (∀ c o, c ≠ D → H1 c = some o → H' c = some o) ∧ H' D = some (.lst xs) ∧ TDAll H' xs ((((zs.map (·.2)).take j).filterMap (doneE (zs.map (·.2)) z)).map dmD) ∧ xs.length ≤ j) ⟨none, none, none, [], rfl, fun c o _ e => e, hD1, .nil, Nat.le_refl _⟩ (fun i σ H' _ w => ?_) ?_ ?_
    · obtain ⟨v3, v4, v5, xs, _, f, _⟩ := w
      exact SqL.of (keep f).1
    · rintro j v0 σ H2 hj ⟨v3, v4, v5, xs, rfl, f2, hD2, txs, hxl⟩
      rw [List.getElem?_map] at hj
      obtain ⟨u, hu, rfl⟩ := Option.map_eq_some_iff.mp hj
      have hu2 : (zs.map (·.2))[j]? = some u.2 := by rw [List.getElem?_map, hu]; rfl
      have jl := (List.getElem?_eq_some_iff.mp hu).1
      have r2 := keep f2
      have tu := r2.2 u (List.mem_of_getElem? hu)
      obtain ⟨uv, ue⟩ := u
      obtain ⟨q', ys, rfl, hq, tys⟩ := en_at tu
      rw [fm_take hu2]
      refine ⟨_, rfl, q', _, 0, _, rfl, rfl, SqT.of hq, atI_nat (j := 0) rfl, rfl, _, rfl, ?_⟩
      by_cases c : ue.w = ("done" : Str)
      · obtain ⟨n, st, rfl⟩ := wd_do c
        obtain ⟨pl, epl, epn⟩ := done_pl hg (List.mem_of_getElem? hu2)
        obtain ⟨sv, _, rfl, tst, t⟩ := td_cons tys
        cases td_nil t
        refine iteDT rfl ⟨_, rfl, p, rfl, ⟨_, SqL.of r2.1⟩, fun D2 nD2 => ?_⟩
        refine lc_list (K := K) (a := p) (xs := zs.map (·.1)) (fun i H' => Same H2 H' ∧ H' D2 = some (.lst ((selB (wkB "pledge" n) (zs.take i)).map (·.1)))) ⟨same_new (Same.refl H2) nD2, upd_same⟩ (fun i H' _ w => SqL.of (w.1 _ _ r2.1)) ?_ ?_
        · rintro i v1 H3 hi ⟨s3, hD3⟩
          rw [List.getElem?_map] at hi
          obtain ⟨u', hu', rfl⟩ := Option.map_eq_some_iff.mp hi
          have tu' := TD.tk (fun c xs e => s3 c _ e) (r2.2 u' (List.mem_of_getElem? hu'))
          have il := (List.getElem?_eq_some_iff.mp hu').1
          obtain ⟨uv', ue'⟩ := u'
          obtain ⟨q2, ys2, rfl, hq2, tys2⟩ := en_at tu'
          refine ⟨rfl, _, rfl, q2, _, 0, _, rfl, rfl, SqT.of hq2, atI_nat (j := 0) rfl, rfl, _, rfl, ?_⟩
          by_cases c1 : ue'.w = ("pledge" : Str)
          · refine iteDT (congrArg V.str c1) ⟨_, rfl, q2, _, 1, _, rfl, rfl, SqT.of hq2, atI_nat (j := 1) rfl, _, rfl, q', _, 1, _, rfl, rfl, SqT.of (s3 _ _ hq), atI_nat (j := 1) rfl, rfl, _, rfl, ?_⟩
            by_cases c2 : ue'.k = n
            · have cy : wkB "pledge" n ue' = true := by unfold wkB; rw [decide_eq_true c1, decide_eq_true c2]; rfl
              refine iteDT (congrArg V.int c2) ⟨_, rfl, _, hD3, ?_, fun b o e => ?_, ?_⟩
              · rw [List.length_map]
                exact Nat.lt_of_le_of_lt (Nat.le_trans (selB_len _ _) (List.length_take_le' _ _)) (Nat.lt_of_le_of_lt hl (by decide))
              · rw [upd_ne (ne_of_none e nD2)]
                exact s3 b o e
              · rw [upd_same, selB_yes hu' cy, List.map_append]
                rfl
            · exact iteDF (fun e => c2 (V.int.inj e)) ⟨s3, by rw [selB_no hu' (wk_no c2)]; exact hD3⟩
          · exact iteDF (fun e => c1 (V.str.inj e)) (iteF ⟨s3, by rw [selB_no hu' (wk_nw c1)]; exact hD3⟩)
        rintro H3 ⟨s3, hD3⟩
        rw [List.length_map, List.take_length] at hD3
        obtain ⟨pv, esl, hpm⟩ := selB_one epl
        rw [esl] at hD3
        have tp := TD.tk (fun c xs e => s3 c _ e) (r2.2 _ hpm)
        have tp : TD H3 pv pl.d := tp
        obtain ⟨qp, hv', sv', rv, wv, mv, rfl, hqp, t3, t4, t5, t6, t7⟩ := pl_at tp
        have r3 : ∀ c o, c ≠ D → H1 c = some o → H3 c = some o := fun c o ne e => s3 _ _ (f2 c o ne e)
        have hD23 := s3 _ _ hD2
        have t3xs := TDAll.tk (fun c xs e => s3 c _ e) txs
        have hde := doneE_done (z := z) (st := st) epl
        refine ⟨_, _, 0, _, rfl, rfl, SqL.of hD3, atI_nat (j := 0) rfl, ?_⟩
        refine ⟨_, rfl, qp, _, 7, _, rfl, rfl, SqT.of hqp, atI_nat (j := 7) rfl, rfl, _, rfl, ?_⟩
        cases em : pl.more with
        | none =>
          rw [em] at t7
          cases td_none t7
          have h0 : doneE (zs.map (·.2)) z (.done n st) = none := by rw [hde, em]
          refine iteNSDl rfl (iteF ⟨_, _, _, xs, rfl, r3, hD23, ?_, by omega⟩)
          rw [h0]
          show TDAll _ _ ((_ ++ []).map dmD)
          rw [List.append_nil]
          exact t3xs
        | some mm =>
          rw [em] at t7
          obtain ⟨q7, x, y, rfl, h7, mvf, fmf⟩ := more_at t7
          refine iteND (fun e => by cases e) ⟨_, rfl, qp, _, 7, _, rfl, rfl, SqT.of hqp, atI_nat (j := 7) rfl, q7, _, 0, _, rfl, rfl, SqT.of h7, atI_nat (j := 0) rfl, _, rfl, rfl, _, rfl, ?_⟩
          by_cases c3 : mm.w = z
          · refine iteDT (congrArg V.str c3) ⟨_, rfl, .inl ⟨rfl, _, SqL.of hD23⟩, ?_⟩
            refine ⟨_, rfl, q', _, 2, _, rfl, rfl, SqT.of (s3 _ _ hq), atI_nat (j := 2) rfl, _, rfl, qp, _, 7, _, rfl, rfl, SqT.of hqp, atI_nat (j := 7) rfl, len2, fun tp ntp => ?_⟩
            have s4 : Same H3 (upd H3 tp (.tup [sv, .ref q7])) := same_new (Same.refl H3) ntp
            have htp : (upd H3 tp (.tup [sv, .ref q7])) tp = some (.tup [sv, .ref q7]) := upd_same
            generalize (upd H3 tp (.tup [sv, .ref q7])) = H4 at s4 htp ⊢
            have hD4 := s4 _ _ hD23
            have tk5 : Tk H4 (upd H4 D (.lst (xs ++ [.ref tp]))) := fun c xs e => by rw [upd_ne (ne_of e hD4 (by intro z; cases z))]; exact e
            refine ⟨D, _, _, rfl, rfl, hD4, ?_, ⟨_, _, _, xs ++ [.ref tp], rfl, fun c o ne e => ?_, upd_same, ?_, ?_⟩⟩
            · exact Nat.lt_of_le_of_lt (show xs.length ≤ 100 by omega) (by decide)
            · rw [upd_ne ne]
              exact s4 _ _ (r3 c o ne e)
            · have h0 : doneE (zs.map (·.2)) z (.done n st) = some (st, mm) := by rw [hde, em]; exact if_pos c3
              rw [h0]
              show TDAll _ _ ((_ ++ [(st, mm)]).map dmD)
              rw [List.map_append]
              refine TDAll.app (TDAll.tk (fun c xs e => tk5 c _ (s4 c _ e)) t3xs) (.cons ?_ .nil)
              exact .tup (tk5 _ _ htp) (.cons (TD.tk (fun c xs e => tk5 c _ (s4 c _ (s3 c _ e))) tst) (.cons (TD.tk (fun c xs e => tk5 c _ (s4 c _ e)) t7) .nil))
            · rw [List.length_append]
              show xs.length + 1 ≤ j + 1
              omega
          · refine iteDF (fun e => c3 (V.str.inj e)) ⟨_, _, _, xs, rfl, r3, hD23, ?_, by omega⟩
            have h0 : doneE (zs.map (·.2)) z (.done n st) = none := by rw [hde, em]; exact if_neg c3
            rw [h0]
            show TDAll _ _ ((_ ++ []).map dmD)
            rw [List.append_nil]
            exact t3xs
      · refine iteDF (fun e => c (V.str.inj e)) ⟨_, _, _, xs, rfl, f2, hD2, ?_, by omega⟩
        rw [doneE_no c, List.append_nil]
        exact txs
    · rintro σ H2 ⟨v3, v4, v5, xs, rfl, f2, hD2, txs, hxl⟩
      have el : (zs.map (·.1)).length = (zs.map (·.2)).length := by rw [List.length_map, List.length_map]
      rw [el, List.take_length] at txs
      have tl := TDAll.len txs
      rw [List.length_map] at hxl tl
      exact ⟨_, rfl, q D xs H2 (fun c o e => f2 c o (ne_of_none e nD) (s1 c o e)) nD hD2 txs (by show (doneL (zs.map (·.2)) z).length ≤ 60; rw [show (doneL (zs.map (·.2)) z).length = xs.length from tl.symm]; omega)⟩

theorem ok_l_at {P : Program} {w : World} {K : PySem.W.Frag} {mg : Str → Option Value} {base : Heap} {a : Nat → Addr} {d : Nat → FuncData} (T : Txt K mg a d) : FnOk P w K mg base CX0 2 (a 46) (d 46) ["_law_rows", "_law_key", "_law_time", "_law_house", "_law_houses"] spAtB := by
  refine T.F_l_at.ok sc_l_at (fun vs H Q E h => ?_) (fun cdv A outer s0 H vs Q E hr h => ?_)
  · obtain ⟨p, zs, k, t, ho, hn, rfl, h, hg, hl, hk, hkl, h0, q⟩ := h
    rfl
  · obtain ⟨p, zs, k, t, ho, hn, rfl, h, hg, hl, hk, hkl, h0, q⟩ := h
    refine ⟨_, (pss_cons (ps_set (i := 5) sc_l_at.nd rfl (Or.inl rfl) (pe_call (ok_l_first T) (hr.mono (by decide)) (by rfl) T.g_l_first T.F_l_first.kp T.b_l_first .nil pass0 (pa_cons (pv 1) (pa_cons (pv 4) pa_nil)))) (pss_cons (ps_for PassesOwn.never rfl (pi_list (pe_call (ok_l_done T) (hr.mono (by decide)) (by rfl) T.g_l_done T.F_l_done.kp T.b_l_done .nil pass0 (pa_cons (pv 0) (pa_cons pe_str pa_nil)))) (pg_tup (by rfl) (pgs_cons (pg_name (i := 6) sc_l_at.nd rfl (.inl rfl)) (pgs_cons (pg_name (i := 7) sc_l_at.nd rfl (.inl rfl)) pgs_nil))) (pss_one (ps_if (PW.pt (pw_and (pt_cmpR op_eq (pe_ix ix_tup (pv 7) pe_int (fun _ _ => rfl)) (pv 1) (nomark _)) (pw_and1 (pt_cmpR op_le (pe_ix ix_tup (pv 6) pe_int (fun _ _ => rfl)) (pv 2) (nomark _))))) (pss_one (ps_set (i := 5) sc_l_at.nd rfl (Or.inl rfl) (pe_ix ix_tup (pv 7) pe_int (fun _ _ => rfl)))) pss_nil))) (pss_one (ps_ret (pv 5))))), ?_⟩
    refine ⟨_, rfl, _, rfl, k, hn, rfl, hk, hkl, h0, fun H1 s1 => ?_⟩
    have h1 := h.same s1
    refine ⟨_, rfl, p, zs, "move", rfl, h1, hg, hl, fun D xs H2 s2 nD hD txs hxl => ⟨D, rfl, ⟨_, SqL.of hD⟩, ?_⟩⟩
    have xl := TDAll.len txs
    rw [List.length_map] at xl
    refine for_list (K := K) (a := D) (xs := xs) (fun j σ H' => ∃ (v6 v7 : Option V), σ = [some (.ref p), some (.str k), some (.int t), some (.int ho), some (.int hn), some (.int (((doneL (zs.map (·.2)) "move").take j).foldl (moveAt k t) (firstK k hn))), v6, v7] ∧ H' = H2) ⟨none, none, rfl, rfl⟩ (fun i σ H' _ w => by
      obtain ⟨_, _, _, rfl⟩ := w
      exact SqL.of hD) ?_ ?_
    · rintro j v0 σ H3 hj ⟨v6, v7, rfl, rfl⟩
      obtain ⟨d, ed, td⟩ := TDAll.getV txs hj
      rw [List.getElem?_map] at ed
      obtain ⟨x, hx, rfl⟩ := Option.map_eq_some_iff.mp ed
      have hw := doneL_w (List.mem_of_getElem? hx)
      obtain ⟨qx, ys, rfl, hqx, tt⟩ := td_tup td
      obtain ⟨sv, _, rfl, ts, tt⟩ := td_cons tt
      obtain ⟨mv, _, rfl, tm, tt⟩ := td_cons tt
      cases td_nil tt
      obtain ⟨x1, x2⟩ := x
      cases x2 with
      | form t' f' => exact absurd hw (by simp only [More.w]; decide +kernel)
      | move k' to =>
        obtain ⟨q7, u1, u2, rfl, h7, mvf, fmf⟩ := more_at tm
        obtain ⟨rfl, rfl⟩ := mvf k' to rfl
        obtain ⟨qs, rfl, hqs⟩ := st_at ts
        have ef : ((doneL (zs.map (·.2)) "move").take (j + 1)).foldl (moveAt k t) (firstK k hn) = moveAt k t (((doneL (zs.map (·.2)) "move").take j).foldl (moveAt k t) (firstK k hn)) (x1, .move k' to) := by
          rw [List.take_add_one, hx, List.foldl_append]
          rfl
        rw [ef]
        refine ⟨qx, _, rfl, SqT.of hqx, rfl, _, _, rfl, _, _, rfl, rfl, ?_⟩
        refine ⟨_, rfl, q7, _, 1, _, rfl, rfl, SqT.of h7, atI_nat (j := 1) rfl, _, rfl, rfl, _, rfl, ?_⟩
        by_cases c1 : k' = k
        · refine iteDT (congrArg V.str c1) ⟨_, rfl, qs, _, 0, _, rfl, rfl, SqT.of hqs, atI_nat (j := 0) rfl, _, rfl, _, _, rfl, rfl, _, rfl, ?_⟩
          by_cases c2 : x1.t ≤ t
          · have ev : moveAt k t (((doneL (zs.map (·.2)) "move").take j).foldl (moveAt k t) (firstK k hn)) (x1, .move k' to) = to := if_pos ⟨c1, c2⟩
            rw [ev]
            exact iteDT c2 ⟨_, rfl, q7, _, 2, _, rfl, rfl, SqT.of h7, atI_nat (j := 2) rfl, _, _, rfl, rfl⟩
          · have ev : moveAt k t (((doneL (zs.map (·.2)) "move").take j).foldl (moveAt k t) (firstK k hn)) (x1, .move k' to) = (((doneL (zs.map (·.2)) "move").take j).foldl (moveAt k t) (firstK k hn)) := if_neg fun z => c2 z.2
            rw [ev]
            exact iteDF c2 ⟨_, _, rfl, rfl⟩
        · have ev : moveAt k t (((doneL (zs.map (·.2)) "move").take j).foldl (moveAt k t) (firstK k hn)) (x1, .move k' to) = (((doneL (zs.map (·.2)) "move").take j).foldl (moveAt k t) (firstK k hn)) := if_neg fun z => c1 z.1
          rw [ev]
          exact iteDF (fun e => c1 (V.str.inj e)) (iteF ⟨_, _, rfl, rfl⟩)
    · rintro σ H3 ⟨v6, v7, rfl, rfl⟩
      rw [xl, List.take_length]
      exact ⟨_, rfl, q _ (s1.trans s2)⟩

theorem ok_l_more {P : Program} {w : World} {K : PySem.W.Frag} {mg : Str → Option Value} {base : Heap} {a : Nat → Addr} {d : Nat → FuncData} (T : Txt K mg a d) : FnOk P w K mg base CX0 3 (a 47) (d 47) ["_law_bag_here", "_law_state_here", "_law_key", "_law_time"] spMoreB := by
  refine T.F_l_more.ok sc_l_more (fun vs H Q E h => ?_) (fun cdv A outer s0 H vs Q E hr h => ?_)
  · obtain ⟨s, A, b, zs, k, t, rfl, w, hk, ht, q⟩ := h
    rfl
  · obtain ⟨s, A, b, zs, k, t, rfl, w, hk, ht, q⟩ := h
    refine ⟨_, (pss_cons (ps_set (i := 4) sc_l_more.nd rfl (Or.inl rfl) (pe_dget (hu_of hr) (pv 1) pe_str (fun _ _ => rfl))) (pss_cons (ps_set (i := 5) sc_l_more.nd rfl (Or.inl rfl) (pe_call (ok_l_out T) (hr.mono (by decide)) (by rfl) T.g_l_out T.F_l_out.kp T.b_l_out .nil pass0 (pa_cons (pv 0) (pa_cons pe_int pa_nil)))) (Evl.pss_cut (ps_if (PW.pt (pw_and (pt_cmpR op_eq (pv 5) pe_int (nomark _)) (pw_and (pt_cmpR op_gt (pe_dget (hu_of hr) (pv 1) pe_str (fun _ _ => rfl)) pe_int (nomark _)) (pw_and1 (pt_cmpR (EN.op_eqE hr.units) (pe_call (ok_l_busy T) (hr.mono (by decide)) (by rfl) T.g_l_busy T.F_l_busy.kp T.b_l_busy .nil pass0 (pa_cons (pv 1) (pa_cons (pv 2) pa_nil))) (pe_lst pa_nil) (nomark _)))))) (pss_cons (ps_set (i := 6) sc_l_more.nd rfl (Or.inl rfl) (pe_call (ok_l_at T) (hr.mono (by decide)) (by rfl) T.g_l_at T.F_l_at.kp T.b_l_at .nil pass0 (pa_cons (pe_dget (hu_of hr) (pv 1) pe_str (fun _ _ => rfl)) (pa_cons (pv 2) (pa_cons (pe_op op_pow pe_int pe_int) (pa_cons (pv 4) (pa_cons (pe_dget (hu_of hr) (pv 1) pe_str (fun _ _ => rfl)) pa_nil))))))) (pss_cons (ps_set (i := 7) sc_l_more.nd rfl (Or.inl rfl) (pe_ix ix_list (pe_lst (pa_cons (pv 4) (pa_cons (pe_op op_mod (pe_op op_add (pv 4) pe_int) (pe_dget (hu_of hr) (pv 1) pe_str (fun _ _ => rfl))) pa_nil))) (pe_callTy call_int1 (by rfl) T.z_int (by decide +kernel) (pa_cons (pe_cmpR op_eq (pv 6) (pv 4) (nomark _)) pa_nil)) (fun _ _ => rfl))) (pss_one (ps_ret (pe_tup (pa_cons pe_str (pa_cons (pv 2) (pa_cons (pv 7) pa_nil)))))))) pss_nil) (pss_cons (ps_if (PW.pt (pw_and (pt_cmpR op_eq (pv 5) pe_int (nomark _)) (pw_and1 (pt_cmpR (EN.op_eqE hr.units) (pe_call (ok_l_forms_open T) (hr.mono (by decide)) (by rfl) T.g_l_forms_open T.F_l_forms_open.kp T.b_l_forms_open .nil pass0 (pa_cons (pv 1) pa_nil)) (pe_lst pa_nil) (nomark _))))) (pss_one (ps_ret (pe_tup (pa_cons pe_str (pa_cons (pe_op op_add (pe_op op_add (pe_callB (call_max3Nu rfl) (by rfl) T.z_max (by decide +kernel) (pa_cons (pv 3) (pa_cons (pe_dget (hu_of hr) (pv 1) pe_str (fun _ _ => rfl)) (pa_cons (pe_dget (hu_of hr) (pv 1) pe_str (fun _ _ => rfl)) pa_nil)))) pe_int) (pe_call (ok_l_out T) (hr.mono (by decide)) (by rfl) T.g_l_out T.F_l_out.kp T.b_l_out .nil pass0 (pa_cons (pv 0) (pa_cons pe_int pa_nil)))) (pa_cons (pe_op op_add pe_int (pe_call (ok_l_out T) (hr.mono (by decide)) (by rfl) T.g_l_out T.F_l_out.kp T.b_l_out .nil pass0 (pa_cons (pv 0) (pa_cons pe_int pa_nil)))) pa_nil)))))) pss_nil) (pss_one (ps_ret pe_non)))))), ?_⟩
    have h := w.bk
    refine ⟨_, rfl, A.m, _, rfl, h.get (skv_house A b), ?_⟩
    refine ⟨_, rfl, s, 6, rfl, w.bag, by decide, by decide, fun r0 H1 a0 a1 k1 hb1 => ?_⟩
    have w1 := w.fr k1 hb1
    have h1 := w1.bk
    have hh0 := w.w.h0; have hh1 := w.w.h1; have hh2 := w.w.h2
    have la1 := w.w.la1; have fl1 := w.w.fl1; have zl := w.len
    rw [List.length_map] at la1 fl1
    obtain ⟨kl, kll⟩ := kn_let hk
    refine ⟨fun σ' H' => ∃ v6 v7 : Option V, σ' = [some (.ref s), some (.ref A.m), some (.str k), some (.int t), some (.int b.ho), some (.int r0), v6, v7] ∧ Same H1 H', ?_, ?_⟩
    · refine ⟨_, rfl, rfl, _, rfl, ?_⟩
      by_cases c0 : r0 = 0
      · refine iteDT (congrArg V.int c0) ⟨_, rfl, A.m, _, rfl, h1.get (skv_houses A b), _, _, rfl, rfl, _, rfl, ?_⟩
        by_cases c1 : 1 < b.hn
        · refine iteDT c1 ⟨_, rfl, _, rfl, A, b, zs, _, k, _, rfl, h1, zl, w.pok, fun p xs H2 s2 np hp hfr hxl => ⟨Nat.zero_le _, fun p0 np0 => ?_⟩⟩
          have s3 : Same H2 (upd H2 p0 (.lst [])) := same_new (Same.refl H2) np0
          have hp0 : (upd H2 p0 (.lst [])) p0 = some (.lst []) := upd_same
          generalize (upd H2 p0 (.lst [])) = H3 at s3 hp0 ⊢
          have s13 := s2.trans s3
          refine ⟨xs.map V.str, ⟨p, p0, rfl, rfl, .inl ⟨SqL.of (s3 _ _ hp), SqL.of hp0⟩⟩, _, rfl, ?_⟩
          cases xs with
          | cons x r => exact iteF ⟨_, _, rfl, s13⟩
          | nil =>
            have hfr := hfr rfl
            have w3 := w1.same s13
            have h3 := w3.bk
            refine iteT ⟨_, rfl, A.m, _, rfl, h3.get (skv_rows A b), _, rfl, 10, 9, rfl, rfl, ⟨by decide, by decide, by decide⟩, _, rfl, _, rfl, A.m, _, rfl, h3.get (skv_houses A b), A.rw, zs, k, _, b.ho, b.hn, rfl, h3.rows, w.w.gd, zl, kl, kll, by omega, fun H4 s4 => ?_⟩
            have h4 := h3.same s4
            refine ⟨_, rfl, _, rfl, _, _, rfl, rfl, _, rfl, A.m, _, rfl, h4.get (skv_houses A b), _, _, rfl, rfl, (by omega), len2, fun p5 np5 => ?_⟩
            have s5 : Same H4 (upd H4 p5 (.lst [.int b.ho, .int ((b.ho + 1) % b.hn)])) := same_new (Same.refl H4) np5
            have hp5 : (upd H4 p5 (.lst [.int b.ho, .int ((b.ho + 1) % b.hn)])) p5 = some (.lst [.int b.ho, .int ((b.ho + 1) % b.hn)]) := upd_same
            generalize (upd H4 p5 (.lst [.int b.ho, .int ((b.ho + 1) % b.hn)])) = H5 at s5 hp5 ⊢
            have m0 := Int.emod_nonneg (b.ho + 1) (show b.hn ≠ 0 by omega)
            have m1 := Int.emod_lt_of_pos (b.ho + 1) (show 0 < b.hn by omega)
            have fin : ∀ to : Int, 0 ≤ to → to ≤ 10 → ∀ u, H5 u = none → Q (.ref u) (upd H5 u (.tup [.str "move", .str k, .int to])) := fun to t0 t1 u nu => by
              have s15 := s13.trans (s4.trans s5)
              have s6 : Same H1 (upd H5 u (.tup [.str "move", .str k, .int to])) := same_new s15 nu
              exact q (some (.move k to)) _ _ (fun c o n e => s6 c o (k1 c o n e)) (hb1.same s6) (.tup upd_same (.cons (.str _) (.cons (.str _) (.cons (.int _) .nil)))) ⟨rfl, t0, t1, hfr⟩
            refine ⟨_, rfl, _, rfl, rfl, .inr ⟨_, rfl, ?_⟩⟩
            by_cases c2 : (V.int (atL (zs.map (·.2)) k (10 ^ (9 : Int).toNat) b.hn)) = V.int b.ho
            · rw [decide_eq_true c2]
              refine ⟨p5, _, _, _, rfl, rfl, SqL.of hp5, atI_nat (j := 1) rfl, ?_⟩
              exact ⟨_, rfl, _, rfl, len3, fun u nu => fin _ m0 (by omega) u nu⟩
            · rw [decide_eq_false c2]
              refine ⟨p5, _, _, _, rfl, rfl, SqL.of hp5, atI_nat (j := 0) rfl, ?_⟩
              exact ⟨_, rfl, _, rfl, len3, fun u nu => fin _ hh0 (by omega) u nu⟩
        · exact iteDF c1 (iteF ⟨_, _, rfl, Same.refl H1⟩)
      · exact iteDF (fun e => c0 (V.int.inj e)) (iteF ⟨_, _, rfl, Same.refl H1⟩)
    · rintro σ' H2 ⟨v6, v7, rfl, s2⟩
      have none_ : ∀ H3, Same H1 H3 → Q .non H3 := fun H3 s3 => q none _ _ (fun c o n e => s3 c o (k1 c o n e)) (hb1.same s3) .non trivial
      refine ⟨_, rfl, rfl, _, rfl, ?_⟩
      by_cases c0 : r0 = 1
      · have h2 := h1.same s2
        refine iteDT (congrArg V.int c0) ⟨_, rfl, A, b, zs, _, _, rfl, h2, zl, fun p ts H3 s3 np hp htl => ⟨Nat.zero_le _, fun p0 np0 => ?_⟩⟩
        have s4 : Same H3 (upd H3 p0 (.lst [])) := same_new (Same.refl H3) np0
        have hp0 : (upd H3 p0 (.lst [])) p0 = some (.lst []) := upd_same
        generalize (upd H3 p0 (.lst [])) = H4 at s4 hp0 ⊢
        have s24 := s3.trans s4
        refine ⟨ts.map V.int, ⟨p, p0, rfl, rfl, .inl ⟨SqL.of (s4 _ _ hp), SqL.of hp0⟩⟩, _, rfl, ?_⟩
        cases ts with
        | cons x r => exact iteF (none_ _ (s2.trans s24))
        | nil =>
          have s14 := s2.trans s24
          have w4 := w1.same s14
          have h4 := w4.bk
          obtain ⟨m, em, m1, m2, m3, m4⟩ := max3_int t b.fl b.la
          refine iteT ⟨_, rfl, _, rfl, A.m, _, rfl, h4.get (skv_floor A b), _, rfl, A.m, _, rfl, h4.get (skv_last A b), _, _, _, _, rfl, em, _, _, rfl, rfl, ?_⟩
          refine ⟨_, rfl, s, 9, rfl, w4.bag, by decide, by decide, fun r1 H5 b0 b1 k5 hb5 => ?_⟩
          refine ⟨_, _, rfl, rfl, _, rfl, s, 4, rfl, hb5, by decide, by decide, fun r2 H6 d0 d1 k6 hb6 => ?_⟩
          refine ⟨_, _, rfl, rfl, len3, fun u nu => ?_⟩
          have k7 : Fr s H (upd H6 u (.tup [.str "form", .int (m + 1 + r1), .int (1 + r2)])) := (((k1.trans (fr_same s14)).trans k5).trans k6).new nu
          refine q (some (.form (m + 1 + r1) (1 + r2))) _ _ k7 (hb6.new nu) (.tup upd_same (.cons (.str _) (.cons (.int _) (.cons (.int _) .nil)))) ⟨by omega, by omega, by omega, by omega⟩
      · exact iteDF (fun e => c0 (V.int.inj e)) (iteF (none_ _ s2))

theorem ok_l_pledged {P : Program} {w : World} {K : PySem.W.Frag} {mg : Str → Option Value} {base : Heap} {a : Nat → Addr} {d : Nat → FuncData} (T : Txt K mg a d) : FnOk P w K mg base CX0 4 (a 48) (d 48) ["_law_bag_here", "_law_state_here"] (spStepB fun _ => True) := by
  refine T.F_l_pledged.ok sc_l_pledged (fun vs H Q E h => ?_) (fun cdv A outer s0 H vs Q E hr h => ?_)
  · obtain ⟨s, A, b, zs, rfl, wB, hl, _, q⟩ := h
    rfl
  · obtain ⟨s, A, b, zs, rfl, wB, hl, _, q⟩ := h
    refine ⟨_, (pss_cons (ps_set (i := 2) sc_l_pledged.nd rfl (Or.inr rfl) (pe_op op_add (pe_callB (call_max2 rfl) (by rfl) T.z_max (by decide +kernel) (pa_cons (pe_dget (hu_of hr) (pv 1) pe_str (fun _ _ => rfl)) (pa_cons (pe_op op_add (pe_dget (hu_of hr) (pv 1) pe_str (fun _ _ => rfl)) pe_int) pa_nil))) (pe_call (ok_l_out T) (hr.mono (by decide)) (by rfl) T.g_l_out T.F_l_out.kp T.b_l_out .nil pass0 (pa_cons (pv 0) (pa_cons pe_int pa_nil))))) (Evl.pss_cut (ps_if (pt_cmpR (EN.op_neE hr.units) (pe_lc (own := [("_law_when", 15)]) (g := gName 15) (te := (tVar 15)) (tt := (tTest (tOp (rI0 fun i j => .bl (decide (j ≤ i))) (tVar 2) (tVar 15)))) (by rfl) sc_l_pledged.nd (pi_list (pe_call (ok_l_forms_open T) (hr.mono (by decide)) (by rfl) T.g_l_forms_open T.F_l_forms_open.kp T.b_l_forms_open .nil pass0 (pa_cons (pv 1) pa_nil))) (blkOk_by (own := [("_law_when", 15)]) (N := ["_law_bag_here", "_law_state_here", "_law_time", "_law_names", "_law_key", "_law_more_here", "_law_reads", "_law_writes", "_law_own", "_law_busy_here", "_law_way", "_law_here", "_law_some", "_law_stamp", "_law_entry", "_law_when"]) (sc := defScope s_l_pledged) (by decide +kernel)) (fun _ _ _ _ _ => (pg_name (i := 15) sc_l_pledged.nd rfl (.inl rfl))) (fun _ _ _ _ _ => (pts_one (pt_cmpR op_ge (pv 2) (pv 15) (nomark _)))) (fun _ _ _ _ _ => (pv 15))) (pe_lst pa_nil) (nomark _)) (pss_one ps_retN) pss_nil) (pss_cons (ps_set (i := 3) sc_l_pledged.nd rfl (Or.inl rfl) (pe_lst (pa_cons pe_str (pa_cons pe_str (pa_cons pe_str (pa_cons pe_str pa_nil)))))) (pss_cons (ps_set (i := 4) sc_l_pledged.nd rfl (Or.inl rfl) (pe_ix ix_list (pv 3) (pe_call (ok_l_out T) (hr.mono (by decide)) (by rfl) T.g_l_out T.F_l_out.kp T.b_l_out .nil pass0 (pa_cons (pv 0) (pa_cons pe_int pa_nil))) (fun _ _ => rfl))) (pss_cons (ps_set (i := 5) sc_l_pledged.nd rfl (Or.inl rfl) (pe_call (ok_l_more T) (hr.mono (by decide)) (by rfl) T.g_l_more T.F_l_more.kp T.b_l_more .nil pass0 (pa_cons (pv 0) (pa_cons (pv 1) (pa_cons (pv 4) (pa_cons (pv 2) pa_nil)))))) (pss_cons (ps_set (i := 6) sc_l_pledged.nd rfl (Or.inl rfl) (pe_lst pa_nil)) (pss_cons (ps_set (i := 7) sc_l_pledged.nd rfl (Or.inl rfl) (pe_lst pa_nil)) (Evl.pss_cut (ps_for PassesOwn.never rfl (pi_list (pv 3)) (pg_name (i := 8) sc_l_pledged.nd rfl (.inl rfl)) (pss_cons (ps_set (i := 9) sc_l_pledged.nd rfl (Or.inl rfl) (pe_call (ok_l_busy T) (hr.mono (by decide)) (by rfl) T.g_l_busy T.F_l_busy.kp T.b_l_busy .nil pass0 (pa_cons (pv 1) (pa_cons (pv 8) pa_nil)))) (pss_cons (ps_set (i := 10) sc_l_pledged.nd rfl (Or.inl rfl) (pe_call (ok_l_out T) (hr.mono (by decide)) (by rfl) T.g_l_out T.F_l_out.kp T.b_l_out .nil pass0 (pa_cons (pv 0) (pa_cons pe_int pa_nil)))) (pss_cons (ps_set (i := 11) sc_l_pledged.nd rfl (Or.inl rfl) (pe_call (ok_l_at T) (hr.mono (by decide)) (by rfl) T.g_l_at T.F_l_at.kp T.b_l_at .nil pass0 (pa_cons (pe_dget (hu_of hr) (pv 1) pe_str (fun _ _ => rfl)) (pa_cons (pv 8) (pa_cons (pe_op op_pow pe_int pe_int) (pa_cons (pe_dget (hu_of hr) (pv 1) pe_str (fun _ _ => rfl)) (pa_cons (pe_dget (hu_of hr) (pv 1) pe_str (fun _ _ => rfl)) pa_nil))))))) (pss_one (ps_if (PW.pt (pw_and (pt_cmpR op_isN (pv 5) pe_non (nomark _)) (pw_and1 (pt_cmpR op_eq (pv 11) (pe_dget (hu_of hr) (pv 1) pe_str (fun _ _ => rfl)) (nomark _))))) (pss_one (ps_if (PW.pt (pw_and (pt_cmpR (EN.op_eqE hr.units) (pv 9) (pe_lst pa_nil) (nomark _)) (pw_and1 (pt_cmpR op_eq (pv 10) pe_int (nomark _))))) (pss_one (ps_expr (pe_bm PySem.F.plainAttrs_list PySem.F.slot_list_append PySem.F.type_list_append mt_append (pv 7) (pa_cons (pe_tup (pa_cons (pv 8) (pa_cons (pe_call (ok_l_worth T) (hr.mono (by decide)) (by rfl) T.g_l_worth T.F_l_worth.kp T.b_l_worth .nil pass0 (pa_cons (pv 0) pa_nil)) pa_nil))) pa_nil)))) (pss_one (ps_if (PW.pt (pw_and (pt_cmpR op_notIn_seq pe_str (pv 9) (by rfl)) (pw_and1 (pt_cmpR op_eq (pv 10) pe_int (nomark _))))) (pss_one (ps_expr (pe_bm PySem.F.plainAttrs_list PySem.F.slot_list_append PySem.F.type_list_append mt_append (pv 6) (pa_cons (pv 8) pa_nil)))) pss_nil)))) pss_nil)))))) (Evl.pss_cut (ps_if (PW.pt (pw_and (pt_cmpR op_notN (pv 5) pe_non (nomark _)) (pw_and1 (pt_cmpR op_eq (pe_ix ix_tup (pv 5) pe_int (fun _ _ => rfl)) pe_str (nomark _))))) (pss_cons (ps_set (i := 6) sc_l_pledged.nd rfl (Or.inl rfl) (pe_ix ix_list (pe_lst (pa_cons (pe_lst pa_nil) (pa_cons (pe_lst (pa_cons (pv 4) pa_nil)) pa_nil))) (pe_callTy call_int1 (by rfl) T.z_int (by decide +kernel) (pa_cons (pe_cmpR op_ne (pe_ix ix_tup (pv 5) pe_int (fun _ _ => rfl)) (pe_dget (hu_of hr) (pv 1) pe_str (fun _ _ => rfl)) (nomark _)) pa_nil)) (fun _ _ => rfl))) (pss_one (ps_set (i := 7) sc_l_pledged.nd rfl (Or.inl rfl) (pe_ix ix_list (pe_lst (pa_cons (pe_lst pa_nil) (pa_cons (pe_lst (pa_cons (pe_tup (pa_cons (pv 4) (pa_cons (pe_call (ok_l_worth T) (hr.mono (by decide)) (by rfl) T.g_l_worth T.F_l_worth.kp T.b_l_worth .nil pass0 (pa_cons (pv 0) pa_nil)) pa_nil))) pa_nil)) pa_nil))) (pe_callTy call_int1 (by rfl) T.z_int (by decide +kernel) (pa_cons (pe_and (pe_cmpR op_eq (pe_ix ix_tup (pv 5) pe_int (fun _ _ => rfl)) (pe_dget (hu_of hr) (pv 1) pe_str (fun _ _ => rfl)) (nomark _)) (pe_one (pe_cmpR op_gt (pe_call (ok_l_out T) (hr.mono (by decide)) (by rfl) T.g_l_out T.F_l_out.kp T.b_l_out .nil pass0 (pa_cons (pv 0) (pa_cons pe_int pa_nil))) pe_int (nomark _)))) pa_nil)) (fun _ _ => rfl))))) pss_nil) (pss_cons (ps_dput (hu_of hr) (pv 1) pe_str (pe_op op_add (pe_dget (hu_of hr) (pv 1) pe_str (fun _ _ => rfl)) pe_int) rfl) (pss_cons (ps_set (i := 12) sc_l_pledged.nd rfl (Or.inl rfl) (pe_callB (SM.cr_sortedMI2 rfl hr.units) (by rfl) T.z_sorted (by decide +kernel) (pa_cons (pe_callTy (SM.cr_setM2 rfl) (by rfl) T.z_set (by decide +kernel) (pa_cons (pe_lst (pa_cons (pe_dget (hu_of hr) (pv 1) pe_str (fun _ _ => rfl)) (pa_cons (pe_call (ok_l_out T) (hr.mono (by decide)) (by rfl) T.g_l_out T.F_l_out.kp T.b_l_out .nil pass0 (pa_cons (pv 0) (pa_cons (pe_dget (hu_of hr) (pv 1) pe_str (fun _ _ => rfl)) pa_nil))) pa_nil))) pa_nil)) pa_nil))) (Evl.pss_cut (ps_if (pt_cmpR op_notN (pv 5) pe_non (nomark _)) (pss_one (ps_set (i := 12) sc_l_pledged.nd rfl (Or.inl rfl) (pe_callB (SM.cr_sortedMI2 rfl hr.units) (by rfl) T.z_sorted (by decide +kernel) (pa_cons (pe_callTy (SM.cr_setM2 rfl) (by rfl) T.z_set (by decide +kernel) (pa_cons (pe_lst (pa_cons (pe_dget (hu_of hr) (pv 1) pe_str (fun _ _ => rfl)) (pa_cons (pe_op op_mod (pe_op op_add (pe_dget (hu_of hr) (pv 1) pe_str (fun _ _ => rfl)) pe_int) (pe_dget (hu_of hr) (pv 1) pe_str (fun _ _ => rfl))) pa_nil))) pa_nil)) pa_nil)))) pss_nil) (pss_cons (ps_set (i := 13) sc_l_pledged.nd rfl (Or.inl rfl) (pe_tup (pa_cons (pv 2) (pa_cons (pe_dget (hu_of hr) (pv 1) pe_str (fun _ _ => rfl)) (pa_cons (pe_dget (hu_of hr) (pv 1) pe_str (fun _ _ => rfl)) pa_nil))))) (pss_cons (ps_set (i := 14) sc_l_pledged.nd rfl (Or.inl rfl) (pe_tup (pa_cons pe_str (pa_cons (pe_dget (hu_of hr) (pv 1) pe_str (fun _ _ => rfl)) (pa_cons (pe_ix ix_list (pv 12) pe_int (fun _ _ => rfl)) (pa_cons (pe_callTy call_tuple_of (by rfl) T.z_tuple (by decide +kernel) (pa_cons (pv 12) pa_nil)) (pa_cons (pv 13) (pa_cons (pe_callTy call_tuple_of (by rfl) T.z_tuple (by decide +kernel) (pa_cons (pv 6) pa_nil)) (pa_cons (pe_callTy call_tuple_of (by rfl) T.z_tuple (by decide +kernel) (pa_cons (pv 7) pa_nil)) (pa_cons (pv 5) pa_nil)))))))))) (pss_cons (ps_dput (hu_of hr) (pe_dget (hu_of hr) (pv 1) pe_str (fun _ _ => rfl)) (pe_dget (hu_of hr) (pv 1) pe_str (fun _ _ => rfl)) (pv 14) rfl) (pss_cons (ps_dput (hu_of hr) (pv 1) pe_str (pe_op op_add (pe_dget (hu_of hr) (pv 1) pe_str (fun _ _ => rfl)) pe_int) rfl) (pss_cons (ps_dput (hu_of hr) (pv 1) pe_str (pv 2) rfl) (pss_one (ps_expr (pe_bm PySem.F.plainAttrs_list PySem.F.slot_list_append PySem.F.type_list_append mt_append (pe_dget (hu_of hr) (pv 1) pe_str (fun _ _ => rfl)) (pa_cons (pv 14) pa_nil))))))))))))))))))))), ?_⟩
    have h := wB.bk
    have hh0 := wB.w.h0; have hh1 := wB.w.h1; have hh2 := wB.w.h2
    have la0 := wB.w.la0; have la1 := wB.w.la1; have fl0 := wB.w.fl0; have fl1 := wB.w.fl1; have se0 := wB.w.se0; have se1 := wB.w.se1; have nu0 := wB.w.nu0; have nul := wB.w.nul
    rw [List.length_map] at la1 fl1 se1 nul
    have stay : ∀ H', FrB s A H H' → WB H' s A b zs → Q .non H' := fun H' f w' => q b [] H' f (by rw [List.append_nil]; exact w') (Nat.zero_le _) rfl rfl
    refine ⟨_, rfl, A.m, _, rfl, h.get (skv_last A b), _, rfl, A.m, _, rfl, h.get (skv_floor A b), _, _, rfl, rfl, _, _, rfl, _, rfl, s, 3, rfl, wB.bag, by decide, by decide, fun r0 H1 a0 a1 k1 hb1 => ?_⟩
    obtain ⟨t, et⟩ : ∃ t, t = (if b.fl + 1 > b.la then b.fl + 1 else b.la) + r0 := ⟨_, rfl⟩
    have t1 : b.la ≤ t := by rw [et]; split <;> omega
    have t0 : 0 ≤ t := by rw [et]; split <;> omega
    have t2 : t ≤ 10 * zs.length + 10 := by rw [et]; split <;> omega
    refine ⟨_, _, rfl, rfl, ?_⟩
    have w1 := wB.fr k1 hb1
    refine ⟨fun σ' H' => ∃ v15 : Option V, σ' = [some (.ref s), some (.ref A.m), some (.int t), none, none, none, none, none, none, none, none, none, none, none, none, v15] ∧ Same H1 H', ?_, ?_⟩
    · subst et
      refine ⟨_, rfl, A, b, zs, _, _, rfl, w1.bk, w1.len, fun p ts H2 s2 np hp htl => ?_⟩
      refine ⟨p, rfl, ⟨_, SqL.of hp⟩, fun D nD => ?_⟩
      refine lc_list (K := K) (a := p) (xs := ts.map V.int) (fun i H' => Same H2 H' ∧ ∃ us : List Int, H' D = some (.lst (us.map V.int)) ∧ us.length ≤ i) ⟨same_new (Same.refl H2) nD, [], upd_same, Nat.le_refl _⟩ (fun i H' _ z => SqL.of (z.1 _ _ hp)) ?_ ?_
      · rintro i v0 H3 hi ⟨s3, us, hD, hul⟩
        rw [List.getElem?_map] at hi
        obtain ⟨u, hu, rfl⟩ := Option.map_eq_some_iff.mp hi
        have il := (List.getElem?_eq_some_iff.mp hu).1
        refine ⟨rfl, _, rfl, _, rfl, _, _, rfl, rfl, _, rfl, ?_⟩
        by_cases c : u ≤ (if b.fl + 1 > b.la then b.fl + 1 else b.la) + r0
        · refine iteDT c ⟨_, rfl, _, hD, ?_, fun b o e => ?_, us ++ [u], ?_, ?_⟩
          · rw [List.length_map]
            exact Nat.lt_of_le_of_lt (show us.length ≤ 100 by omega) (by decide)
          · rw [upd_ne (ne_of_none e nD)]
            exact s3 b o e
          · rw [upd_same, List.map_append]
            rfl
          · rw [List.length_append]
            show us.length + 1 ≤ _
            omega
        · exact iteDF c ⟨s3, us, hD, by omega⟩
      · rintro H3 ⟨s3, us, hD, hul⟩
        refine ⟨Nat.zero_le _, fun p0 np0 => ?_⟩
        have s4 : Same H3 (upd H3 p0 (.lst [])) := same_new (Same.refl H3) np0
        have hp0 : (upd H3 p0 (.lst [])) p0 = some (.lst []) := upd_same
        generalize (upd H3 p0 (.lst [])) = H4 at s4 hp0 ⊢
        have s14 := s2.trans (s3.trans s4)
        refine ⟨us.map V.int, ⟨D, p0, rfl, rfl, .inl ⟨SqL.of (s4 _ _ hD), SqL.of hp0⟩⟩, _, rfl, ?_⟩
        cases us with
        | nil => exact iteF ⟨_, rfl, s14⟩
        | cons x r => exact iteT (stay H4 ((FrB.fr k1).trans (FrB.same s14)) (w1.same s14))
    · rintro σ' H2 ⟨v15, rfl, s2⟩
      have w2 := w1.same s2
      refine ⟨(by decide : 4 ≤ sizeLine), fun Nm nN => ?_⟩
      have s3 : Same H2 (upd H2 Nm (.lst [.str "a", .str "b", .str "cc", .str "zzz"])) := same_new (Same.refl H2) nN
      have hN : (upd H2 Nm (.lst [.str "a", .str "b", .str "cc", .str "zzz"])) Nm = some (.lst (Kn.map V.str)) := upd_same
      have f2 : FrB s A H H2 := (FrB.fr k1).trans (FrB.same s2)
      have nN0 := f2.free w2 nN
      have w3 := w2.same s3
      have f3 := f2.trans (FrB.same s3)
      obtain ⟨bn1, bn2⟩ := w2.new nN
      show ∃ v, _
      generalize (upd H2 Nm (.lst [.str "a", .str "b", .str "cc", .str "zzz"])) = H3 at s3 hN w3 f3 ⊢
      refine ⟨_, rfl, _, rfl, s, 4, rfl, w3.bag, by decide, by decide, fun r1 H4 b0 b1 k4 hb4 => ?_⟩
      have hN4 := k4 _ _ bn1 hN
      have w4 := w3.fr k4 hb4
      have f4 := f3.trans (FrB.fr k4)
      obtain ⟨i1, rfl⟩ := Int.eq_ofNat_of_zero_le b0
      obtain ⟨key, hkey⟩ : ∃ key, Kn[i1]? = some key := ⟨_, List.getElem?_eq_getElem (by show i1 < 4; omega)⟩
      have hkm : key ∈ Kn := List.mem_of_getElem? hkey
      refine ⟨Nm, _, _, .str key, rfl, rfl, SqL.of hN4, atI_nat (j := i1) (by rw [List.getElem?_map, hkey]; rfl), ?_⟩
      refine ⟨_, rfl, _, rfl, _, rfl, _, rfl, s, A, b, zs, key, t, rfl, w4, hkm, by omega, fun m mv H5 k5 hb5 tm mok => ?_⟩
      have hN5 := k5 _ _ bn1 hN4
      have w5 := w4.fr k5 hb5
      have f5 := f4.trans (FrB.fr k5)
      refine ⟨Nat.zero_le _, fun R nR => ?_⟩
      have s6 : Same H5 (upd H5 R (.lst [])) := same_new (Same.refl H5) nR
      have hR6 : (upd H5 R (.lst [])) R = some (.lst []) := upd_same
      have nR0 := f5.free w5 nR
      obtain ⟨br1, br2⟩ := w5.new nR
      have NR := ne_of_none hN5 nR
      generalize (upd H5 R (.lst [])) = H6 at s6 hR6 ⊢
      have w6 := w5.same s6
      have f6 := f5.trans (FrB.same s6)
      refine ⟨Nat.zero_le _, fun Wd nW => ?_⟩
      have s7 : Same H6 (upd H6 Wd (.lst [])) := same_new (Same.refl H6) nW
      have hW7 : (upd H6 Wd (.lst [])) Wd = some (.lst []) := upd_same
      have nW0 := f6.free w6 nW
      obtain ⟨bw1, bw2⟩ := w6.new nW
      have NW := ne_of_none (s6 _ _ hN5) nW
      have RW := ne_of_none hR6 nW
      generalize (upd H6 Wd (.lst [])) = H7 at s7 hW7 ⊢
      have s57 := s6.trans s7
      have mk0 : Mkg H H7 s A b zs Nm R Wd mv m [] [] := ⟨f6.trans (FrB.same s7), w6.same s7, s57 _ _ hN5, s7 _ _ hR6, ⟨[], hW7, .nil⟩, nN0, nR0, nW0, NR, NW, RW, ⟨bn2, br2, bw2, bn1, br1, bw1⟩, TD.tk (fun c xs e => s57 c _ e) tm, fun r hr => (by cases hr), fun w hw => (by cases hw), fun k hk => (by cases hk), List.nodup_nil⟩
      refine ⟨fun σ' H' => ∃ (v8 v9 v10 v11 : Option V) (rs : List Str) (ws : List (Str × List Int)), σ' = [some (.ref s), some (.ref A.m), some (.int t), some (.ref Nm), some (.str key), some mv, some (.ref R), some (.ref Wd), v8, v9, v10, v11, none, none, none, v15] ∧ Mkg H H' s A b zs Nm R Wd mv m rs ws ∧ rs.length ≤ 4 ∧ ws.length ≤ 4, ?_, ?_⟩
      · refine ⟨_, rfl, Nm, rfl, ⟨_, SqL.of mk0.hN⟩, ?_⟩
        refine for_list (K := K) (a := Nm) (xs := Kn.map V.str) (fun j σ H' => ∃ (v8 v9 v10 v11 : Option V) (rs : List Str) (ws : List (Str × List Int)), σ = [some (.ref s), some (.ref A.m), some (.int t), some (.ref Nm), some (.str key), some mv, some (.ref R), some (.ref Wd), v8, v9, v10, v11, none, none, none, v15] ∧ Mkg H H' s A b zs Nm R Wd mv m rs ws ∧ rs.length ≤ j ∧ ws.length ≤ j ∧ ∀ k ∈ ws.map (·.1), k ∈ Kn.take j) ⟨none, none, none, none, [], [], rfl, mk0, Nat.le_refl _, Nat.le_refl _, fun k hk => by cases hk⟩ (fun i σ H' _ z => ?_) ?_ ?_
        · obtain ⟨_, _, _, _, _, _, _, mk, _⟩ := z
          exact SqL.of mk.hN
        · rintro j v0 σ H8 hj ⟨v8, v9, v10, v11, rs, ws, rfl, mk, hrl, hwl, hkt⟩
          rw [List.getElem?_map] at hj
          obtain ⟨own, ho, rfl⟩ := Option.map_eq_some_iff.mp hj
          have hown : own ∈ Kn := List.mem_of_getElem? ho
          have j4 : j < 4 := (List.getElem?_eq_some_iff.mp ho).1
          obtain ⟨kl, kll⟩ := kn_let hown
          refine ⟨_, rfl, _, rfl, A, b, zs, _, own, _, rfl, mk.w.bk, mk.w.len, mk.w.pok, fun p xs H9 s9 np hp hfr hxl => ?_⟩
          have mk9 := mk.same s9
          refine ⟨_, rfl, s, 4, rfl, mk9.w.bag, by decide, by decide, fun r2 H10 c0 c1 k10 hb10 => ?_⟩
          have mk10 := mk9.fr' k10 hb10
          have hp10 := k10 _ _ (mk.w.bag.ne_new np) hp
          have h10 := mk10.w.bk
          refine ⟨_, rfl, A.m, _, rfl, h10.get (skv_rows A b), _, rfl, 10, 9, rfl, rfl, ⟨by decide, by decide, by decide⟩, _, rfl, A.m, _, rfl, h10.get (skv_house A b), _, rfl, A.m, _, rfl, h10.get (skv_houses A b), A.rw, zs, own, _, b.ho, b.hn, rfl, h10.rows, mk10.w.w.gd, mk10.w.len, kl, kll, by omega, fun H11 s11 => ?_⟩
          have mk11 := mk10.same s11
          have hp11 := s11 _ _ hp10
          have h11 := mk11.w.bk
          refine ⟨_, rfl, rfl, _, rfl, ite_any ?_ (iteF (⟨_, _, _, _, rs, ws, rfl, mk11, by omega, by omega, fun k hk => kn_mono (hkt k hk)⟩))⟩
          refine ⟨_, rfl, _, rfl, A.m, _, rfl, h11.get (skv_house A b), rfl, _, rfl, ite_any ?_ (⟨_, _, _, _, rs, ws, rfl, mk11, by omega, by omega, fun k hk => kn_mono (hkt k hk)⟩)⟩
          refine ⟨_, rfl, Nat.zero_le _, fun p0 np0 => ?_⟩
          have s12 : Same H11 (upd H11 p0 (.lst [])) := same_new (Same.refl H11) np0
          have hp0 : (upd H11 p0 (.lst [])) p0 = some (.lst []) := upd_same
          generalize (upd H11 p0 (.lst [])) = H12 at s12 hp0 ⊢
          have mk12 := mk11.same s12
          have hp12 := s12 _ _ hp11
          refine ⟨xs.map V.str, ⟨p, p0, rfl, rfl, .inl ⟨SqL.of hp12, SqL.of hp0⟩⟩, _, rfl, ?_⟩
          cases xs with
          | cons x r => exact iteF (iteF ⟨_, rfl, p, _, rfl, .inl (SqL.of (hp12)), rfl, flat_strs _, _, rfl, ite_any ⟨_, rfl, rfl, _, rfl, ite_any ⟨_, rfl, .inl ⟨rfl, _, SqL.of mk12.hR⟩, _, rfl, R, _, _, rfl, rfl, mk12.hR, (by rw [List.length_map]; exact Nat.lt_of_le_of_lt (show rs.length ≤ 100 by omega) (by decide)), ⟨_, _, _, _, rs ++ [own], ws, rfl, mk12.putR hown, (by rw [List.length_append]; show rs.length + 1 ≤ _; omega), by omega, fun k hk => kn_mono (hkt k hk)⟩⟩ (⟨_, _, _, _, rs, ws, rfl, mk12, by omega, by omega, fun k hk => kn_mono (hkt k hk)⟩)⟩ (iteF (⟨_, _, _, _, rs, ws, rfl, mk12, by omega, by omega, fun k hk => kn_mono (hkt k hk)⟩))⟩)
          | nil =>
            refine iteT ⟨_, rfl, rfl, _, rfl, ite_any ?_ ⟨_, rfl, p, _, rfl, .inl (SqL.of (hp12)), rfl, flat_strs _, _, rfl, ite_any ⟨_, rfl, rfl, _, rfl, ite_any ⟨_, rfl, .inl ⟨rfl, _, SqL.of mk12.hR⟩, _, rfl, R, _, _, rfl, rfl, mk12.hR, (by rw [List.length_map]; exact Nat.lt_of_le_of_lt (show rs.length ≤ 100 by omega) (by decide)), ⟨_, _, _, _, rs ++ [own], ws, rfl, mk12.putR hown, (by rw [List.length_append]; show rs.length + 1 ≤ _; omega), by omega, fun k hk => kn_mono (hkt k hk)⟩⟩ (⟨_, _, _, _, rs, ws, rfl, mk12, by omega, by omega, fun k hk => kn_mono (hkt k hk)⟩)⟩ (iteF (⟨_, _, _, _, rs, ws, rfl, mk12, by omega, by omega, fun k hk => kn_mono (hkt k hk)⟩))⟩⟩
            obtain ⟨vs, hW, tvs⟩ := mk12.hW
            refine ⟨_, rfl, .inl ⟨rfl, _, SqL.of hW⟩, _, rfl, _, rfl, s, rfl, mk12.w.bag, fun ns pw H13 k13 hb13 npw hpw l1 l2 lb => ⟨len2, fun tp ntp => ?_⟩⟩
            have mk13 := mk12.fr' k13 hb13
            have s14 : Same H13 (upd H13 tp (.tup [.str own, .ref pw])) := same_new (Same.refl H13) ntp
            have htp : (upd H13 tp (.tup [.str own, .ref pw])) tp = some (.tup [.str own, .ref pw]) := upd_same
            have mk14 := mk13.same s14
            have hW14 := s14 _ _ (k13 _ _ mk12.bn.2.2.2.2.2 hW)
            have tw : TD (upd H13 tp (.tup [.str own, .ref pw])) (.ref tp) (wrD (own, ns)) := .tup htp (.cons (.str _) (.cons (.tup (s14 _ _ hpw) (TDAll.ints ns)) .nil))
            generalize (upd H13 tp (.tup [.str own, .ref pw])) = H14 at s14 htp mk14 hW14 tw ⊢
            have el := TDAll.len tvs
            rw [List.length_map] at el
            refine ⟨Wd, vs, _, rfl, rfl, hW14, Nat.lt_of_le_of_lt (show vs.length ≤ 100 by omega) (by decide), ⟨_, _, _, _, rs, ws ++ [(own, ns)], rfl, mk14.putW hW14 tw ⟨hown, l1, l2, lb⟩ (hfr rfl) (fun z => (kn_new ho).1 (hkt _ z)), by omega, (by rw [List.length_append]; show ws.length + 1 ≤ _; omega), fun k hk => ?_⟩⟩
            rw [List.map_append] at hk
            rcases List.mem_append.mp hk with hk | hk
            · exact kn_mono (hkt k hk)
            · rw [List.mem_singleton.mp hk]
              exact (kn_new ho).2
        · rintro σ H8 ⟨v8, v9, v10, v11, rs, ws, rfl, mk, hrl, hwl, hkt⟩
          exact ⟨_, _, _, _, rs, ws, rfl, mk, hrl, hwl⟩
      · rintro σ' H8 ⟨v8, v9, v10, v11, rs, ws, rfl, mk, hrl, hwl⟩
        refine ⟨fun σ' H' => ∃ (R Wd : Addr) (rs : List Str) (ws : List (Str × List Int)), σ' = [some (.ref s), some (.ref A.m), some (.int t), some (.ref Nm), some (.str key), some mv, some (.ref R), some (.ref Wd), v8, v9, v10, v11, none, none, none, v15] ∧ Mkg H H' s A b zs Nm R Wd mv m rs ws ∧ rs.length ≤ 4 ∧ ws.length ≤ 4, ?_, ?_⟩
        · cases m with
          | none =>
            cases td_none mk.tm
            exact ⟨_, rfl, rfl, _, rfl, iteNSDl rfl (iteF ⟨R, Wd, rs, ws, rfl, mk, hrl, hwl⟩)⟩
          | some mm =>
            obtain ⟨q7, x, y, rfl, h7, mvf, fmf⟩ := more_at mk.tm
            refine ⟨_, rfl, rfl, _, rfl, iteND (fun z => by cases z) ⟨_, rfl, q7, _, 0, _, rfl, rfl, SqT.of h7, atI_nat (j := 0) rfl, rfl, _, rfl, ?_⟩⟩
            cases mm with
            | form t' f' => exact iteDF (fun z => absurd (V.str.inj z) (by simp only [More.w]; decide +kernel)) ⟨R, Wd, rs, ws, rfl, mk, hrl, hwl⟩
            | move k' to =>
              obtain ⟨rfl, rfl⟩ := mvf k' to rfl
              obtain ⟨rfl, to0, to1, hfk⟩ := mok
              refine iteDT rfl ⟨Nat.zero_le _, fun E1 nE1 => ⟨_, rfl, len1, fun E2 nE2 => ⟨len2, fun E3 nE3 => ?_⟩⟩⟩
              have s9 := same_new (o := .lst []) (Same.refl H8) nE1
              have s10 := same_new (o := .lst [V.str k']) s9 nE2
              have s11 := same_new (o := .lst [V.ref E1, .ref E2]) s10 nE3
              have a1 := mk.nw nE1
              have a2 := (mk.same s9).nw nE2
              have hE1 : (upd (upd (upd H8 E1 (.lst [])) E2 (.lst [.str k'])) E3 (.lst [.ref E1, .ref E2])) E1 = some (.lst []) := same_new (same_new (Same.refl _) nE2) nE3 _ _ upd_same
              have hE2 : (upd (upd (upd H8 E1 (.lst [])) E2 (.lst [.str k'])) E3 (.lst [.ref E1, .ref E2])) E2 = some (.lst [.str k']) := same_new (Same.refl _) nE3 _ _ upd_same
              have hE3 : (upd (upd (upd H8 E1 (.lst [])) E2 (.lst [.str k'])) E3 (.lst [.ref E1, .ref E2])) E3 = some (.lst [.ref E1, .ref E2]) := upd_same
              generalize (upd (upd (upd H8 E1 (.lst [])) E2 (.lst [.str k'])) E3 (.lst [.ref E1, .ref E2])) = H11 at s11 hE1 hE2 hE3 ⊢
              have mk11 := mk.same s11
              refine ⟨_, rfl, q7, _, 2, _, rfl, rfl, SqT.of (s11 _ _ h7), atI_nat (j := 2) rfl, _, rfl, A.m, _, rfl, mk11.w.bk.get (skv_house A b), rfl, .inr ⟨_, rfl, E3, _, _, _, rfl, rfl, SqL.of hE3, atI_two _ _ _, ?_⟩⟩
              obtain ⟨R', rs', eR, mkR, rl'⟩ : ∃ (R' : Addr) (rs' : List Str), (if (!decide (V.int to = V.int b.ho)) = true then V.ref E2 else V.ref E1) = .ref R' ∧ Mkg H H11 s A b zs Nm R' Wd (.ref q7) (some (.move k' to)) rs' ws ∧ rs'.length ≤ 4 := by
                cases (!decide (V.int to = V.int b.ho)) with
                | false => exact ⟨E1, [], rfl, mk11.reR hE1 a1.1 a1.2.1 a1.2.2.2.1.symm a1.2.2.2.2.1 a1.2.2.2.2.2 (fun r hr => by cases hr), Nat.zero_le _⟩
                | true => exact ⟨E2, [k'], rfl, mk11.reR hE2 a2.1 a2.2.1 a2.2.2.2.1.symm a2.2.2.2.2.1 a2.2.2.2.2.2 (fun r hr => by rw [List.mem_singleton.mp hr]; exact hkm), (by show 1 ≤ 4; decide)⟩
              rw [eR]
              refine ⟨Nat.zero_le _, fun E4 nE4 => ?_⟩
              have s12 := same_new (o := .lst []) (Same.refl H11) nE4
              have hE4 : (upd H11 E4 (.lst [])) E4 = some (.lst []) := upd_same
              have a4 := mkR.nw nE4
              generalize (upd H11 E4 (.lst [])) = H12 at s12 hE4 ⊢
              have mk12 := mkR.same s12
              refine ⟨_, rfl, _, rfl, s, rfl, mk12.w.bag, fun ns pw H13 k13 hb13 npw hpw l1 l2 lb => ⟨len2, fun tp ntp => ⟨len1, fun E5 nE5 => ⟨len2, fun E6 nE6 => ?_⟩⟩⟩⟩
              have mk13 := mk12.fr' k13 hb13
              have s14 := same_new (o := .tup [.str k', .ref pw]) (Same.refl H13) ntp
              have a5 := (mk13.same s14).nw nE5
              have s15 := same_new (o := .lst [.ref tp]) s14 nE5
              have s16 := same_new (o := .lst [.ref E4, .ref E5]) s15 nE6
              have htp : (upd (upd (upd H13 tp (.tup [.str k', .ref pw])) E5 (.lst [.ref tp])) E6 (.lst [.ref E4, .ref E5])) tp = some (.tup [.str k', .ref pw]) := same_new (same_new (Same.refl _) nE5) nE6 _ _ upd_same
              have hE5 : (upd (upd (upd H13 tp (.tup [.str k', .ref pw])) E5 (.lst [.ref tp])) E6 (.lst [.ref E4, .ref E5])) E5 = some (.lst [.ref tp]) := same_new (Same.refl _) nE6 _ _ upd_same
              have hE6 : (upd (upd (upd H13 tp (.tup [.str k', .ref pw])) E5 (.lst [.ref tp])) E6 (.lst [.ref E4, .ref E5])) E6 = some (.lst [.ref E4, .ref E5]) := upd_same
              generalize (upd (upd (upd H13 tp (.tup [.str k', .ref pw])) E5 (.lst [.ref tp])) E6 (.lst [.ref E4, .ref E5])) = H16 at s16 htp hE5 hE6 ⊢
              have mk16 := mk13.same s16
              have hE416 := s16 _ _ (k13 _ _ a4.2.2.2.2.2 hE4)
              have h716 := s16 _ _ (k13.tupB mk12.w.bag (s12 _ _ (s11 _ _ h7)))
              have sel : ∀ (c : Bool) (H17 : Hp), Fr s H16 H17 → BagAt H17 s → ∃ (W' : Addr) (ws' : List (Str × List Int)), (if c = true then V.ref E5 else V.ref E4) = .ref W' ∧ Mkg H H17 s A b zs Nm R' W' (.ref q7) (some (.move k' to)) rs' ws' ∧ ws'.length ≤ 4 := fun c H17 k17 hb17 => by
                have mk17 := mk16.fr' k17 hb17
                cases c with
                | false => exact ⟨E4, [], rfl, mk17.reW (k17 _ _ a4.2.2.2.2.2 hE416) .nil a4.1 a4.2.1 a4.2.2.1 a4.2.2.2.2.1 a4.2.2.2.2.2 (fun w hw => by cases hw) (fun k hk => by cases hk) List.nodup_nil, Nat.zero_le _⟩
                | true =>
                  have tk := k17.tkS mk16.w.bag
                  refine ⟨E5, [(k', ns)], rfl, mk17.reW (k17 _ _ a5.2.2.2.2.2 hE5) (.cons (.tup (tk _ _ htp) (.cons (.str _) (.cons (.tup (tk _ _ (s16 _ _ hpw)) (TDAll.ints ns)) .nil))) .nil) a5.1 a5.2.1 a5.2.2.1 a5.2.2.2.2.1 a5.2.2.2.2.2 (fun w hw => ?_) (fun k hk => ?_) (List.nodup_cons.mpr ⟨fun z => (by cases z), List.nodup_nil⟩), (by show 1 ≤ 4; decide)⟩
                  · rw [List.mem_singleton.mp hw]
                    exact ⟨hkm, l1, l2, lb⟩
                  · rw [List.mem_singleton.mp hk]
                    exact hfk
              refine ⟨_, rfl, q7, _, 2, _, rfl, rfl, SqT.of h716, atI_nat (j := 2) rfl, _, rfl, A.m, _, rfl, mk16.w.bk.get (skv_house A b), rfl, _, rfl, ite_any ?_ ?_⟩
              · refine ⟨_, rfl, s, 3, rfl, mk16.w.bag, by decide, by decide, fun r5 H17 d0 d1 k17 hb17 => ⟨_, _, rfl, rfl, .inr ⟨_, rfl, E6, _, _, _, rfl, rfl, SqL.of (k17 _ _ ((mk13.same s15).nw nE6).2.2.2.2.2 hE6), atI_two _ _ _, ?_⟩⟩⟩
                obtain ⟨W', ws', eW, mkW, wl'⟩ := sel (decide (0 < r5)) H17 k17 hb17
                rw [eW]
                exact ⟨R', W', rs', ws', rfl, mkW, rl', wl'⟩
              · refine .inr ⟨_, rfl, E6, _, _, _, rfl, rfl, SqL.of hE6, atI_two _ _ _, ?_⟩
                obtain ⟨W', ws', eW, mkW, wl'⟩ := sel false H16 (Fr.refl s H16) mk16.w.bag
                rw [eW]
                exact ⟨R', W', rs', ws', rfl, mkW, rl', wl'⟩
        · rintro σ' H9 ⟨R, Wd, rs, ws, rfl, mk, hrl, hwl⟩
          have h9 := mk.w.bk
          have f9 := mk.fr
          have hb9 := mk.w.bag
          have zl := mk.w.len
          have hyb0 : 0 ≤ b.ho ∧ b.ho ≤ 10 := ⟨hh0, by omega⟩
          obtain ⟨bnN, bnR, bnW, nsN, nsR, nsW⟩ := mk.bn
          have hR9 := mk.hR
          obtain ⟨vs, hW9, tvs⟩ := mk.hW
          have tm9 := mk.tm
          have msm := bOwn_mem (A := A) (c := A.m) |>.mpr (.inl rfl)
          have opm := bOwn_mem (A := A) (c := A.op) |>.mpr (.inr (.inr rfl))
          have rwm := bOwn_mem (A := A) (c := A.rw) |>.mpr (.inr (.inl rfl))
          have smA : s ≠ A.m := ne_mem mk.w.ns msm
          obtain ⟨H10, e10⟩ : ∃ H10, H10 = upd H9 A.m (.dK (putK (skv A b) (Sum.inr "serial") (.int (b.se + 1)))) := ⟨_, rfl⟩
          have dp10 : DPut H9 A.m (kV (Sum.inr "serial")) (.int (b.se + 1)) H10 := e10 ▸ DPut.k h9.top (by rw [skv_len]; decide)
          have bk10 := h9.num (skp_serial A b (b.se + 1))
          have tk10 : Tk H9 H10 := fun c xs e => by rw [e10, upd_ne (ne_of e h9.top (by intro z; cases z))]; exact e
          have k10 : ∀ c o, c ≠ A.m → H9 c = some o → H10 c = some o := fun c o n e => by rw [e10, upd_ne n]; exact e
          have f10 : FrB s A H9 H10 := fun c o n m e => k10 c o (ne_mem m msm) e
          rw [← e10] at bk10
          have hb10 : BagAt H10 s := by
            obtain ⟨x, y, e, r⟩ := hb9
            exact ⟨x, y, k10 _ _ smA e, r⟩
          have hR10 := k10 _ _ (ne_mem bnR msm) hR9
          have hW10 := k10 _ _ (ne_mem bnW msm) hW9
          refine ⟨_, rfl, A.m, _, rfl, h9.get (skv_serial A b), _, _, rfl, rfl, _, rfl, A.m, H10, rfl, dp10, ?_⟩
          refine ⟨_, rfl, A.m, _, rfl, bk10.get (skv_house A _), _, rfl, _, rfl, A.m, _, rfl, bk10.get (skv_houses A _), s, b.hn, rfl, hb10, by omega, by omega, fun r6 H11 d0 d1 k11 hb11 => ⟨len2, fun L nL => ?_⟩⟩
          have bk11 := bk10.keep (k11.tkS hb10) fun c hc o e => k11 c o (ne_mem mk.w.ns hc).symm e
          have sL : Same H11 (upd H11 L (.lst [.int b.ho, .int r6])) := same_new (Same.refl H11) nL
          refine ⟨L, [Sum.inl b.ho, Sum.inl r6], rfl, SqL.of upd_same, (by decide : 2 ≤ 1000), fun aS S n H11a na sa ha g => ?_⟩
          have sa : Same (upd H11 L (.lst [.int b.ho, .int r6])) H11a := sa
          obtain ⟨g1, g2, g3, g4⟩ := set_two g hyb0 ⟨d0, by omega⟩
          refine ⟨aS, S, n, [b.ho, r6], rfl, ha, g1, g2, g3, fun ys p H12 _ _ hym hyl np sb hp12 => ?_⟩
          obtain ⟨⟨y0, yr, rfl⟩, yl4, yb⟩ := g4 ys hym hyl
          have s12 : Same H11 H12 := sL.trans (sa.trans sb)
          refine ⟨fun σ' H' => ∃ (p : Addr) (y0 : Int) (yr : List Int), σ' = [some (.ref s), some (.ref A.m), some (.int t), some (.ref Nm), some (.str key), some mv, some (.ref R), some (.ref Wd), v8, v9, v10, v11, some (.ref p), none, none, v15] ∧ Same H12 H' ∧ H' p = some (.lst ((y0 :: yr).map V.int)) ∧ (y0 :: yr).length ≤ 4 ∧ ∀ z ∈ y0 :: yr, 0 ≤ z ∧ z ≤ 10, ?_, ?_⟩
          · refine ⟨_, rfl, rfl, _, rfl, ite_any ?_ ⟨p, y0, yr, rfl, Same.refl H12, hp12, yl4, yb⟩⟩
            have bk12 := bk11.same s12
            have m0 := Int.emod_nonneg (b.ho + 1) (show b.hn ≠ 0 by omega)
            have m1 := Int.emod_lt_of_pos (b.ho + 1) (show 0 < b.hn by omega)
            refine ⟨_, rfl, A.m, _, rfl, bk12.get (skv_house A _), _, rfl, A.m, _, rfl, bk12.get (skv_house A _), _, _, rfl, rfl, _, rfl, A.m, _, rfl, bk12.get (skv_houses A _), _, _, rfl, rfl, (by show 0 < b.hn; omega), len2, fun L2 nL2 => ?_⟩
            refine ⟨L2, [Sum.inl b.ho, Sum.inl ((b.ho + 1) % b.hn)], rfl, SqL.of upd_same, (by decide : 2 ≤ 1000), fun aS2 S2 n2 H12a na2 sa2 ha2 gg2 => ?_⟩
            have sa2 : Same (upd H12 L2 (.lst [.int b.ho, .int ((b.ho + 1) % b.hn)])) H12a := sa2
            obtain ⟨g1', g2', g3', g4'⟩ := set_two gg2 hyb0 ⟨m0, by omega⟩
            refine ⟨aS2, S2, n2, [b.ho, (b.ho + 1) % b.hn], rfl, ha2, g1', g2', g3', fun ys2 p2 H12b _ _ hym2 hyl2 np2 sb2 hp2 => ?_⟩
            obtain ⟨⟨z0, zr, rfl⟩, zl4, zb⟩ := g4' ys2 hym2 hyl2
            exact ⟨p2, z0, zr, rfl, (same_new (Same.refl H12) nL2).trans (sa2.trans sb2), hp2, zl4, zb⟩
          · clear hp12 yl4 yb g4 hym hyl
            rintro σ' H13 ⟨p, y0, yr, rfl, s13, hp13, yl4, yb⟩
            have s1113 := s12.trans s13
            have bk13 := bk11.same s1113
            have hb13 := hb11.same s1113
            have hR13 := s1113 _ _ (k11 _ _ nsR hR10)
            have hW13 := s1113 _ _ (k11 _ _ nsW hW10)
            have tk913 : Tk H9 H13 := fun c xs e => s1113 c _ (k11.tkS hb10 c xs (tk10 c xs e))
            have f13 : FrB s A H H13 := (f9.trans f10).trans ((FrB.fr k11).trans (FrB.same s1113))
            have bk13 : BAt H13 A { b with se := b.se + 1 } zs (led (zs.map (·.2))) zs.length := bk13
            generalize eb2 : ({ b with se := b.se + 1 } : BS) = b2 at bk13
            have e_nu : b2.nu = b.nu := by rw [← eb2]
            have e_ho : b2.ho = b.ho := by rw [← eb2]
            have e_se : b2.se = b.se + 1 := by rw [← eb2]
            refine ⟨_, rfl, _, rfl, A.m, _, rfl, bk13.get (skv_serial A b2), _, rfl, A.m, _, rfl, bk13.get (skv_house A b2), len3, fun St nSt => ?_⟩
            have s14 : Same H13 (upd H13 St (.tup [.int t, .int b2.se, .int b2.ho])) := same_new (Same.refl H13) nSt
            have hSt : (upd H13 St (.tup [.int t, .int b2.se, .int b2.ho])) St = some (.tup [.int t, .int b2.se, .int b2.ho]) := upd_same
            generalize (upd H13 St (.tup [.int t, .int b2.se, .int b2.ho])) = H14 at s14 hSt ⊢
            have bk14 := bk13.same s14
            refine ⟨_, rfl, A.m, _, rfl, bk14.get (skv_number A b2), _, rfl, p, _, 0, _, rfl, rfl, SqL.of (s14 _ _ hp13), atI_nat (j := 0) rfl, _, rfl, p, _, rfl, .inl ⟨SqL.of (s14 _ _ hp13), fun T1 nT1 => ?_⟩⟩
            have s15 : Same H14 (upd H14 T1 (.tup ((y0 :: yr).map V.int))) := same_new (Same.refl H14) nT1
            have hT1 : (upd H14 T1 (.tup ((y0 :: yr).map V.int))) T1 = some (.tup ((y0 :: yr).map V.int)) := upd_same
            generalize (upd H14 T1 (.tup ((y0 :: yr).map V.int))) = H15 at s15 hT1 ⊢
            have hR15 := s15 _ _ (s14 _ _ hR13)
            refine ⟨_, rfl, _, rfl, R, _, rfl, .inl ⟨SqL.of hR15, fun T2 nT2 => ?_⟩⟩
            have s16 : Same H15 (upd H15 T2 (.tup (rs.map V.str))) := same_new (Same.refl H15) nT2
            have hT2 : (upd H15 T2 (.tup (rs.map V.str))) T2 = some (.tup (rs.map V.str)) := upd_same
            generalize (upd H15 T2 (.tup (rs.map V.str))) = H16 at s16 hT2 ⊢
            have hW16 := s16 _ _ (s15 _ _ (s14 _ _ hW13))
            refine ⟨_, rfl, Wd, _, rfl, .inl ⟨SqL.of hW16, fun T3 nT3 => ?_⟩⟩
            have s17 : Same H16 (upd H16 T3 (.tup vs)) := same_new (Same.refl H16) nT3
            have hT3 : (upd H16 T3 (.tup vs)) T3 = some (.tup vs) := upd_same
            generalize (upd H16 T3 (.tup vs)) = H17 at s17 hT3 ⊢
            refine ⟨_, rfl, len8, fun e ne => ?_⟩
            have s18 : Same H17 (upd H17 e (.tup [.str "pledge", .int b2.nu, .int y0, .ref T1, .ref St, .ref T2, .ref T3, mv])) := same_new (Same.refl H17) ne
            have he : (upd H17 e (.tup [.str "pledge", .int b2.nu, .int y0, .ref T1, .ref St, .ref T2, .ref T3, mv])) e = some (.tup [.str "pledge", .int b2.nu, .int y0, .ref T1, .ref St, .ref T2, .ref T3, mv]) := upd_same
            generalize (upd H17 e (.tup [.str "pledge", .int b2.nu, .int y0, .ref T1, .ref St, .ref T2, .ref T3, mv])) = H18 at s18 he ⊢
            have s1318 := s14.trans (s15.trans (s16.trans (s17.trans s18)))
            have bk18 := bk13.same s1318
            have hb18 := hb13.same s1318
            have tk918 : Tk H9 H18 := fun c xs z => s1318 c _ (tk913 c xs z)
            have f18 : FrB s A H H18 := f13.trans (FrB.same s1318)
            obtain ⟨pl, epl⟩ : ∃ pl : Pl, pl = ⟨b.nu, y0, y0 :: yr, ⟨t, b.se + 1, b.ho⟩, rs, ws, m⟩ := ⟨_, rfl⟩
            have pok : Pok pl := epl ▸ mk.pok t0 (by omega) hrl hwl yl4 yb (.head _) hkm mok
            have pn : pl.n = b2.nu := by rw [epl, e_nu]
            have te : TD H18 (.ref e) pl.d := by
              have tup : ∀ {p xs}, H16 p = some (.tup xs) → H18 p = some (.tup xs) := fun z => s18 _ _ (s17 _ _ z)
              rw [epl]
              refine .tup he (.cons (.str _) (.cons ?_ (.cons (.int _) (.cons (.tup (s18 _ _ (s17 _ _ (s16 _ _ hT1))) (TDAll.ints (y0 :: yr))) (.cons (.tup (s18 _ _ (s17 _ _ (s16 _ _ (s15 _ _ hSt)))) (.cons (.int _) (.cons ?_ (.cons ?_ .nil)))) (.cons (.tup (tup hT2) (TDAll.strs rs)) (.cons (.tup (s18 _ _ hT3) (TDAll.tk tk918 tvs)) (.cons (TD.tk tk918 tm9) .nil))))))))
              · rw [e_nu]; exact .int _
              · rw [e_se]; exact .int _
              · rw [e_ho]; exact .int _
            obtain ⟨kv, ek, lkv, _⟩ := bk18.op.ex
            obtain ⟨H19, e19⟩ : ∃ H19, H19 = upd H18 A.op (.dK (putK kv (Sum.inl b2.nu) (.ref e))) := ⟨_, rfl⟩
            have dp19 : DPut H18 A.op (kV (Sum.inl b2.nu)) (.ref e) H19 := e19 ▸ DPut.k ek (Nat.lt_of_le_of_lt lkv (Nat.lt_of_le_of_lt zl (by decide)))
            have bk19 := bk18.opn (s' := led (zs.map (·.2) ++ [.pledge pl])) (kv' := putK kv (Sum.inl b2.nu) (.ref e)) (f := setN (led (zs.map (·.2))).un b2.nu (some pl)) (by rw [led_snoc, ← pn]; rfl) (bk18.op.put ek te)
            have k19 : ∀ c o, c ≠ A.op → H18 c = some o → H19 c = some o := fun c o n z => by rw [e19, upd_ne n]; exact z
            have tk19 : Tk H18 H19 := fun c xs z => k19 c _ (ne_of z ek (by intro y; cases y)) z
            rw [← e19] at bk19
            refine ⟨_, rfl, _, rfl, A.m, _, rfl, bk18.get (skv_open A b2), _, rfl, A.m, _, rfl, bk18.get (skv_number A b2), A.op, H19, rfl, dp19, ?_⟩
            obtain ⟨H20, e20⟩ : ∃ H20, H20 = upd H19 A.m (.dK (putK (skv A b2) (Sum.inr "number") (.int (b2.nu + 1)))) := ⟨_, rfl⟩
            have dp20 : DPut H19 A.m (kV (Sum.inr "number")) (.int (b2.nu + 1)) H20 := e20 ▸ DPut.k bk19.top (by rw [skv_len]; decide)
            have bk20 := bk19.num (skp_number A b2 (b2.nu + 1))
            have k20 : ∀ c o, c ≠ A.m → H19 c = some o → H20 c = some o := fun c o n z => by rw [e20, upd_ne n]; exact z
            have tk20 : Tk H19 H20 := fun c xs z => k20 c _ (ne_of z bk19.top (by intro y; cases y)) z
            rw [← e20] at bk20
            refine ⟨_, rfl, A.m, _, rfl, bk19.get (skv_number A b2), _, _, rfl, rfl, _, rfl, A.m, H20, rfl, dp20, ?_⟩
            obtain ⟨b3, eb3⟩ : ∃ b3 : BS, b3 = { b2 with nu := b2.nu + 1 } := ⟨_, rfl⟩
            rw [← eb3] at bk20
            obtain ⟨H21, e21⟩ : ∃ H21, H21 = upd H20 A.m (.dK (putK (skv A b3) (Sum.inr "last") (.int t))) := ⟨_, rfl⟩
            have dp21 : DPut H20 A.m (kV (Sum.inr "last")) (.int t) H21 := e21 ▸ DPut.k bk20.top (by rw [skv_len]; decide)
            have bk21 := bk20.num (skp_last A b3 t)
            have k21 : ∀ c o, c ≠ A.m → H20 c = some o → H21 c = some o := fun c o n z => by rw [e21, upd_ne n]; exact z
            have tk21 : Tk H20 H21 := fun c xs z => k21 c _ (ne_of z bk20.top (by intro y; cases y)) z
            rw [← e21] at bk21
            refine ⟨_, rfl, _, rfl, A.m, H21, rfl, dp21, ?_⟩
            have te21 := TD.tk tk21 (TD.tk tk20 (TD.tk tk19 te))
            have bk22 := bk21.row (e := .pledge pl) te21
            refine ⟨_, rfl, A.m, _, rfl, bk21.get (skv_rows A _), .inl ⟨rfl, _, SqL.of bk21.rows.1⟩, _, rfl, A.rw, _, _, rfl, rfl, bk21.rows.1, ?_, ?_⟩
            · rw [List.length_map]
              exact Nat.lt_of_le_of_lt zl (by decide)
            have eb4 : ({ b3 with la := t } : BS) = { b with nu := b.nu + 1, la := t, se := b.se + 1 } := by rw [eb3, ← eb2]
            rw [eb4] at bk22
            have em : (zs ++ [(V.ref e, En.pledge pl)]).map (·.2) = zs.map (·.2) ++ [.pledge pl] := by rw [List.map_append]; rfl
            refine q { b with nu := b.nu + 1, la := t, se := b.se + 1 } [(.ref e, .pledge pl)] _ (fun c o n1 n2 z => ?_) ⟨?_, ?_, ?_, wB.ns⟩ (Nat.le_refl _) rfl rfl
            · rw [upd_ne (ne_mem n2 rwm)]
              exact k21 _ _ (ne_mem n2 msm) (k20 _ _ (ne_mem n2 msm) (k19 _ _ (ne_mem n2 opm) (f18 c o n1 n2 z)))
            · obtain ⟨x, y, z, r⟩ := hb18
              refine ⟨x, y, ?_, r⟩
              rw [upd_ne (ne_mem wB.ns rwm)]
              exact k21 _ _ smA (k20 _ _ smA (k19 _ _ (ne_mem wB.ns opm) z))
            · rw [em, List.length_append]
              exact bk22
            · rw [em]
              refine wB.w.pledge (by rw [pn, e_nu]) pok (by rw [epl]) t1 (by rw [List.length_map]; omega) (by rw [List.length_map]; exact hl) fun k hk => ?_
              rw [epl] at hk
              exact mk.wf k hk

    trace_state
    stop
    skip

theorem ok_l_marked {P : Program} {w : World} {K : PySem.W.Frag} {mg : Str → Option Value} {base : Heap} {a : Nat → Addr} {d : Nat → FuncData} (T : Txt K mg a d) : FnOk P w K mg base CX0 2 (a 49) (d 49) ["_law_bag_here", "_law_state_here"] (spStepB fun _ => True) := by
  refine T.F_l_marked.ok sc_l_marked (fun vs H Q E h => ?_) (fun cdv A outer s0 H vs Q E hr h => ?_)
  · obtain ⟨s, A, b, zs, rfl, wB, hl, _, q⟩ := h
    rfl
  · obtain ⟨s, A, b, zs, rfl, wB, hl, _, q⟩ := h
    refine ⟨_, (Evl.pss_cut (ps_lock (ps_setLc (i := 2) (own := [("_law_dealing", 5)]) (g := gName 5) (te := (tOp (rI0 fun i j => .int (i - j)) (tOp (rIxT K) (tOp (rIxT K) (tDGet (tDGet (tVar 1) (tC (.str "open"))) (tVar 5)) (tC (.int 4))) (tC (.int 0))) (tC (.int 1)))) (by rfl) sc_l_marked.nd rfl rfl (sw_true rfl rfl rfl (by decide +kernel)) (pi_keys (pe_dget (hu_of hr) (pv 1) pe_str (fun _ _ => rfl))) (blkOk_by (own := [("_law_dealing", 5)]) (N := ["_law_bag_here", "_law_state_here", "_law_times", "_law_time", "_law_marks", "_law_dealing", "_law_row"]) (sc := defScope s_l_marked) (by decide +kernel)) (fun _ _ _ _ _ => (pg_name (i := 5) sc_l_marked.nd rfl (.inl rfl))) (fun _ _ _ _ _ => pts_nil) (fun _ _ _ _ _ => (pe_op op_sub (pe_ix ix_tup (pe_ix ix_tup (pe_dget (hu_of hr) (pe_dget (hu_of hr) (pv 1) pe_str (fun _ _ => rfl)) (pv 5) (fun _ _ => rfl)) pe_int (fun _ _ => rfl)) pe_int (fun _ _ => rfl)) pe_int)))) (pss_cons (ps_set (i := 3) sc_l_marked.nd rfl (Or.inl rfl) (pe_callB (cr_min rfl) (by rfl) T.z_min (by decide +kernel) (pa_cons (pe_op op_cat (pv 2) (pe_lst (pa_cons (pe_op op_add (pe_callB (call_max2 rfl) (by rfl) T.z_max (by decide +kernel) (pa_cons (pe_dget (hu_of hr) (pv 1) pe_str (fun _ _ => rfl)) (pa_cons (pe_dget (hu_of hr) (pv 1) pe_str (fun _ _ => rfl)) pa_nil))) (pe_call (ok_l_out T) (hr.mono (by decide)) (by rfl) T.g_l_out T.F_l_out.kp T.b_l_out .nil pass0 (pa_cons (pv 0) (pa_cons pe_int pa_nil)))) pa_nil))) pa_nil))) (Evl.pss_cut (ps_setLc (i := 4) (own := [("_law_row", 6)]) (g := gName 6) (te := (tOp (rIxT K) (tVar 6) (tC (.int 1)))) (tt := (tTest (tOp rEq (tOp (rIxT K) (tVar 6) (tC (.int 0))) (tC (.str "mark"))))) (by rfl) sc_l_marked.nd rfl rfl (sw_true rfl rfl rfl (by decide +kernel)) (pi_list (pe_dget (hu_of hr) (pv 1) pe_str (fun _ _ => rfl))) (blkOk_by (own := [("_law_row", 6)]) (N := ["_law_bag_here", "_law_state_here", "_law_times", "_law_time", "_law_marks", "_law_dealing", "_law_row"]) (sc := defScope s_l_marked) (by decide +kernel)) (fun _ _ _ _ _ => (pg_name (i := 6) sc_l_marked.nd rfl (.inl rfl))) (fun _ _ _ _ _ => (pts_one (pt_cmpR op_eq (pe_ix ix_tup (pv 6) pe_int (fun _ _ => rfl)) pe_str (nomark _)))) (fun _ _ _ _ _ => (pe_ix ix_tup (pv 6) pe_int (fun _ _ => rfl)))) (pss_one (ps_if (pt_cmpR op_gt (pv 3) (pe_callB (cr_max rfl) (by rfl) T.z_max (by decide +kernel) (pa_cons (pe_op op_cat (pv 4) (pe_lst (pa_cons (pe_un un_neg pe_int) pa_nil))) pa_nil)) (nomark _)) (pss_cons (ps_expr (pe_bm PySem.F.plainAttrs_list PySem.F.slot_list_append PySem.F.type_list_append mt_append (pe_dget (hu_of hr) (pv 1) pe_str (fun _ _ => rfl)) (pa_cons (pe_tup (pa_cons pe_str (pa_cons (pv 3) pa_nil))) pa_nil))) (pss_one (ps_dput (hu_of hr) (pv 1) pe_str (pe_callB (call_max2 rfl) (by rfl) T.z_max (by decide +kernel) (pa_cons (pe_dget (hu_of hr) (pv 1) pe_str (fun _ _ => rfl)) (pa_cons (pv 3) pa_nil))) rfl))) pss_nil))))), ?_⟩
    have h := wB.bk

    obtain ⟨kv, ek, lk, ndk, ksk, gk⟩ := h.op.ex
    have zl := wB.len
    refine ⟨fun σ' H' => ∃ (D : Addr) (ts : List Int), σ' = [some (.ref s), some (.ref A.m), some (.ref D), none, none, none, none] ∧ Same H H' ∧ H D = none ∧ H' D = some (.lst (ts.map V.int)) ∧ ts.length ≤ 60, ?_, ?_⟩
    · refine ⟨A.op, _, ek, trivial, fun od => ?_⟩
      have hfz : (upd H A.op (.frz od (.dK kv))) A.op = some (.frz od (.dK kv)) := upd_same
      have hmf : (upd H A.op (.frz od (.dK kv))) A.m = some (.dK (skv A b)) := by rw [upd_ne h.mo]; exact h.top
      have tkf : Tk H (upd H A.op (.frz od (.dK kv))) := fun c xs e => by rw [upd_ne (ne_of e ek (by intro z; cases z))]; exact e
      have tail : ∀ H', Same (upd H A.op (.frz od (.dK kv))) H' → Same H (upd H' A.op (.dK kv)) := fun H' s => lock_same' ek s
      have frf : ∀ D, (upd H A.op (.frz od (.dK kv))) D = none → H D = none := fun D e => by
        by_cases z : D = A.op
        · rw [z, upd_same] at e; cases e
        · rw [upd_ne z] at e; exact e
      generalize (upd H A.op (.frz od (.dK kv))) = Hf at hfz hmf tkf tail frf ⊢
      have gk : ∀ n, match valV kv (Sum.inl n) with
          | none => (led (zs.map (·.2))).un n = none
          | some v => ∃ p, (led (zs.map (·.2))).un n = some p ∧ TD Hf v p.d := fun n => by
        have := gk n
        cases e : valV kv (Sum.inl n) with
        | none => rw [e] at this; exact this
        | some v =>
          rw [e] at this
          obtain ⟨p, a, t⟩ := this
          exact ⟨p, a, TD.tk tkf t⟩
      refine ⟨_, rfl, A.m, _, rfl, .inl ⟨_, Sum.inr "open", .inl hmf, rfl, (skv_open A b).symm⟩, A.op, od, rfl, .inl ⟨kv, hfz, fun D nD => ?_⟩⟩
      have kvl : kv.length ≤ 60 := by omega
      refine lc_it walk_keys (fun i H' => Same Hf H' ∧ ∃ us : List Int, H' D = some (.lst (us.map V.int)) ∧ us.length = i) ⟨same_new (Same.refl Hf) nD, [], upd_same, rfl⟩ (fun i H' _ z => z.1 _ _ hfz) ?_ ?_
      · rintro i kx H2' H2 hi ⟨s2, us, hD, hul⟩ ⟨rfl, key, v, hkv, rfl⟩
        obtain ⟨n, p, rfl, hv, hun, tv⟩ := un_at ndk ksk gk hkv
        obtain ⟨q', hv', sv, rv, wv, mv, rfl, hq, t3, t4, t5, t6, t7⟩ := pl_at tv
        obtain ⟨qs, rfl, hqs⟩ := st_at t4
        have hz2 := s2 _ _ hfz
        refine ⟨rfl, _, rfl, A.m, _, rfl, .inl ⟨_, Sum.inr "open", .inl (s2 _ _ hmf), rfl, (skv_open A b).symm⟩, _, rfl, A.op, _, rfl, .inl ⟨kv, Sum.inl n, .inr ⟨od, hz2⟩, rfl, hv.symm⟩, q', _, 4, _, rfl, rfl, SqT.of (s2 _ _ hq), atI_nat (j := 4) rfl, qs, _, 0, _, rfl, rfl, SqT.of (s2 _ _ hqs), atI_nat (j := 0) rfl, _, _, rfl, rfl, ?_⟩
        refine ⟨_, hD, ?_, fun b o e => ?_, us ++ [p.st.t - 1], ?_, by rw [List.length_append, hul]; rfl⟩
        · rw [List.length_map, hul]
          exact Nat.lt_of_lt_of_le (show i < 100 by omega) (by decide)
        · rw [upd_ne (ne_of_none e nD)]
          exact s2 b o e
        · rw [upd_same, List.map_append]
          rfl
      rintro H2 ⟨s2, us, hD, hul⟩
      refine ⟨s2 _ _ hfz, ?_⟩
      have nDo : D ≠ A.op := (ne_of_none hfz nD).symm
      exact ⟨D, us, rfl, tail _ s2, frf D nD, by rw [upd_ne nDo]; exact hD, by omega⟩
    rintro σ' H1 ⟨D, ts, rfl, s1, nD, hD, tsl⟩
    have w1 := wB.same s1

    refine ⟨_, rfl, _, rfl, A.m, _, rfl, w1.bk.get (skv_last A b), _, rfl, A.m, _, rfl, w1.bk.get (skv_floor A b), _, _, rfl, _, rfl, s, 5, rfl, w1.bag, by decide, by decide, fun r H2 r0 r1 k2 hb2 => ⟨_, _, rfl, rfl, len1, fun L nL => ?_⟩⟩
    have w2 := w1.fr k2 hb2
    have Ds : D ≠ s := wB.bag.ne_new nD
    have hD2 := k2 _ _ Ds hD
    have mx : (if b.fl > b.la then b.fl else b.la) ≤ 10 * zs.length := by
      have a1 := wB.w.la1
      have a2 := wB.w.fl1
      rw [List.length_map] at a1 a2
      split <;> omega
    generalize (if b.fl > b.la then b.fl else b.la) = mxv at mx ⊢
    have s3 : Same H2 (upd H2 L (.lst [.int (mxv + r)])) := same_new (Same.refl H2) nL
    have hL : (upd H2 L (.lst [.int (mxv + r)])) L = some (.lst [.int (mxv + r)]) := upd_same
    generalize (upd H2 L (.lst [.int (mxv + r)])) = H3 at s3 hL ⊢
    refine ⟨D, L, _, _, rfl, rfl, s3 _ _ hD2, hL, by rw [List.length_map]; exact Nat.le_trans (show ts.length + 1 ≤ 100 by omega) (by decide), fun D2 nD2 => ?_⟩
    have s4 : Same H3 (upd H3 D2 (.lst (ts.map V.int ++ [.int (mxv + r)]))) := same_new (Same.refl H3) nD2
    have hD2' : (upd H3 D2 (.lst (ts.map V.int ++ [.int (mxv + r)]))) D2 = some (.lst (ts.map V.int ++ [.int (mxv + r)])) := upd_same
    generalize (upd H3 D2 (.lst (ts.map V.int ++ [.int (mxv + r)]))) = H4 at s4 hD2' ⊢
    refine ⟨D2, ts ++ [mxv + r], rfl, SqL.of (ints_snoc hD2'), by rw [List.length_append]; exact Nat.succ_pos _, fun m hm hle => ?_⟩
    have mle : m ≤ mxv + r := hle _ (List.mem_append_right _ (.head _))
    have s24 := s3.trans s4
    have w4 := w2.same s24
    refine ⟨fun σ' H' => ∃ (D3 : Addr) (ms : List Int), σ' = [some (.ref s), some (.ref A.m), some (.ref D), some (.int m), some (.ref D3), none, none] ∧ Same H4 H' ∧ H' D3 = some (.lst (ms.map V.int)) ∧ ms.length ≤ 60, ?_, ?_⟩
    · refine ⟨_, rfl, A.m, _, rfl, w4.bk.get (skv_rows A b), A.rw, rfl, ⟨_, SqL.of w4.bk.rows.1⟩, fun D3 nD3 => ?_⟩
      refine lc_list (K := K) (a := A.rw) (xs := zs.map (·.1)) (fun i H' => Same H4 H' ∧ ∃ ms : List Int, H' D3 = some (.lst (ms.map V.int)) ∧ ms.length ≤ i) ⟨same_new (Same.refl H4) nD3, [], upd_same, Nat.le_refl _⟩ (fun i H' _ w => SqL.of (w.1 _ _ w4.bk.rows.1)) ?_ ?_
      · rintro i v1 H5 hi ⟨s5, ms, hD3, hml⟩
        obtain ⟨e, q2, xs2, hu, rfl, hq2, tl2⟩ := row_at (w4.bk.same s5).rows.2 hi
        have il := (List.getElem?_eq_some_iff.mp hu).1
        refine ⟨rfl, _, rfl, q2, _, 0, _, rfl, rfl, SqT.of hq2, atI_nat (j := 0) rfl, rfl, _, rfl, ?_⟩
        by_cases c1 : e.w = ("mark" : Str)
        · refine iteDT (congrArg V.str c1) ⟨_, rfl, q2, _, 1, _, rfl, rfl, SqT.of hq2, atI_nat (j := 1) rfl, _, hD3, ?_, fun b o e => ?_, ms ++ [e.k], ?_, by rw [List.length_append]; show ms.length + 1 ≤ _; omega⟩
          · rw [List.length_map]
            exact Nat.lt_of_le_of_lt (show ms.length ≤ 100 by omega) (by decide)
          · rw [upd_ne (ne_of_none e nD3)]
            exact s5 b o e
          · rw [upd_same, List.map_append]
            rfl
        · exact iteDF (fun e => c1 (V.str.inj e)) ⟨s5, ms, hD3, by omega⟩
      · rintro H5 ⟨s5, ms, hD3, hml⟩
        rw [List.length_map] at hml
        exact ⟨D3, ms, rfl, s5, hD3, by omega⟩
    rintro σ' H5 ⟨D3, ms, rfl, s5, hD3, hml⟩
    have w5 := w4.same s5
    refine ⟨_, rfl, _, rfl, _, rfl, len1, fun L2 nL2 => ?_⟩
    have s6 : Same H5 (upd H5 L2 (.lst [.int (-1)])) := same_new (Same.refl H5) nL2
    have hL2 : (upd H5 L2 (.lst [.int (-1)])) L2 = some (.lst [.int (-1)]) := upd_same
    generalize (upd H5 L2 (.lst [.int (-1)])) = H6 at s6 hL2 ⊢
    refine ⟨D3, L2, _, _, rfl, rfl, s6 _ _ hD3, hL2, by rw [List.length_map]; exact Nat.le_trans (show ms.length + 1 ≤ 100 by omega) (by decide), fun D4 nD4 => ?_⟩
    have s7 : Same H6 (upd H6 D4 (.lst (ms.map V.int ++ [.int (-1)]))) := same_new (Same.refl H6) nD4
    have hD4 : (upd H6 D4 (.lst (ms.map V.int ++ [.int (-1)]))) D4 = some (.lst (ms.map V.int ++ [.int (-1)])) := upd_same
    generalize (upd H6 D4 (.lst (ms.map V.int ++ [.int (-1)]))) = H7 at s7 hD4 ⊢
    have w7 := w5.same (s6.trans s7)
    refine ⟨D4, ms ++ [-1], rfl, SqL.of (ints_snoc hD4), by rw [List.length_append]; exact Nat.succ_pos _, fun mm hmm hlee => ⟨_, _, rfl, rfl, _, rfl, ?_⟩⟩
    have m1 : -1 ≤ mm := hlee _ (List.mem_append_right _ (.head _))
    have f7 : FrB s A H H7 := (FrB.same s1).trans ((FrB.fr k2).trans (FrB.same (s24.trans (s5.trans (s6.trans s7)))))
    by_cases c : mm < m
    · refine iteDT c ⟨_, rfl, A.m, _, rfl, w7.bk.get (skv_rows A b), .inl ⟨rfl, _, SqL.of w7.bk.rows.1⟩, _, rfl, len2, fun e ne => ?_⟩

      have s8 : Same H7 (upd H7 e (.tup [.str "mark", .int m])) := same_new (Same.refl H7) ne
      have he : (upd H7 e (.tup [.str "mark", .int m])) e = some (.tup [.str "mark", .int m]) := upd_same
      generalize (upd H7 e (.tup [.str "mark", .int m])) = H8 at s8 he ⊢
      have w8 := w7.same s8
      have te : TD H8 (.ref e) (En.d (.mark m)) := .tup he (.cons (.str _) (.cons (.int _) .nil))
      refine ⟨A.rw, _, _, rfl, rfl, w8.bk.rows.1, row_lt wB.len, ?_⟩
      have r9 := w8.bk.row te
      refine ⟨_, rfl, A.m, _, rfl, r9.get (skv_floor A b), _, rfl, _, _, rfl, _, rfl, A.m, _, rfl, DPut.k (k := Sum.inr "floor") r9.top (by rw [skv_len]; decide), ?_⟩
      refine q _ [(.ref e, .mark m)] _ ?_ (wb_flo w8 te (t := m) (.inl ⟨rfl, by omega⟩) (by (split <;> omega)) (by have := wB.w.fl1; rw [List.length_map] at this; (split <;> omega)) hl) (Nat.le_refl _) rfl rfl
      exact f7.trans ((FrB.same s8).trans (FrB.two (bOwn_mem.mpr (.inr (.inl rfl))) (bOwn_mem.mpr (.inl rfl))))

    · refine iteDF c (q b [] H7 f7 ?_ (Nat.zero_le _) rfl rfl)
      rw [List.append_nil]
      exact w7

theorem ok_l_freed {P : Program} {w : World} {K : PySem.W.Frag} {mg : Str → Option Value} {base : Heap} {a : Nat → Addr} {d : Nat → FuncData} (T : Txt K mg a d) : FnOk P w K mg base CX0 2 (a 50) (d 50) ["_law_bag_here", "_law_state_here"] (spStepB fun _ => True) := by
  refine T.F_l_freed.ok sc_l_freed (fun vs H Q E h => ?_) (fun cdv A outer s0 H vs Q E hr h => ?_)
  · obtain ⟨s, A, b, zs, rfl, wB, hl, _, q⟩ := h
    rfl
  · obtain ⟨s, A, b, zs, rfl, wB, hl, _, q⟩ := h
    refine ⟨_, (Evl.pss_cut (ps_lock (ps_setLc (i := 2) (own := [("_law_dealing", 4)]) (g := gName 4) (te := (tOp (rI0 fun i j => .int (i - j)) (tOp (rIxT K) (tOp (rIxT K) (tDGet (tDGet (tVar 1) (tC (.str "open"))) (tVar 4)) (tC (.int 4))) (tC (.int 0))) (tC (.int 1)))) (by rfl) sc_l_freed.nd rfl rfl (sw_true rfl rfl rfl (by decide +kernel)) (pi_keys (pe_dget (hu_of hr) (pv 1) pe_str (fun _ _ => rfl))) (blkOk_by (own := [("_law_dealing", 4)]) (N := ["_law_bag_here", "_law_state_here", "_law_times", "_law_time", "_law_dealing"]) (sc := defScope s_l_freed) (by decide +kernel)) (fun _ _ _ _ _ => (pg_name (i := 4) sc_l_freed.nd rfl (.inl rfl))) (fun _ _ _ _ _ => pts_nil) (fun _ _ _ _ _ => (pe_op op_sub (pe_ix ix_tup (pe_ix ix_tup (pe_dget (hu_of hr) (pe_dget (hu_of hr) (pv 1) pe_str (fun _ _ => rfl)) (pv 4) (fun _ _ => rfl)) pe_int (fun _ _ => rfl)) pe_int (fun _ _ => rfl)) pe_int)))) (pss_cons (ps_set (i := 3) sc_l_freed.nd rfl (Or.inl rfl) (pe_op op_sub (pe_callB (cr_min rfl) (by rfl) T.z_min (by decide +kernel) (pa_cons (pe_op op_cat (pv 2) (pe_lst (pa_cons (pe_dget (hu_of hr) (pv 1) pe_str (fun _ _ => rfl)) pa_nil))) pa_nil)) (pe_call (ok_l_out T) (hr.mono (by decide)) (by rfl) T.g_l_out T.F_l_out.kp T.b_l_out .nil pass0 (pa_cons (pv 0) (pa_cons pe_int pa_nil))))) (pss_one (ps_if (pt_cmpR op_ge (pv 3) pe_int (nomark _)) (pss_cons (ps_expr (pe_bm PySem.F.plainAttrs_list PySem.F.slot_list_append PySem.F.type_list_append mt_append (pe_dget (hu_of hr) (pv 1) pe_str (fun _ _ => rfl)) (pa_cons (pe_tup (pa_cons pe_str (pa_cons (pv 3) pa_nil))) pa_nil))) (pss_one (ps_dput (hu_of hr) (pv 1) pe_str (pe_callB (call_max2 rfl) (by rfl) T.z_max (by decide +kernel) (pa_cons (pe_dget (hu_of hr) (pv 1) pe_str (fun _ _ => rfl)) (pa_cons (pv 3) pa_nil))) rfl))) pss_nil)))), ?_⟩
    have h := wB.bk

    obtain ⟨kv, ek, lk, ndk, ksk, gk⟩ := h.op.ex
    have zl := wB.len
    refine ⟨fun σ' H' => ∃ (D : Addr) (ts : List Int), σ' = [some (.ref s), some (.ref A.m), some (.ref D), none, none] ∧ Same H H' ∧ H D = none ∧ H' D = some (.lst (ts.map V.int)) ∧ ts.length ≤ 60, ?_, ?_⟩
    · refine ⟨A.op, _, ek, trivial, fun od => ?_⟩
      have hfz : (upd H A.op (.frz od (.dK kv))) A.op = some (.frz od (.dK kv)) := upd_same
      have hmf : (upd H A.op (.frz od (.dK kv))) A.m = some (.dK (skv A b)) := by rw [upd_ne h.mo]; exact h.top
      have tkf : Tk H (upd H A.op (.frz od (.dK kv))) := fun c xs e => by rw [upd_ne (ne_of e ek (by intro z; cases z))]; exact e
      have tail : ∀ H', Same (upd H A.op (.frz od (.dK kv))) H' → Same H (upd H' A.op (.dK kv)) := fun H' s => lock_same' ek s
      have frf : ∀ D, (upd H A.op (.frz od (.dK kv))) D = none → H D = none := fun D e => by
        by_cases z : D = A.op
        · rw [z, upd_same] at e; cases e
        · rw [upd_ne z] at e; exact e
      generalize (upd H A.op (.frz od (.dK kv))) = Hf at hfz hmf tkf tail frf ⊢
      have gk : ∀ n, match valV kv (Sum.inl n) with
          | none => (led (zs.map (·.2))).un n = none
          | some v => ∃ p, (led (zs.map (·.2))).un n = some p ∧ TD Hf v p.d := fun n => by
        have := gk n
        cases e : valV kv (Sum.inl n) with
        | none => rw [e] at this; exact this
        | some v =>
          rw [e] at this
          obtain ⟨p, a, t⟩ := this
          exact ⟨p, a, TD.tk tkf t⟩
      refine ⟨_, rfl, A.m, _, rfl, .inl ⟨_, Sum.inr "open", .inl hmf, rfl, (skv_open A b).symm⟩, A.op, od, rfl, .inl ⟨kv, hfz, fun D nD => ?_⟩⟩
      have kvl : kv.length ≤ 60 := by omega
      refine lc_it walk_keys (fun i H' => Same Hf H' ∧ ∃ us : List Int, H' D = some (.lst (us.map V.int)) ∧ us.length = i) ⟨same_new (Same.refl Hf) nD, [], upd_same, rfl⟩ (fun i H' _ z => z.1 _ _ hfz) ?_ ?_
      · rintro i kx H2' H2 hi ⟨s2, us, hD, hul⟩ ⟨rfl, key, v, hkv, rfl⟩
        obtain ⟨n, p, rfl, hv, hun, tv⟩ := un_at ndk ksk gk hkv
        obtain ⟨q', hv', sv, rv, wv, mv, rfl, hq, t3, t4, t5, t6, t7⟩ := pl_at tv
        obtain ⟨qs, rfl, hqs⟩ := st_at t4
        have hz2 := s2 _ _ hfz
        refine ⟨rfl, _, rfl, A.m, _, rfl, .inl ⟨_, Sum.inr "open", .inl (s2 _ _ hmf), rfl, (skv_open A b).symm⟩, _, rfl, A.op, _, rfl, .inl ⟨kv, Sum.inl n, .inr ⟨od, hz2⟩, rfl, hv.symm⟩, q', _, 4, _, rfl, rfl, SqT.of (s2 _ _ hq), atI_nat (j := 4) rfl, qs, _, 0, _, rfl, rfl, SqT.of (s2 _ _ hqs), atI_nat (j := 0) rfl, _, _, rfl, rfl, ?_⟩
        refine ⟨_, hD, ?_, fun b o e => ?_, us ++ [p.st.t - 1], ?_, by rw [List.length_append, hul]; rfl⟩
        · rw [List.length_map, hul]
          exact Nat.lt_of_lt_of_le (show i < 100 by omega) (by decide)
        · rw [upd_ne (ne_of_none e nD)]
          exact s2 b o e
        · rw [upd_same, List.map_append]
          rfl
      rintro H2 ⟨s2, us, hD, hul⟩
      refine ⟨s2 _ _ hfz, ?_⟩
      have nDo : D ≠ A.op := (ne_of_none hfz nD).symm
      exact ⟨D, us, rfl, tail _ s2, frf D nD, by rw [upd_ne nDo]; exact hD, by omega⟩
    rintro σ' H1 ⟨D, ts, rfl, s1, nD, hD, tsl⟩
    have w1 := wB.same s1

    refine ⟨_, rfl, _, rfl, A.m, _, rfl, w1.bk.get (skv_last A b), len1, fun L nL => ?_⟩
    have s3 : Same H1 (upd H1 L (.lst [.int b.la])) := same_new (Same.refl H1) nL
    have hL : (upd H1 L (.lst [.int b.la])) L = some (.lst [.int b.la]) := upd_same
    generalize (upd H1 L (.lst [.int b.la])) = H3 at s3 hL ⊢
    refine ⟨D, L, _, _, rfl, rfl, s3 _ _ hD, hL, by rw [List.length_map]; exact Nat.le_trans (show ts.length + 1 ≤ 100 by omega) (by decide), fun D2 nD2 => ?_⟩
    have s4 : Same H3 (upd H3 D2 (.lst (ts.map V.int ++ [.int b.la]))) := same_new (Same.refl H3) nD2
    have hD2' : (upd H3 D2 (.lst (ts.map V.int ++ [.int b.la]))) D2 = some (.lst (ts.map V.int ++ [.int b.la])) := upd_same
    generalize (upd H3 D2 (.lst (ts.map V.int ++ [.int b.la]))) = H4 at s4 hD2' ⊢
    have w4 := w1.same (s3.trans s4)
    refine ⟨D2, ts ++ [b.la], rfl, SqL.of (ints_snoc hD2'), by rw [List.length_append]; exact Nat.succ_pos _, fun m0 hm hle => ?_⟩
    have mle : m0 ≤ b.la := hle _ (List.mem_append_right _ (.head _))
    refine ⟨_, rfl, s, 6, rfl, w4.bag, by decide, by decide, fun r H7 r0 r1 k2 hb2 => ⟨_, _, rfl, rfl, _, rfl, _, _, rfl, rfl, _, rfl, ?_⟩⟩
    have w7 := w4.fr k2 hb2
    have f7 : FrB s A H H7 := (FrB.same s1).trans ((FrB.same (s3.trans s4)).trans (FrB.fr k2))
    have la1 := wB.w.la1
    rw [List.length_map] at la1
    by_cases c : 0 ≤ m0 - r
    · refine iteDT c ⟨_, rfl, A.m, _, rfl, w7.bk.get (skv_rows A b), .inl ⟨rfl, _, SqL.of w7.bk.rows.1⟩, _, rfl, len2, fun e ne => ?_⟩

      have s8 : Same H7 (upd H7 e (.tup [.str "gone", .int (m0 - r)])) := same_new (Same.refl H7) ne
      have he : (upd H7 e (.tup [.str "gone", .int (m0 - r)])) e = some (.tup [.str "gone", .int (m0 - r)]) := upd_same
      generalize (upd H7 e (.tup [.str "gone", .int (m0 - r)])) = H8 at s8 he ⊢
      have w8 := w7.same s8
      have te : TD H8 (.ref e) (En.d (.gone (m0 - r))) := .tup he (.cons (.str _) (.cons (.int _) .nil))
      refine ⟨A.rw, _, _, rfl, rfl, w8.bk.rows.1, row_lt wB.len, ?_⟩
      have r9 := w8.bk.row te
      refine ⟨_, rfl, A.m, _, rfl, r9.get (skv_floor A b), _, rfl, _, _, rfl, _, rfl, A.m, _, rfl, DPut.k (k := Sum.inr "floor") r9.top (by rw [skv_len]; decide), ?_⟩
      refine q _ [(.ref e, .gone (m0 - r))] _ ?_ (wb_flo w8 te (t := (m0 - r)) (.inr rfl) (by (split <;> omega)) (by have := wB.w.fl1; rw [List.length_map] at this; (split <;> omega)) hl) (Nat.le_refl _) rfl rfl
      exact f7.trans ((FrB.same s8).trans (FrB.two (bOwn_mem.mpr (.inr (.inl rfl))) (bOwn_mem.mpr (.inl rfl))))

    · refine iteDF c (q b [] H7 f7 ?_ (Nat.zero_le _) rfl rfl)
      rw [List.append_nil]
      exact w7

theorem ok_l_ended {P : Program} {w : World} {K : PySem.W.Frag} {mg : Str → Option Value} {base : Heap} {a : Nat → Addr} {d : Nat → FuncData} (T : Txt K mg a d) : FnOk P w K mg base CX0 2 (a 51) (d 51) ["_law_bag_here", "_law_state_here"] (spStepB fun s => ∃ n p, s.un n = some p) := by
  refine T.F_l_ended.ok sc_l_ended (fun vs H Q E h => ?_) (fun cdv A outer s0 H vs Q E hr h => ?_)
  · obtain ⟨s, A, b, zs, rfl, wB, hl, ⟨n0, p0, hn0⟩, q⟩ := h
    rfl
  · obtain ⟨s, A, b, zs, rfl, wB, hl, ⟨n0, p0, hn0⟩, q⟩ := h
    refine ⟨_, (pss_cons (ps_set (i := 2) sc_l_ended.nd rfl (Or.inr rfl) (pe_ix ix_list (pe_callB (call_sortedDI rfl) (by rfl) T.z_sorted (by decide +kernel) (pa_cons (pe_dget (hu_of hr) (pv 1) pe_str (fun _ _ => rfl)) pa_nil)) (pe_call (ok_l_out T) (hr.mono (by decide)) (by rfl) T.g_l_out T.F_l_out.kp T.b_l_out .nil pass0 (pa_cons (pv 0) (pa_cons (pe_callB call_lenD (by rfl) T.z_len PySem.boot_len (pa_cons (pe_dget (hu_of hr) (pv 1) pe_str (fun _ _ => rfl)) pa_nil)) pa_nil))) (fun _ _ => rfl))) (pss_cons (ps_set (i := 3) sc_l_ended.nd rfl (Or.inl rfl) (pe_dget (hu_of hr) (pe_dget (hu_of hr) (pv 1) pe_str (fun _ _ => rfl)) (pv 2) (fun _ _ => rfl))) (Evl.pss_cut (ps_setLc (i := 4) (own := [("_law_row", 10)]) (g := gName 10) (te := (tVar 10)) (tt := (tAnd (tTest (tOp rEq (tOp (rIxT K) (tVar 10) (tC (.int 0))) (tC (.str "sure")))) (tTest (tOp rEq (tOp (rIxT K) (tVar 10) (tC (.int 1))) (tVar 2))))) (by rfl) sc_l_ended.nd rfl rfl (sw_true rfl rfl rfl (by decide +kernel)) (pi_list (pe_dget (hu_of hr) (pv 1) pe_str (fun _ _ => rfl))) (blkOk_by (own := [("_law_row", 10)]) (N := ["_law_bag_here", "_law_state_here", "_law_dealing", "_law_entry", "_law_sure", "_law_time", "_law_serial", "_law_house", "_law_later", "_law_stamp", "_law_row"]) (sc := defScope s_l_ended) (by decide +kernel)) (fun _ _ _ _ _ => (pg_name (i := 10) sc_l_ended.nd rfl (.inl rfl))) (fun _ _ _ _ _ => (pts_one (PW.pt (pw_and (pt_cmpR op_eq (pe_ix ix_tup (pv 10) pe_int (fun _ _ => rfl)) pe_str (nomark _)) (pw_and1 (pt_cmpR op_eq (pe_ix ix_tup (pv 10) pe_int (fun _ _ => rfl)) (pv 2) (nomark _))))))) (fun _ _ _ _ _ => (pv 10))) (pss_cons (ps_asg (pe_ix ix_tup (pv 3) pe_int (fun _ _ => rfl)) (pg_tup (by rfl) (pgs_cons (pg_name (i := 5) sc_l_ended.nd rfl (.inl rfl)) (pgs_cons (pg_name (i := 6) sc_l_ended.nd rfl (.inl rfl)) (pgs_cons (pg_name (i := 7) sc_l_ended.nd rfl (.inl rfl)) pgs_nil))))) (Evl.pss_cut (ps_if (PW.pt (pw_and (pt_cmpR (EN.op_eqE hr.units) (pv 4) (pe_lst pa_nil) (nomark _)) (pw_and1 (pt_cmpR op_eq (pe_call (ok_l_out T) (hr.mono (by decide)) (by rfl) T.g_l_out T.F_l_out.kp T.b_l_out .nil pass0 (pa_cons (pv 0) (pa_cons pe_int pa_nil))) pe_int (nomark _))))) (pss_cons (ps_expr (pe_bm PySem.F.plainAttrs_list PySem.F.slot_list_append PySem.F.type_list_append mt_append (pe_dget (hu_of hr) (pv 1) pe_str (fun _ _ => rfl)) (pa_cons (pe_tup (pa_cons pe_str (pa_cons (pv 2) pa_nil))) pa_nil))) (pss_cons (ps_expr (pe_dpop1 (pe_dget (hu_of hr) (pv 1) pe_str (fun _ _ => rfl)) (pv 2) ⟨rfl, rfl, rfl, rfl⟩)) (pss_one ps_retN))) pss_nil) (pss_cons (ps_set (i := 8) sc_l_ended.nd rfl (Or.inl rfl) (pe_op op_add (pv 5) (pe_call (ok_l_out T) (hr.mono (by decide)) (by rfl) T.g_l_out T.F_l_out.kp T.b_l_out .nil pass0 (pa_cons (pv 0) (pa_cons pe_int pa_nil))))) (Evl.pss_cut (ps_if (PW.pt (pw_and (pt_cmpR op_notN (pe_ix ix_tup (pv 3) pe_int (fun _ _ => rfl)) pe_non (nomark _)) (pw_and1 (pt_cmpR op_eq (pe_ix ix_tup (pe_ix ix_tup (pv 3) pe_int (fun _ _ => rfl)) pe_int (fun _ _ => rfl)) pe_str (nomark _))))) (pss_one (ps_set (i := 8) sc_l_ended.nd rfl (Or.inl rfl) (pe_callB (call_min2 rfl) (by rfl) T.z_min (by decide +kernel) (pa_cons (pv 8) (pa_cons (pe_op op_sub (pe_ix ix_tup (pe_ix ix_tup (pv 3) pe_int (fun _ _ => rfl)) pe_int (fun _ _ => rfl)) pe_int) pa_nil))))) pss_nil) (pss_cons (ps_set (i := 9) sc_l_ended.nd rfl (Or.inl rfl) (pe_tup (pa_cons (pv 8) (pa_cons (pe_op op_add (pe_op op_add (pe_callB (call_max2 rfl) (by rfl) T.z_max (by decide +kernel) (pa_cons (pe_dget (hu_of hr) (pv 1) pe_str (fun _ _ => rfl)) (pa_cons (pv 6) pa_nil))) pe_int) (pe_call (ok_l_out T) (hr.mono (by decide)) (by rfl) T.g_l_out T.F_l_out.kp T.b_l_out .nil pass0 (pa_cons (pv 0) (pa_cons pe_int pa_nil)))) (pa_cons (pe_ix ix_tup (pv 3) pe_int (fun _ _ => rfl)) pa_nil))))) (Evl.pss_cut (ps_if (pt_cmpR (EN.op_neE hr.units) (pv 4) (pe_lst pa_nil) (nomark _)) (pss_one (ps_set (i := 9) sc_l_ended.nd rfl (Or.inl rfl) (pe_ix ix_tup (pe_ix ix_list (pv 4) pe_int (fun _ _ => rfl)) pe_int (fun _ _ => rfl)))) (pss_one (ps_if (pt_cmpR op_eq (pe_ix ix_tup (pv 3) pe_int (fun _ _ => rfl)) (pe_dget (hu_of hr) (pv 1) pe_str (fun _ _ => rfl)) (nomark _)) (pss_one (ps_expr (pe_bm PySem.F.plainAttrs_list PySem.F.slot_list_append PySem.F.type_list_append mt_append (pe_dget (hu_of hr) (pv 1) pe_str (fun _ _ => rfl)) (pa_cons (pe_tup (pa_cons pe_str (pa_cons (pv 2) (pa_cons (pv 9) (pa_cons (pe_op op_sub (pv 5) (pe_call (ok_l_out T) (hr.mono (by decide)) (by rfl) T.g_l_out T.F_l_out.kp T.b_l_out .nil pass0 (pa_cons (pv 0) (pa_cons pe_int pa_nil)))) pa_nil))))) pa_nil)))) pss_nil))) (Evl.pss_cut (ps_if (PW.pt (pw_or (pt_cmpR (EN.op_neE hr.units) (pv 4) (pe_lst pa_nil) (nomark _)) (pw_or1 (pt_cmpR op_ne (pe_ix ix_tup (pv 3) pe_int (fun _ _ => rfl)) (pe_dget (hu_of hr) (pv 1) pe_str (fun _ _ => rfl)) (nomark _))))) (pss_cons (ps_expr (pe_bm PySem.F.plainAttrs_list PySem.F.slot_list_append PySem.F.type_list_append mt_append (pe_dget (hu_of hr) (pv 1) pe_str (fun _ _ => rfl)) (pa_cons (pe_tup (pa_cons pe_str (pa_cons (pv 2) (pa_cons (pv 9) pa_nil)))) pa_nil))) (pss_one (ps_expr (pe_dpop1 (pe_dget (hu_of hr) (pv 1) pe_str (fun _ _ => rfl)) (pv 2) ⟨rfl, rfl, rfl, rfl⟩)))) pss_nil) (pss_cons (ps_dput (hu_of hr) (pv 1) pe_str (pe_callB (call_max2 rfl) (by rfl) T.z_max (by decide +kernel) (pa_cons (pe_dget (hu_of hr) (pv 1) pe_str (fun _ _ => rfl)) (pa_cons (pe_ix ix_tup (pv 9) pe_int (fun _ _ => rfl)) pa_nil))) rfl) (pss_one (ps_dput (hu_of hr) (pv 1) pe_str (pe_callB (call_max2 rfl) (by rfl) T.z_max (by decide +kernel) (pa_cons (pe_dget (hu_of hr) (pv 1) pe_str (fun _ _ => rfl)) (pa_cons (pe_ix ix_tup (pv 9) pe_int (fun _ _ => rfl)) pa_nil))) rfl))))))))))))), ?_⟩
    have h := wB.bk
    obtain ⟨kv, ek, lk, ndk, ksk, gk⟩ := h.op.ex
    have zl := wB.len
    obtain ⟨ks, ek1, ek2, _⟩ := int_keys ndk ksk
    have kl : ks.length = kv.length := by
      have := congrArg List.length ek1
      rw [List.length_map, List.length_map] at this
      exact this.symm
    have kpos : 0 < kv.length := by
      obtain ⟨i, v, hi⟩ := un_in gk hn0
      exact Nat.lt_of_le_of_lt (Nat.zero_le _) (List.getElem?_eq_some_iff.mp hi).1
    refine ⟨_, rfl, A.m, _, rfl, h.get (skv_open A b), A.op, kv, ks, rfl, .inl ek, ek1, by omega, fun ys p perm srt np => ?_⟩
    have s1 : Same H (upd H p (.lst (ys.map V.int))) := same_new (Same.refl H) np
    have hp : (upd H p (.lst (ys.map V.int))) p = some (.lst (ys.map V.int)) := upd_same
    generalize (upd H p (.lst (ys.map V.int))) = H1 at s1 hp ⊢
    have w1 := wB.same s1
    have yl : ys.length = kv.length := by rw [perm.length_eq, kl]
    have ps : p ≠ s := wB.bag.ne_new np
    obtain ⟨sn1, sn2, sn3⟩ := wB.sne
    refine ⟨_, rfl, _, rfl, A.m, _, rfl, w1.bk.get (skv_open A b), A.op, kv, rfl, s1 _ _ ek, s, _, rfl, w1.bag, by omega, by omega, fun r H2 r0 r1 k2 hb2 => ?_⟩
    have w2 := w1.fr k2 hb2
    obtain ⟨j, rfl⟩ := Int.eq_ofNat_of_zero_le r0
    have jl : j < ys.length := by omega
    obtain ⟨dn, hdn⟩ : ∃ dn, ys[j]? = some dn := ⟨_, List.getElem?_eq_getElem jl⟩
    have ek2' := k2 _ _ sn3.symm (s1 _ _ ek)
    refine ⟨p, _, j, _, rfl, rfl, SqL.of (k2 _ _ ps hp), atI_nat (j := j) (by rw [List.getElem?_map, hdn]; rfl), ?_⟩
    have dks : (Sum.inl dn : Key) ∈ kv.map (·.1) := by
      rw [ek1]
      exact List.mem_map_of_mem (perm.mem_iff.mp (List.mem_of_getElem? hdn))
    obtain ⟨v, hv⟩ := Option.isSome_iff_exists.mp (val_some_iff.mpr dks)
    obtain ⟨pl, hun, tv⟩ : ∃ p, (led (zs.map (·.2))).un dn = some p ∧ TD H v p.d := by
      have := gk dn
      rw [hv] at this
      exact this
    have tk2 : Tk H H2 := fun c xs e => k2.tkS w1.bag c xs (s1 _ _ e)
    obtain ⟨q', hv', sv, rv, wv, mv, rfl, hq, t3, t4, t5, t6, t7⟩ := pl_at (TD.tk tk2 tv)
    obtain ⟨qs, rfl, hqs⟩ := st_at t4
    refine ⟨_, rfl, A.m, _, rfl, w2.bk.get (skv_open A b), _, rfl, A.op, _, rfl, un_put hv ek2', ?_⟩
    obtain ⟨dn1, dn2, dn3, pk⟩ := wB.w.pn dn pl hun
    have dn1 : pl.n = dn := dn1
    have suc := su_cases wB.w hun
    have f2 : FrB s A H H2 := (FrB.same s1).trans (FrB.fr k2)
    -- what is sure of it
    refine ⟨fun σ' H' => ∃ D : Addr, σ' = [some (.ref s), some (.ref A.m), some (.int dn), some (.ref q'), some (.ref D), none, none, none, none, none, none] ∧ Same H2 H' ∧ H D = none ∧ H' D = some (.lst ((selB (wkB "sure" dn) zs).map (·.1))), ?_, ?_⟩
    · refine ⟨_, rfl, A.m, _, rfl, w2.bk.get (skv_rows A b), A.rw, rfl, ⟨_, SqL.of w2.bk.rows.1⟩, fun D nD => ?_⟩
      refine lc_list (K := K) (a := A.rw) (xs := zs.map (·.1)) (fun i H' => Same H2 H' ∧ H' D = some (.lst ((selB (wkB "sure" dn) (zs.take i)).map (·.1)))) ⟨same_new (Same.refl H2) nD, upd_same⟩ (fun i H' _ w => SqL.of (w.1 _ _ w2.bk.rows.1)) ?_ ?_
      · rintro i v1 H3 hi ⟨s3, hD3⟩
        obtain ⟨e, q2, xs2, hu, rfl, hq2, tl2⟩ := row_at (w2.bk.same s3).rows.2 hi
        refine ⟨rfl, _, rfl, q2, _, 0, _, rfl, rfl, SqT.of hq2, atI_nat (j := 0) rfl, rfl, _, rfl, ?_⟩
        by_cases c1 : e.w = ("sure" : Str)
        · refine iteDT (congrArg V.str c1) ⟨_, rfl, q2, _, 1, _, rfl, rfl, SqT.of hq2, atI_nat (j := 1) rfl, _, rfl, rfl, _, rfl, ?_⟩
          by_cases c2 : e.k = dn
          · refine iteDT (congrArg V.int c2) ⟨_, rfl, _, hD3, sel_len (by omega), fun b o e => ?_, ?_⟩
            · rw [upd_ne (ne_of_none e nD)]
              exact s3 b o e
            · rw [upd_same, selB_yes hu (wk_yes c1 c2), List.map_append]
              rfl
          · exact iteDF (fun e => c2 (V.int.inj e)) ⟨s3, by rw [selB_no hu (wk_no c2)]; exact hD3⟩
        · exact iteDF (fun e => c1 (V.str.inj e)) (iteF ⟨s3, by rw [selB_no hu (wk_nw c1)]; exact hD3⟩)
      · rintro H3 ⟨s3, hD3⟩
        rw [List.length_map, List.take_length] at hD3
        exact ⟨D, rfl, s3, f2.free w2 nD, hD3⟩
    rintro σ' H3 ⟨D, rfl, s3, nD, hD3⟩
    have w3 := w2.same s3
    obtain ⟨Ds, DB⟩ := wB.new nD
    have hq3 := s3 _ _ hq
    refine ⟨_, rfl, q', _, 4, _, rfl, rfl, SqT.of hq3, atI_nat (j := 4) rfl, qs, _, rfl, SqT.of (s3 _ _ hqs), rfl, _, _, rfl, _, _, rfl, _, _, rfl, rfl, ?_⟩
    have sel0 : (zs.map (·.2)).filter (wkB "sure" dn) = [] ↔ selB (wkB "sure" dn) zs = [] := by
      rw [← selB_snd]
      exact List.map_eq_nil_iff
    -- off
    refine ⟨fun σ' H' => σ' = [some (.ref s), some (.ref A.m), some (.int dn), some (.ref q'), some (.ref D), some (.int pl.st.t), some (.int pl.st.s), some (.int pl.st.h), none, none, none] ∧ Fr s H3 H' ∧ BagAt H' s, ?_, ?_⟩
    · refine ⟨_, rfl, Nat.zero_le _, fun p0 np0 => ?_⟩
      have s4 : Same H3 (upd H3 p0 (.lst [])) := same_new (Same.refl H3) np0
      have hp0 : (upd H3 p0 (.lst [])) p0 = some (.lst []) := upd_same
      generalize (upd H3 p0 (.lst [])) = H4 at s4 hp0 ⊢
      have w4 := w3.same s4
      refine ⟨_, ⟨D, p0, rfl, rfl, .inl ⟨SqL.of (s4 _ _ hD3), SqL.of hp0⟩⟩, _, rfl, ?_⟩
      cases es : selB (wkB "sure" dn) zs with
      | cons x r => exact iteF (iteF ⟨rfl, fr_same s4, w4.bag⟩)
      | nil =>
        refine iteT ⟨_, rfl, s, 4, rfl, w4.bag, by decide, by decide, fun r4 H5 a0 a1 k5 hb5 => ⟨rfl, _, rfl, ?_⟩⟩
        have w5 := w4.fr k5 hb5
        refine ite_any ?_ ⟨rfl, (fr_same s4).trans k5, hb5⟩
        refine ⟨_, rfl, A.m, _, rfl, w5.bk.get (skv_rows A b), .inl ⟨rfl, _, SqL.of w5.bk.rows.1⟩, _, rfl, len2, fun e ne => ?_⟩
        have s6 : Same H5 (upd H5 e (.tup [.str "off", .int dn])) := same_new (Same.refl H5) ne
        have he : (upd H5 e (.tup [.str "off", .int dn])) e = some (.tup [.str "off", .int dn]) := upd_same
        generalize (upd H5 e (.tup [.str "off", .int dn])) = H6 at s6 he ⊢
        have w6 := w5.same s6
        have te : TD H6 (.ref e) (En.d (.off dn)) := .tup he (.cons (.str _) (.cons (.int _) .nil))
        refine ⟨A.rw, _, _, rfl, rfl, w6.bk.rows.1, row_lt wB.len, ?_⟩
        have r7 := w6.bk.row te
        obtain ⟨kv7, ek7, lk7, _, _, gk7⟩ := r7.op.ex
        have hv7 : ∃ v, valV kv7 (Sum.inl dn) = some v := by
          have := gk7 dn
          cases e : valV kv7 (Sum.inl dn) with
          | none => rw [e, hun] at this; cases this
          | some v => exact ⟨v, rfl⟩
        obtain ⟨v7, hv7⟩ := hv7
        refine ⟨_, rfl, A.m, _, rfl, r7.get (skv_open A b), A.op, rfl, .inl ⟨_, .inl ek7⟩, _, rfl, kv7, Sum.inl dn, v7, ek7, rfl, hv7, ?_⟩
        have r8 := r7.opn (s' := led (zs.map (·.2) ++ [.off dn])) (f := setN (led (zs.map (·.2))).un dn none) (by rw [led_snoc]; rfl) (r7.op.drop ek7 (n := dn))
        refine q b [(.ref e, .off dn)] _ ?_ ⟨?_, ?_, ?_, wB.ns⟩ (Nat.le_refl _) rfl rfl
        · exact (f2.trans ((FrB.same s3).trans ((FrB.same s4).trans ((FrB.fr k5).trans (FrB.same s6))))).trans (FrB.two (bOwn_mem.mpr (.inr (.inl rfl))) (bOwn_mem.mpr (.inr (.inr rfl))))
        · exact (w6.bag.atO sn2).atO sn3
        · rw [map_snoc, List.length_append]
          exact r8.un_eq rfl (Nat.le_succ _)
        · rw [map_snoc]
          exact wB.w.off (n := dn) (nu := b.nu) (.inl ⟨dn3, rfl⟩) (by rw [List.length_map]; exact hl)
    rintro σ' H4 ⟨rfl, f34, hb4⟩
    have w4 := w3.fr f34 hb4
    have fH4 : FrB s A H H4 := f2.trans ((FrB.same s3).trans (FrB.fr f34))
    have tk4 : Tk H H4 := fun c xs e => f34.tkS w3.bag c xs (s3 _ _ (tk2 c xs e))
    have hq4 := f34.tkS w3.bag _ _ hq3
    have hD4 := f34 _ _ Ds hD3
    have t74 := TD.tk (fun c xs e => f34.tkS w3.bag c xs (s3 _ _ e)) t7
    refine ⟨_, rfl, _, rfl, s, 4, rfl, w4.bag, by decide, by decide, fun r5 H5 b0 b1 k5 hb5 => ⟨_, _, rfl, rfl, ?_⟩⟩
    have w5 := w4.fr k5 hb5
    have hq5 := k5.tkS w4.bag _ _ hq4
    have hD5 := k5 _ _ Ds hD4
    have t75 := TD.tk (k5.tkS w4.bag) t74
    -- ahead of a form
    refine ⟨fun σ' H' => ∃ la : Int, σ' = [some (.ref s), some (.ref A.m), some (.int dn), some (.ref q'), some (.ref D), some (.int pl.st.t), some (.int pl.st.s), some (.int pl.st.h), some (.int la), none, none] ∧ H' = H5 ∧ pl.st.t ≤ la ∧ la ≤ pl.st.t + 3, ?_, ?_⟩
    · cases em : pl.more with
      | none =>
        rw [em] at t75
        cases td_none t75
        exact ⟨_, rfl, q', _, 7, _, rfl, rfl, SqT.of hq5, atI_nat (j := 7) rfl, rfl, _, rfl, iteNSDl rfl (iteF ⟨_, rfl, rfl, by omega, by omega⟩)⟩
      | some mm =>
        rw [em] at t75
        obtain ⟨q7, x, y, rfl, h7, mvf, fmf⟩ := more_at t75
        refine ⟨_, rfl, q', _, 7, _, rfl, rfl, SqT.of hq5, atI_nat (j := 7) rfl, rfl, _, rfl, iteND (fun z => by cases z) ⟨_, rfl, q', _, 7, _, rfl, rfl, SqT.of hq5, atI_nat (j := 7) rfl, q7, _, 0, _, rfl, rfl, SqT.of h7, atI_nat (j := 0) rfl, rfl, _, rfl, ?_⟩⟩
        cases mm with
        | move k' to => exact iteDF (fun z => absurd (V.str.inj z) (by simp only [More.w]; decide +kernel)) ⟨_, rfl, rfl, by omega, by omega⟩
        | form t' f' =>
          obtain ⟨rfl, rfl⟩ := fmf t' f' rfl
          have mo := pk.mo _ em
          have mo1 : pl.st.t < t' := mo.1
          refine iteDT rfl ⟨_, rfl, _, rfl, q', _, 7, _, rfl, rfl, SqT.of hq5, atI_nat (j := 7) rfl, q7, _, 1, _, rfl, rfl, SqT.of h7, atI_nat (j := 1) rfl, _, _, rfl, rfl, _, _, rfl, _, rfl, rfl, ?_, ?_⟩ <;> (split <;> omega)
    rintro σ' H5' ⟨la, rfl, rfl, la1, la2⟩
    have e_se0 := wB.w.se0
    have e_se1 := wB.w.se1
    have e_la1 := wB.w.la1
    obtain ⟨pt0, pt1, pt2, pt3, _, _⟩ := wB.w.pst hun
    refine ⟨_, rfl, _, rfl, A.m, _, rfl, w5.bk.get (skv_serial A b), _, rfl, _, _, rfl, _, _, rfl, rfl, _, rfl, s, 2, rfl, w5.bag, by decide, by decide, fun r6 H6 c0 c1 k6 hb6 => ⟨_, _, rfl, rfl, ?_⟩⟩
    have w6 := w5.fr k6 hb6
    have hq6 := k6.tkS w5.bag _ _ hq5
    have hD6 := k6 _ _ Ds hD5
    refine ⟨_, rfl, q', _, 2, _, rfl, rfl, SqT.of hq6, atI_nat (j := 2) rfl, len3, fun St nSt => ?_⟩
    obtain ⟨mse, emse⟩ : ∃ m : Int, m = (if pl.st.s > b.se then pl.st.s else b.se) := ⟨_, rfl⟩
    have mse0 : b.se ≤ mse ∧ pl.st.s ≤ mse ∧ mse ≤ b.se := by rw [emse]; split <;> omega
    rw [← emse]
    clear emse
    have s7 : Same H6 (upd H6 St (.tup [.int la, .int (mse + 1 + r6), .int pl.home])) := same_new (Same.refl H6) nSt
    have hSt : (upd H6 St (.tup [.int la, .int (mse + 1 + r6), .int pl.home])) St = some (.tup [.int la, .int (mse + 1 + r6), .int pl.home]) := upd_same
    generalize (upd H6 St (.tup [.int la, .int (mse + 1 + r6), .int pl.home])) = H7 at s7 hSt ⊢
    have w7 := w6.same s7
    have hq7 := s7 _ _ hq6
    have hD7 := s7 _ _ hD6
    have f7 : FrB s A H H7 := fH4.trans ((FrB.fr k5).trans ((FrB.fr k6).trans (FrB.same s7)))
    -- which stamp; sure here
    refine ⟨fun σ' H' => ∃ (sv : Addr) (st : St3), σ' = [some (.ref s), some (.ref A.m), some (.int dn), some (.ref q'), some (.ref D), some (.int pl.st.t), some (.int pl.st.s), some (.int pl.st.h), some (.int la), some (.ref sv), none] ∧ FrB s A H H' ∧ BagAt H' s ∧ Tk H7 H' ∧ H' D = some (.lst ((selB (wkB "sure" dn) zs).map (·.1))) ∧ H' sv = some (.tup (st.l.map V.int)) ∧ pl.st.t ≤ st.t ∧ pl.st.s < st.s ∧ st.h = pl.home ∧ st.t ≤ 10 * ((zs.map (·.2)).length : Int) + 10 ∧ st.s ≤ 10 * ((zs.map (·.2)).length : Int) + 10 ∧ ((BAt H' A b zs (led (zs.map (·.2))) zs.length ∧ (selB (wkB "sure" dn) zs = [] → pl.home ≠ b.ho)) ∨ (selB (wkB "sure" dn) zs = [] ∧ pl.home = b.ho ∧ ∃ v low, BAt H' A b (zs ++ [(v, .sure dn st low)]) (led (zs.map (·.2))) zs.length ∧ -10 ≤ low ∧ low ≤ 10000)), ?_, ?_⟩
    · refine ⟨_, rfl, Nat.zero_le _, fun p0 np0 => ?_⟩
      have s8 : Same H7 (upd H7 p0 (.lst [])) := same_new (Same.refl H7) np0
      have hp0 : (upd H7 p0 (.lst [])) p0 = some (.lst []) := upd_same
      generalize (upd H7 p0 (.lst [])) = H8 at s8 hp0 ⊢
      have w8 := w7.same s8
      have f8 := f7.trans (FrB.same s8)
      have tk8 : Tk H7 H8 := fun c xs e => s8 _ _ e
      refine ⟨_, ⟨D, p0, rfl, rfl, .inl ⟨SqL.of (s8 _ _ hD7), SqL.of hp0⟩⟩, _, rfl, ?_⟩
      rcases suc with ⟨u1, u2⟩ | ⟨st, low, u1, u2, u3, u4, u5, u6⟩
      · have es := sel0.mp u1
        rw [es]
        refine iteF ⟨_, rfl, q', _, 2, _, rfl, rfl, SqT.of (s8 _ _ hq7), atI_nat (j := 2) rfl, _, rfl, A.m, _, rfl, w8.bk.get (skv_house A b), rfl, _, rfl, ?_⟩
        have hD8 := s8 _ _ hD7
        rw [es] at hD8
        by_cases c : pl.home = b.ho
        · refine iteDT (congrArg V.int c) ⟨_, rfl, A.m, _, rfl, w8.bk.get (skv_rows A b), .inl ⟨rfl, _, SqL.of w8.bk.rows.1⟩, _, rfl, _, rfl, _, rfl, _, rfl, s, 5, rfl, w8.bag, by decide, by decide, fun r9 H9 d0 d1 k9 hb9 => ⟨_, _, rfl, rfl, len4, fun e ne => ?_⟩⟩
          have w9 := w8.fr k9 hb9
          have s10 : Same H9 (upd H9 e (.tup [.str "sure", .int dn, .ref St, .int (pl.st.t - r9)])) := same_new (Same.refl H9) ne
          have he : (upd H9 e (.tup [.str "sure", .int dn, .ref St, .int (pl.st.t - r9)])) e = some (.tup [.str "sure", .int dn, .ref St, .int (pl.st.t - r9)]) := upd_same
          generalize (upd H9 e (.tup [.str "sure", .int dn, .ref St, .int (pl.st.t - r9)])) = H10 at s10 he ⊢
          have w10 := w9.same s10
          have hSt10 : H10 St = some (.tup ((⟨la, mse + 1 + r6, pl.home⟩ : St3).l.map V.int)) := s10 _ _ (k9.tkS w8.bag _ _ (s8 _ _ hSt))
          have te : TD H10 (.ref e) (En.d (.sure dn ⟨la, mse + 1 + r6, pl.home⟩ (pl.st.t - r9))) := .tup he (.cons (.str _) (.cons (.int _) (.cons (.tup hSt10 (TDAll.ints [la, mse + 1 + r6, pl.home])) (.cons (.int _) .nil))))
          refine ⟨A.rw, _, _, rfl, rfl, w10.bk.rows.1, row_lt wB.len, ?_⟩
          have tk11 : Tk H10 (upd H10 A.rw (.lst (zs.map (·.1) ++ [.ref e]))) := fun c xs z => by rw [upd_ne (ne_of z w10.bk.rows.1 (by intro y; cases y))]; exact z
          refine ⟨St, ⟨la, mse + 1 + r6, pl.home⟩, rfl, ?_, w10.bag.atO sn2, fun c xs z => tk11 _ _ (s10 _ _ (k9.tkS w8.bag _ _ (tk8 _ _ z))), ?_, tk11 _ _ hSt10, la1, by show pl.st.s < mse + 1 + r6; omega, rfl, by show la ≤ _; omega, by show mse + 1 + r6 ≤ _; omega, .inr ⟨rfl, c, .ref e, pl.st.t - r9, w10.bk.row te, by omega, ?_⟩⟩
          · exact (f8.trans ((FrB.fr k9).trans (FrB.same s10))).trans (FrB.at_ (bOwn_mem.mpr (.inr (.inl rfl))))
          · rw [upd_ne (ne_mem DB (bOwn_mem.mpr (.inr (.inl rfl))))]
            exact s10 _ _ (k9 _ _ Ds hD8)
          · have := pk.t2
            omega
        · refine iteDF (fun e => c (V.int.inj e)) ⟨St, ⟨la, mse + 1 + r6, pl.home⟩, rfl, f8, w8.bag, tk8, hD8, s8 _ _ hSt, la1, by show pl.st.s < mse + 1 + r6; omega, rfl, by show la ≤ _; omega, by show mse + 1 + r6 ≤ _; omega, .inl ⟨w8.bk, fun _ => c⟩⟩
      · obtain ⟨v, esl, hm⟩ := selB_one u1
        have hD8 := s8 _ _ hD7
        rw [esl] at hD8 ⊢
        obtain ⟨qv, xsv, e1, hqv, tlv⟩ := en_at (w8.bk.rows.2 _ hm)
        have e1 : v = .ref qv := e1
        subst e1
        obtain ⟨_, _, rfl, ts, tlv⟩ := td_cons tlv
        obtain ⟨_, _, rfl, tl, tlv⟩ := td_cons tlv
        cases td_nil tlv
        obtain ⟨sv, rfl, hsv⟩ := st_at ts
        refine iteT ⟨_, rfl, D, _, 0, _, rfl, rfl, SqL.of hD8, atI_nat (j := 0) rfl, qv, _, 2, _, rfl, rfl, SqT.of hqv, atI_nat (j := 2) rfl, sv, st, rfl, f8, w8.bag, tk8, hD8, hsv, u2, u3, u4, by omega, by omega, .inl ⟨w8.bk, fun z => by cases z⟩⟩
    rintro σ' H8 ⟨sv, st, rfl, f8, hb8, tk8, hD8, hsv, a1, a2, a3, a4, a5, cs⟩
    have hq8 := tk8 _ _ hq7
    -- done here
    refine ⟨fun σ' H' => ∃ (v : V) (e : En), σ' = [some (.ref s), some (.ref A.m), some (.int dn), some (.ref q'), some (.ref D), some (.int pl.st.t), some (.int pl.st.s), some (.int pl.st.h), some (.int la), some (.ref sv), none] ∧ FrB s A H H' ∧ BagAt H' s ∧ H' sv = some (.tup (st.l.map V.int)) ∧ BAt H' A b (zs ++ [(v, e)]) (led (zs.map (·.2) ++ [e])) (zs ++ [(v, e)]).length ∧ ∀ la se : Int, b.la ≤ la → st.t ≤ la → la ≤ 10 * ((zs.map (·.2)).length : Int) + 10 → b.se ≤ se → st.s ≤ se → se ≤ 10 * ((zs.map (·.2)).length : Int) + 10 → Bw { b with la := la, se := se } (zs.map (·.2) ++ [e]), ?_, ?_⟩
    · refine ⟨_, rfl, Nat.zero_le _, fun p0 np0 => ?_⟩
      have s9 : Same H8 (upd H8 p0 (.lst [])) := same_new (Same.refl H8) np0
      have hp0 : (upd H8 p0 (.lst [])) p0 = some (.lst []) := upd_same
      generalize (upd H8 p0 (.lst [])) = H9 at s9 hp0 ⊢
      have f9 := f8.trans (FrB.same s9)
      have hb9 := hb8.same s9
      have hsv9 := s9 _ _ hsv
      have hD9 := s9 _ _ hD8
      refine ⟨_, ⟨D, p0, rfl, rfl, .inl ⟨SqL.of hD9, SqL.of hp0⟩⟩, _, rfl, ?_⟩
      rcases cs with ⟨bk8, cn⟩ | ⟨es, ch, v, low, bk8, lw1, lw2⟩
      · have bk9 := bk8.same s9
        cases es : selB (wkB "sure" dn) zs with
        | cons x r =>
          refine iteT ?_
          refine ⟨_, rfl, A.m, _, rfl, bk9.get (skv_rows A b), .inl ⟨rfl, _, SqL.of bk9.rows.1⟩, _, rfl, _, rfl, len3, fun e ne => ?_⟩
          have s10 : Same H9 (upd H9 e (.tup [.str "done", .int dn, .ref sv])) := same_new (Same.refl H9) ne
          have he : (upd H9 e (.tup [.str "done", .int dn, .ref sv])) e = some (.tup [.str "done", .int dn, .ref sv]) := upd_same
          generalize (upd H9 e (.tup [.str "done", .int dn, .ref sv])) = H10 at s10 he ⊢
          have bk10 := bk9.same s10
          have te : TD H10 (.ref e) (En.d (.done dn st)) := .tup he (.cons (.str _) (.cons (.int _) (.cons (.tup (s10 _ _ hsv9) (TDAll.ints st.l)) .nil)))
          refine ⟨A.rw, _, _, rfl, rfl, bk10.rows.1, row_lt wB.len, ?_⟩
          have r11 := bk10.row te
          have tk11 : Tk H10 (upd H10 A.rw (.lst (zs.map (·.1) ++ [.ref e]))) := fun c xs z => by rw [upd_ne (ne_of z bk10.rows.1 (by intro y; cases y))]; exact z
          obtain ⟨kv7, ek7, lk7, _, _, gk7⟩ := r11.op.ex
          have hv7 : ∃ v, valV kv7 (Sum.inl dn) = some v := by
            have := gk7 dn
            cases e : valV kv7 (Sum.inl dn) with
            | none => rw [e, hun] at this; cases this
            | some v => exact ⟨v, rfl⟩
          obtain ⟨v7, hv7⟩ := hv7
          refine ⟨_, rfl, A.m, _, rfl, r11.get (skv_open A b), A.op, rfl, .inl ⟨_, .inl ek7⟩, _, rfl, kv7, Sum.inl dn, v7, ek7, rfl, hv7, ?_⟩
          have r12 := r11.opn (s' := led (zs.map (·.2) ++ [.done dn st])) (f := setN (led (zs.map (·.2))).un dn none) (by rw [led_snoc]; exact (note_done_nt _ _ _).2.1) (r11.op.drop ek7 (n := dn))
          refine ⟨.ref e, .done dn st, rfl, ?_, (hb9.same s10 |>.atO sn2).atO sn3, ?_, ?_, fun la se x1 x2 x3 x4 x5 x6 => wB.w.done hun a1 a4 a2 a5 a3 (by rw [List.length_map]; exact hl) x1 x2 x3 x4 x5 x6⟩
          · exact (f9.trans (FrB.same s10)).trans (FrB.two (bOwn_mem.mpr (.inr (.inl rfl))) (bOwn_mem.mpr (.inr (.inr rfl))))
          · rw [upd_ne (ne_of (tk11 _ _ (s10 _ _ hsv9)) ek7 (by intro y; cases y))]
            exact tk11 _ _ (s10 _ _ hsv9)
          · rw [List.length_append]
            exact r12.un_eq rfl (Nat.le_succ _)
        | nil =>
          refine iteF ⟨_, rfl, q', _, 2, _, rfl, rfl, SqT.of (s9 _ _ hq8), atI_nat (j := 2) rfl, _, rfl, A.m, _, rfl, bk9.get (skv_house A b), rfl, _, rfl, iteND (fun e => cn es (V.int.inj e)) ?_⟩
          refine ⟨_, rfl, A.m, _, rfl, bk9.get (skv_rows A b), .inl ⟨rfl, _, SqL.of bk9.rows.1⟩, _, rfl, _, rfl, len3, fun e ne => ?_⟩
          have s10 : Same H9 (upd H9 e (.tup [.str "done", .int dn, .ref sv])) := same_new (Same.refl H9) ne
          have he : (upd H9 e (.tup [.str "done", .int dn, .ref sv])) e = some (.tup [.str "done", .int dn, .ref sv]) := upd_same
          generalize (upd H9 e (.tup [.str "done", .int dn, .ref sv])) = H10 at s10 he ⊢
          have bk10 := bk9.same s10
          have te : TD H10 (.ref e) (En.d (.done dn st)) := .tup he (.cons (.str _) (.cons (.int _) (.cons (.tup (s10 _ _ hsv9) (TDAll.ints st.l)) .nil)))
          refine ⟨A.rw, _, _, rfl, rfl, bk10.rows.1, row_lt wB.len, ?_⟩
          have r11 := bk10.row te
          have tk11 : Tk H10 (upd H10 A.rw (.lst (zs.map (·.1) ++ [.ref e]))) := fun c xs z => by rw [upd_ne (ne_of z bk10.rows.1 (by intro y; cases y))]; exact z
          obtain ⟨kv7, ek7, lk7, _, _, gk7⟩ := r11.op.ex
          have hv7 : ∃ v, valV kv7 (Sum.inl dn) = some v := by
            have := gk7 dn
            cases e : valV kv7 (Sum.inl dn) with
            | none => rw [e, hun] at this; cases this
            | some v => exact ⟨v, rfl⟩
          obtain ⟨v7, hv7⟩ := hv7
          refine ⟨_, rfl, A.m, _, rfl, r11.get (skv_open A b), A.op, rfl, .inl ⟨_, .inl ek7⟩, _, rfl, kv7, Sum.inl dn, v7, ek7, rfl, hv7, ?_⟩
          have r12 := r11.opn (s' := led (zs.map (·.2) ++ [.done dn st])) (f := setN (led (zs.map (·.2))).un dn none) (by rw [led_snoc]; exact (note_done_nt _ _ _).2.1) (r11.op.drop ek7 (n := dn))
          refine ⟨.ref e, .done dn st, rfl, ?_, (hb9.same s10 |>.atO sn2).atO sn3, ?_, ?_, fun la se x1 x2 x3 x4 x5 x6 => wB.w.done hun a1 a4 a2 a5 a3 (by rw [List.length_map]; exact hl) x1 x2 x3 x4 x5 x6⟩
          · exact (f9.trans (FrB.same s10)).trans (FrB.two (bOwn_mem.mpr (.inr (.inl rfl))) (bOwn_mem.mpr (.inr (.inr rfl))))
          · rw [upd_ne (ne_of (tk11 _ _ (s10 _ _ hsv9)) ek7 (by intro y; cases y))]
            exact tk11 _ _ (s10 _ _ hsv9)
          · rw [List.length_append]
            exact r12.un_eq rfl (Nat.le_succ _)
      · have bk9 := bk8.same s9
        rw [es]
        refine iteF ⟨_, rfl, q', _, 2, _, rfl, rfl, SqT.of (s9 _ _ hq8), atI_nat (j := 2) rfl, _, rfl, A.m, _, rfl, bk9.get (skv_house A b), rfl, _, rfl, iteNSDl (congrArg V.int ch) ⟨v, .sure dn st low, rfl, f9, hb9, hsv9, ?_, fun la se x1 x2 x3 x4 x5 x6 => ?_⟩⟩
        · rw [List.length_append]
          exact bk9.un_eq (by rw [led_snoc]; rfl) (Nat.le_succ _)
        · have lw0 : ((led (zs.map (·.2))).nt dn).low = none := by
            rcases suc with ⟨_, u2⟩ | ⟨_, _, u1, _⟩
            · exact u2
            · rw [sel0.mpr es] at u1
              cases u1
          exact wB.w.sure hun lw0 a1 a4 a2 a5 a3 lw1 lw2 (by rw [List.length_map]; exact hl) x1 x2 x3 x4 x5 x6
    rintro σ' H9 ⟨v, e, rfl, f9, hb9, hsv9, bk9, bwf⟩
    refine ⟨_, rfl, A.m, _, rfl, bk9.get (skv_serial A b), _, rfl, sv, _, 1, _, rfl, rfl, SqT.of hsv9, atI_nat (j := 1) rfl, _, _, rfl, _, rfl, A.m, _, rfl, DPut.k (k := Sum.inr "serial") bk9.top (by rw [skv_len]; decide), ?_⟩
    obtain ⟨se2, ese2⟩ : ∃ m : Int, m = (if st.s > b.se then st.s else b.se) := ⟨_, rfl⟩
    have se2b : b.se ≤ se2 ∧ st.s ≤ se2 ∧ se2 ≤ 10 * ((zs.map (·.2)).length : Int) + 10 := by rw [ese2]; split <;> omega
    rw [← ese2]
    have bk10 := bk9.num (skp_serial A b se2)
    have hsv10 : (upd H9 A.m (.dK (putK (skv A b) (Sum.inr "serial") (.int se2)))) sv = some (.tup (st.l.map V.int)) := by rw [upd_ne (ne_of hsv9 bk9.top (by intro z; cases z))]; exact hsv9
    refine ⟨_, rfl, A.m, _, rfl, bk10.get (skv_last A _), _, rfl, sv, _, 0, _, rfl, rfl, SqT.of hsv10, atI_nat (j := 0) rfl, _, _, rfl, _, rfl, A.m, _, rfl, DPut.k (k := Sum.inr "last") bk10.top (by rw [skv_len]; decide), ?_⟩
    obtain ⟨la3, ela3⟩ : ∃ m : Int, m = (if st.t > b.la then st.t else b.la) := ⟨_, rfl⟩
    have la3b : b.la ≤ la3 ∧ st.t ≤ la3 ∧ la3 ≤ 10 * ((zs.map (·.2)).length : Int) + 10 := by rw [ela3]; split <;> omega
    rw [← ela3]
    have bk11 := bk10.num (skp_last A _ la3)
    refine q { b with la := la3, se := se2 } [(v, e)] _ ?_ ⟨(hb9.atO sn1).atO sn1, ?_, ?_, wB.ns⟩ (Nat.le_refl _) rfl rfl
    · exact f9.trans (FrB.two (bOwn_mem.mpr (.inl rfl)) (bOwn_mem.mpr (.inl rfl)))
    · rw [map_snoc]
      exact bk11
    · rw [map_snoc]
      exact bwf la3 se2 la3b.1 la3b.2.1 la3b.2.2 se2b.1 se2b.2.1 se2b.2.2

theorem ok_l_step {P : Program} {w : World} {K : PySem.W.Frag} {mg : Str → Option Value} {base : Heap} {a : Nat → Addr} {d : Nat → FuncData} (T : Txt K mg a d) : FnOk P w K mg base CX0 5 (a 52) (d 52) ["_law_bag_here", "_law_state_here"] (spStepB fun _ => True) := by
  refine T.F_l_step.ok sc_l_step (fun vs H Q E h => ?_) (fun cdv A outer s0 H vs Q E hr h => ?_)
  · obtain ⟨s, A, b, zs, rfl, wB, hl, _, q⟩ := h
    rfl
  · obtain ⟨s, A, b, zs, rfl, wB, hl, _, q⟩ := h
    refine ⟨_, (pss_cons (ps_set (i := 2) sc_l_step.nd rfl (Or.inl rfl) (pe_call (ok_l_out T) (hr.mono (by decide)) (by rfl) T.g_l_out T.F_l_out.kp T.b_l_out .nil pass0 (pa_cons (pv 0) (pa_cons pe_int pa_nil)))) (pss_one (ps_if (PW.pt (pw_or (pt_cmpR op_lt (pv 2) pe_int (nomark _)) (pw_or1 (PW.pt (pw_and (pt_cmpR (op_eq_dE hr.units0) (pe_dget (hu_of hr) (pv 1) pe_str (fun _ _ => rfl)) pe_dnewK (nomark _)) (pw_and1 (pt_cmpR op_lt (pv 2) pe_int (nomark _)))))))) (pss_one (ps_expr (pe_call (ok_l_pledged T) (hr.mono (by decide)) (by rfl) T.g_l_pledged T.F_l_pledged.kp T.b_l_pledged .nil pass0 (pa_cons (pv 0) (pa_cons (pv 1) pa_nil))))) (pss_one (ps_if (pt_cmpR op_lt (pv 2) pe_int (nomark _)) (pss_one (ps_expr (pe_call (ok_l_ended T) (hr.mono (by decide)) (by rfl) T.g_l_ended T.F_l_ended.kp T.b_l_ended .nil pass0 (pa_cons (pv 0) (pa_cons (pv 1) pa_nil))))) (pss_one (ps_if (pt_cmpR op_eq (pv 2) pe_int (nomark _)) (pss_one (ps_expr (pe_call (ok_l_marked T) (hr.mono (by decide)) (by rfl) T.g_l_marked T.F_l_marked.kp T.b_l_marked .nil pass0 (pa_cons (pv 0) (pa_cons (pv 1) pa_nil))))) (pss_one (ps_if (pt_cmpR op_eq (pe_call (ok_l_out T) (hr.mono (by decide)) (by rfl) T.g_l_out T.F_l_out.kp T.b_l_out .nil pass0 (pa_cons (pv 0) (pa_cons pe_int pa_nil))) pe_int (nomark _)) (pss_one (ps_expr (pe_call (ok_l_freed T) (hr.mono (by decide)) (by rfl) T.g_l_freed T.F_l_freed.kp T.b_l_freed .nil pass0 (pa_cons (pv 0) (pa_cons (pv 1) pa_nil))))) (pss_cons (ps_expr (pe_bm PySem.F.plainAttrs_list PySem.F.slot_list_append PySem.F.type_list_append mt_append (pe_dget (hu_of hr) (pv 1) pe_str (fun _ _ => rfl)) (pa_cons (pe_tup (pa_cons pe_str (pa_cons (pe_op op_add pe_int (pe_dget (hu_of hr) (pv 1) pe_str (fun _ _ => rfl))) pa_nil))) pa_nil))) (pss_one (ps_dput (hu_of hr) (pv 1) pe_str (pe_op op_add (pe_dget (hu_of hr) (pv 1) pe_str (fun _ _ => rfl)) pe_int) rfl)))))))))))), ?_⟩
    refine ⟨_, rfl, s, 9, rfl, wB.bag, by decide, by decide, fun way H1 a0 a1 k1 hb1 => ⟨_, rfl, _, _, rfl, rfl, _, rfl, ?_⟩⟩
    have w1 := wB.fr k1 hb1
    have f1 : FrB s A H H1 := FrB.fr k1
    by_cases c4 : way < 4
    · exact iteDT c4 ⟨_, rfl, _, rfl, s, A, b, zs, rfl, w1, hl, trivial, fun b' ys H' f wB' yl e1 e2 => q b' ys H' (FrB.trans f1 f) wB' yl e1 e2⟩
    refine iteDF c4 ⟨_, rfl, A.m, _, rfl, w1.bk.get (skv_open A b), fun d nd => ?_⟩
    have s2 : Same H1 (upd H1 d (.dK [])) := same_new (Same.refl H1) nd
    have hd : (upd H1 d (.dK [])) d = some (.dK []) := upd_same
    generalize (upd H1 d (.dK [])) = H2 at s2 hd ⊢
    have w2 := w1.same s2
    have f2 := f1.trans (FrB.same s2)
    obtain ⟨kv, ek, lk, ndk, ksk, gk⟩ := w2.bk.op.ex
    refine ⟨A.op, d, kv, rfl, rfl, ek, hd, _, rfl, ?_⟩
    cases kv with
    | nil =>
      refine iteT ⟨_, rfl, _, _, rfl, rfl, _, rfl, ?_⟩
      by_cases c7 : way < 7
      · exact iteDT c7 ⟨_, rfl, _, rfl, s, A, b, zs, rfl, w2, hl, trivial, fun b' ys H' f wB' yl e1 e2 => q b' ys H' (FrB.trans f2 f) wB' yl e1 e2⟩
      refine iteDF c7 ⟨_, rfl, _, _, rfl, rfl, _, rfl, iteDF c7 ?_⟩
      refine ⟨_, rfl, rfl, _, rfl, ite_any ⟨_, rfl, _, rfl, s, A, b, zs, rfl, w2, hl, trivial, fun b' ys H' f wB' yl e1 e2 => q b' ys H' (FrB.trans f2 f) wB' yl e1 e2⟩ ?_⟩
      refine ⟨_, rfl, s, 3, rfl, w2.bag, by decide, by decide, fun r3 H3 b0 b1 k3 hb3 => ⟨rfl, _, rfl, ?_⟩⟩
      have w3 := w2.fr k3 hb3
      have f3 := f2.trans (FrB.fr k3)
      refine ite_any ⟨_, rfl, _, rfl, s, A, b, zs, rfl, w3, hl, trivial, fun b' ys H' f wB' yl e1 e2 => q b' ys H' (FrB.trans f3 f) wB' yl e1 e2⟩ ?_
      refine ⟨_, rfl, A.m, _, rfl, w3.bk.get (skv_rows A b), .inl ⟨rfl, _, SqL.of w3.bk.rows.1⟩, _, rfl, A.m, _, rfl, w3.bk.get (skv_number A b), _, _, rfl, rfl, len2, fun e ne => ?_⟩
      have s4 : Same H3 (upd H3 e (.tup [.str "off", .int (1000 + b.nu)])) := same_new (Same.refl H3) ne
      have he : (upd H3 e (.tup [.str "off", .int (1000 + b.nu)])) e = some (.tup [.str "off", .int (1000 + b.nu)]) := upd_same
      generalize (upd H3 e (.tup [.str "off", .int (1000 + b.nu)])) = H4 at s4 he ⊢
      have w4 := w3.same s4
      have te : TD H4 (.ref e) (En.d (.off (1000 + b.nu))) := .tup he (.cons (.str _) (.cons (.int _) .nil))
      refine ⟨A.rw, _, _, rfl, rfl, w4.bk.rows.1, row_lt wB.len, ?_⟩
      have r5 := w4.bk.row te
      refine ⟨_, rfl, A.m, _, rfl, r5.get (skv_number A b), _, _, rfl, rfl, _, rfl, A.m, _, rfl, DPut.k (k := Sum.inr "number") r5.top (by rw [skv_len]; decide), ?_⟩
      have r6 := r5.num (skp_number A b (b.nu + 1))
      obtain ⟨sn1, sn2, sn3⟩ := wB.sne
      refine q { b with nu := b.nu + 1 } [(.ref e, .off (1000 + b.nu))] _ ?_ ⟨(w4.bag.atO sn2).atO sn1, ?_, ?_, wB.ns⟩ (Nat.le_refl _) rfl rfl
      · exact (f3.trans (FrB.same s4)).trans (FrB.two (bOwn_mem.mpr (.inr (.inl rfl))) (bOwn_mem.mpr (.inl rfl)))
      · rw [map_snoc, List.length_append]
        refine r6.un_eq ?_ (Nat.le_succ _)
        rw [led_snoc]
        refine setN_none ?_
        cases e : (led (zs.map (·.2))).un (1000 + b.nu) with
        | none => rfl
        | some p =>
          have := (wB.w.pn _ p e).2.2.1
          omega
      · rw [map_snoc]
        exact wB.w.off (n := 1000 + b.nu) (nu := b.nu + 1) (.inr ⟨rfl, rfl⟩) (by rw [List.length_map]; exact hl)
    | cons x r =>
      refine iteF ⟨_, rfl, _, _, rfl, rfl, _, rfl, ?_⟩
      by_cases c7 : way < 7
      · obtain ⟨n, p, _, _, hun, _⟩ := un_at ndk ksk gk (i := 0) (k := x.1) (v := x.2) rfl
        exact iteDT c7 ⟨_, rfl, _, rfl, s, A, b, zs, rfl, w2, hl, ⟨n, p, hun⟩, fun b' ys H' f wB' yl e1 e2 => q b' ys H' (FrB.trans f2 f) wB' yl e1 e2⟩
      refine iteDF c7 ?_
      refine ⟨_, rfl, rfl, _, rfl, ite_any ⟨_, rfl, _, rfl, s, A, b, zs, rfl, w2, hl, trivial, fun b' ys H' f wB' yl e1 e2 => q b' ys H' (FrB.trans f2 f) wB' yl e1 e2⟩ ?_⟩
      refine ⟨_, rfl, s, 3, rfl, w2.bag, by decide, by decide, fun r3 H3 b0 b1 k3 hb3 => ⟨rfl, _, rfl, ?_⟩⟩
      have w3 := w2.fr k3 hb3
      have f3 := f2.trans (FrB.fr k3)
      refine ite_any ⟨_, rfl, _, rfl, s, A, b, zs, rfl, w3, hl, trivial, fun b' ys H' f wB' yl e1 e2 => q b' ys H' (FrB.trans f3 f) wB' yl e1 e2⟩ ?_
      refine ⟨_, rfl, A.m, _, rfl, w3.bk.get (skv_rows A b), .inl ⟨rfl, _, SqL.of w3.bk.rows.1⟩, _, rfl, A.m, _, rfl, w3.bk.get (skv_number A b), _, _, rfl, rfl, len2, fun e ne => ?_⟩
      have s4 : Same H3 (upd H3 e (.tup [.str "off", .int (1000 + b.nu)])) := same_new (Same.refl H3) ne
      have he : (upd H3 e (.tup [.str "off", .int (1000 + b.nu)])) e = some (.tup [.str "off", .int (1000 + b.nu)]) := upd_same
      generalize (upd H3 e (.tup [.str "off", .int (1000 + b.nu)])) = H4 at s4 he ⊢
      have w4 := w3.same s4
      have te : TD H4 (.ref e) (En.d (.off (1000 + b.nu))) := .tup he (.cons (.str _) (.cons (.int _) .nil))
      refine ⟨A.rw, _, _, rfl, rfl, w4.bk.rows.1, row_lt wB.len, ?_⟩
      have r5 := w4.bk.row te
      refine ⟨_, rfl, A.m, _, rfl, r5.get (skv_number A b), _, _, rfl, rfl, _, rfl, A.m, _, rfl, DPut.k (k := Sum.inr "number") r5.top (by rw [skv_len]; decide), ?_⟩
      have r6 := r5.num (skp_number A b (b.nu + 1))
      obtain ⟨sn1, sn2, sn3⟩ := wB.sne
      refine q { b with nu := b.nu + 1 } [(.ref e, .off (1000 + b.nu))] _ ?_ ⟨(w4.bag.atO sn2).atO sn1, ?_, ?_, wB.ns⟩ (Nat.le_refl _) rfl rfl
      · exact (f3.trans (FrB.same s4)).trans (FrB.two (bOwn_mem.mpr (.inr (.inl rfl))) (bOwn_mem.mpr (.inl rfl)))
      · rw [map_snoc, List.length_append]
        refine r6.un_eq ?_ (Nat.le_succ _)
        rw [led_snoc]
        refine setN_none ?_
        cases e : (led (zs.map (·.2))).un (1000 + b.nu) with
        | none => rfl
        | some p =>
          have := (wB.w.pn _ p e).2.2.1
          omega
      · rw [map_snoc]
        exact wB.w.off (n := 1000 + b.nu) (nu := b.nu + 1) (.inr ⟨rfl, rfl⟩) (by rw [List.length_map]; exact hl)

theorem ok_l_right {P : Program} {w : World} {K : PySem.W.Frag} {mg : Str → Option Value} {base : Heap} {a : Nat → Addr} {d : Nat → FuncData} (T : Txt K mg a d) : FnOk P w K mg base CX0 3 (a 53) (d 53) ["_law_ledger", "_law_rows", "_law_house", "_law_houses"] (spRight34 (a 56) (a 55)) := by
  refine T.F_l_right.ok sc_l_right (fun vs H Q E h => ?_) (fun cdv A outer s0 H vs Q E hr h => ?_)
  · obtain ⟨x, A, N, p, zs, b, rfl, hL, h, wb, hl, q⟩ := h
    rfl
  · obtain ⟨x, A, N, p, zs, b, rfl, hL, h, wb, hl, q⟩ := h
    refine ⟨_, (pss_cons (ps_for PassesOwn.never rfl (pi_list (pe_lst (pa_cons pe_str (pa_cons pe_str (pa_cons pe_str (pa_cons pe_str (pa_cons pe_str pa_nil))))))) (pg_name (i := 4) sc_l_right.nd rfl (.inl rfl)) (pss_cons (ps_if (pt_cmpR op_ne (pe_meth (pv 0) T.cl_Ledger T.m_Ledger_house_of (ok_Ledger_house_of T) (hr.mono (by decide)) T.b_Ledger_house_of .nil pass0 (pa_cons (pv 4) pa_nil)) (pe_call (ok_l_at T) (hr.mono (by decide)) (by rfl) T.g_l_at T.F_l_at.kp T.b_l_at .nil pass0 (pa_cons (pv 1) (pa_cons (pv 4) (pa_cons (pe_op op_pow pe_int pe_int) (pa_cons (pv 2) (pa_cons (pv 3) pa_nil)))))) (nomark _)) (pss_one (ps_ret pe_bl)) pss_nil) (Evl.pss_cut (ps_set (i := 5) sc_l_right.nd rfl (Or.inl rfl) (pe_lst (pa_cons (pe_un un_neg pe_int) (pa_cons pe_int (pa_cons (pe_op op_pow pe_int pe_int) pa_nil))))) (Evl.pss_cut (ps_for PassesOwn.never rfl (pi_list (pe_call (ok_l_done T) (hr.mono (by decide)) (by rfl) T.g_l_done T.F_l_done.kp T.b_l_done .nil pass0 (pa_cons (pv 1) (pa_cons pe_str pa_nil)))) (pg_tup (by rfl) (pgs_cons (pg_name (i := 6) sc_l_right.nd rfl (.inl rfl)) (pgs_cons (pg_name (i := 7) sc_l_right.nd rfl (.inl rfl)) pgs_nil))) (pss_one (ps_set (i := 5) sc_l_right.nd rfl (Or.inl rfl) (pe_op op_cat (pv 5) (pe_lst (pa_cons (pe_op op_sub (pe_ix ix_tup (pv 6) pe_int (fun _ _ => rfl)) pe_int) (pa_cons (pe_ix ix_tup (pv 6) pe_int (fun _ _ => rfl)) (pa_cons (pe_op op_add (pe_ix ix_tup (pv 6) pe_int (fun _ _ => rfl)) pe_int) pa_nil)))))))) (pss_one (ps_for PassesOwn.never rfl (pi_list (pv 5)) (pg_name (i := 8) sc_l_right.nd rfl (.inl rfl)) (pss_one (ps_if (pt_cmpR op_ne (pe_meth (pv 0) T.cl_Ledger T.m_Ledger_house_at (ok_Ledger_house_at T) (hr.mono (by decide)) T.b_Ledger_house_at .nil pass0 (pa_cons (pv 4) (pa_cons (pv 8) pa_nil))) (pe_call (ok_l_at T) (hr.mono (by decide)) (by rfl) T.g_l_at T.F_l_at.kp T.b_l_at .nil pass0 (pa_cons (pv 1) (pa_cons (pv 4) (pa_cons (pv 8) (pa_cons (pv 2) (pa_cons (pv 3) pa_nil)))))) (nomark _)) (pss_one (ps_ret pe_bl)) pss_nil)))))))) (pss_one (ps_ret pe_bl))), ?_⟩
    have gd0 := wb.gd
    have hh1 := wb.h1; have hh0 := wb.h0
    refine ⟨len5, fun K0 nK0 => ?_⟩
    have s1 : Same H (upd H K0 (.lst [.str "a", .str "b", .str "cc", .str "zzz", .str "abcdef"])) := same_new (Same.refl H) nK0
    have hK0 : (upd H K0 (.lst [.str "a", .str "b", .str "cc", .str "zzz", .str "abcdef"])) K0 = some (.lst (Kq.map V.str)) := upd_same
    generalize (upd H K0 (.lst [.str "a", .str "b", .str "cc", .str "zzz", .str "abcdef"])) = H1 at s1 hK0 ⊢
    refine ⟨K0, rfl, ⟨_, SqL.of hK0⟩, ?_⟩
    refine for_list (K := K) (a := K0) (xs := Kq.map V.str) (fun j σ H' => ∃ v4 v5 v6 v7 v8 : Option V, σ = [some (.ref x), some (.ref p), some (.int b.ho), some (.int b.hn), v4, v5, v6, v7, v8] ∧ Same H1 H') ⟨none, none, none, none, none, rfl, Same.refl H1⟩ (fun i σ H' _ z => ?_) ?_ ?_
    · obtain ⟨_, _, _, _, _, _, s⟩ := z
      exact SqL.of (s _ _ hK0)
    · rintro j v0 σ H2 hj ⟨v4, v5, v6, v7, v8, rfl, s12⟩
      rw [List.getElem?_map] at hj
      obtain ⟨k, hk, rfl⟩ := Option.map_eq_some_iff.mp hj
      obtain ⟨kl, kll⟩ := kq_let (List.mem_of_getElem? hk)
      have s02 := s1.trans s12
      have hL2 := hL.same s02
      obtain ⟨dx, gsv, hx, tgs⟩ := hL2.ins
      refine ⟨_, rfl, x, dx, _, rfl, hx, ldf_no _ _ _ _ _ _ _ _ _ _ _ (by decide +kernel) (by decide +kernel) (by decide +kernel) (by decide +kernel) (by decide +kernel) (by decide +kernel) (by decide +kernel) (by decide +kernel) (by decide +kernel) (by decide +kernel) (by decide +kernel), _, rfl, x, b.ho, b.hn, A, _, N, k, rfl, hL2, kll, by omega, fun H3 s23 => ?_⟩
      refine ⟨_, rfl, _, rfl, 10, 9, rfl, rfl, ⟨by decide, by decide, by decide⟩, _, rfl, _, rfl, p, zs, k, _, b.ho, b.hn, rfl, h.same (s02.trans s23), gd0, hl, kl, kll, by omega, fun H4 s34 => ⟨rfl, _, rfl, iteNSDl (congrArg V.int (of_eq wb k (by decide) b.hn)) ?_⟩⟩
      have s24 := s23.trans s34
      refine ⟨fun σ' H' => ∃ (T : Addr) (ts : List Int), σ' = [some (.ref x), some (.ref p), some (.int b.ho), some (.int b.hn), some (.str k), some (.ref T), v6, v7, v8] ∧ Same H4 H' ∧ H' T = some (.lst (ts.map V.int)) ∧ ts.length ≤ 3, ?_, ?_⟩
      · refine ⟨_, rfl, 10, 9, rfl, rfl, ⟨by decide, by decide, by decide⟩, len3, fun T nT => ?_⟩
        exact ⟨T, [-1, 0, 10 ^ 9], rfl, same_new (Same.refl H4) nT, upd_same, Nat.le_refl _⟩
      rintro σ' H5 ⟨T, ts, rfl, s45, hT, tsl⟩
      have s05 := s02.trans (s24.trans s45)
      refine ⟨fun σ' H' => ∃ (T : Addr) (ts : List Int) (v6 v7 : Option V), σ' = [some (.ref x), some (.ref p), some (.int b.ho), some (.int b.hn), some (.str k), some (.ref T), v6, v7, v8] ∧ Same H5 H' ∧ H' T = some (.lst (ts.map V.int)), ?_, ?_⟩
      · refine ⟨_, rfl, p, zs, "move", rfl, h.same s05, gd0, hl, fun D xs H6 s56 nD hD txs hxl => ⟨D, rfl, ⟨_, SqL.of hD⟩, ?_⟩⟩
        have xl := TDAll.len txs
        rw [List.length_map] at xl
        refine for_list (K := K) (a := D) (xs := xs) (fun j σ H' => ∃ (T : Addr) (ts : List Int) (v6 v7 : Option V), σ = [some (.ref x), some (.ref p), some (.int b.ho), some (.int b.hn), some (.str k), some (.ref T), v6, v7, v8] ∧ Same H6 H' ∧ H' T = some (.lst (ts.map V.int)) ∧ ts.length ≤ 3 + 3 * j) ⟨T, ts, v6, v7, rfl, Same.refl H6, s56 _ _ hT, tsl⟩ (fun i σ H' _ z => ?_) ?_ ?_
        · obtain ⟨_, _, _, _, _, s, _⟩ := z
          exact SqL.of (s _ _ hD)
        · rintro i v1 σ H7 hi ⟨T, ts, v6, v7, rfl, s67, hT, tsl⟩
          obtain ⟨d, ed, td⟩ := TDAll.getV (TDAll.tk (fun c xs e => s67 _ _ e) txs) hi
          have il := (List.getElem?_eq_some_iff.mp hi).1
          rw [List.getElem?_map] at ed
          obtain ⟨y, hy, rfl⟩ := Option.map_eq_some_iff.mp ed
          obtain ⟨qy, ys, rfl, hqy, ty⟩ := td_tup td
          obtain ⟨sv, _, rfl, tst, ty⟩ := td_cons ty
          obtain ⟨mv, _, rfl, tm, ty⟩ := td_cons ty
          cases td_nil ty
          obtain ⟨qs, rfl, hqs⟩ := st_at tst
          refine ⟨qy, _, rfl, SqT.of hqy, rfl, _, _, rfl, _, _, rfl, rfl, ?_⟩
          refine ⟨_, rfl, _, rfl, qs, _, 0, _, rfl, rfl, SqT.of hqs, atI_nat (j := 0) rfl, _, _, rfl, rfl, _, rfl, qs, _, 0, _, rfl, rfl, SqT.of hqs, atI_nat (j := 0) rfl, _, rfl, qs, _, 0, _, rfl, rfl, SqT.of hqs, atI_nat (j := 0) rfl, _, _, rfl, rfl, len3, fun L nL => ?_⟩
          have s8 : Same H7 (upd H7 L (.lst [.int (y.1.t - 1), .int y.1.t, .int (y.1.t + 1)])) := same_new (Same.refl H7) nL
          have hLl : (upd H7 L (.lst [.int (y.1.t - 1), .int y.1.t, .int (y.1.t + 1)])) L = some (.lst [.int (y.1.t - 1), .int y.1.t, .int (y.1.t + 1)]) := upd_same
          refine ⟨T, L, _, _, rfl, rfl, s8 _ _ hT, hLl, by rw [List.length_map]; exact Nat.le_trans (show ts.length + 3 ≤ 400 by omega) (by decide), fun M nM => ?_⟩
          refine ⟨M, ts ++ [y.1.t - 1, y.1.t, y.1.t + 1], _, _, rfl, s67.trans (s8.trans (same_new (Same.refl _) nM)), ?_, ?_⟩
          · rw [upd_same, List.map_append]
            rfl
          · rw [List.length_append]
            show ts.length + 3 ≤ _
            omega
        · rintro σ H7 ⟨T, ts, v6, v7, rfl, s67, hT, tsl⟩
          exact ⟨T, ts, v6, v7, rfl, s56.trans s67, hT⟩
      rintro σ' H6 ⟨T, ts, v6, v7, rfl, s56, hT⟩
      have s06 := s05.trans s56
      refine ⟨_, rfl, T, rfl, ⟨_, SqL.of hT⟩, ?_⟩
      refine for_list (K := K) (a := T) (xs := ts.map V.int) (fun j σ H' => ∃ (v8 : Option V), σ = [some (.ref x), some (.ref p), some (.int b.ho), some (.int b.hn), some (.str k), some (.ref T), v6, v7, v8] ∧ Same H6 H') ⟨v8, rfl, Same.refl H6⟩ (fun i σ H' _ z => ?_) ?_ ?_
      · obtain ⟨_, _, s⟩ := z
        exact SqL.of (s _ _ hT)
      · rintro i v1 σ H7 hi ⟨v8, rfl, s67⟩
        rw [List.getElem?_map] at hi
        obtain ⟨tt, htt, rfl⟩ := Option.map_eq_some_iff.mp hi
        have s07 := s06.trans s67
        have hL7 := hL.same s07
        obtain ⟨dx, gsv, hx, tgs⟩ := hL7.ins
        refine ⟨_, rfl, x, dx, _, rfl, hx, ldf_no _ _ _ _ _ _ _ _ _ _ _ (by decide +kernel) (by decide +kernel) (by decide +kernel) (by decide +kernel) (by decide +kernel) (by decide +kernel) (by decide +kernel) (by decide +kernel) (by decide +kernel) (by decide +kernel) (by decide +kernel), _, rfl, _, rfl, x, b.ho, b.hn, A, _, N, k, tt, rfl, hL7, kll, by omega, fun H8 s78 => ?_⟩
        refine ⟨_, rfl, _, rfl, _, rfl, _, rfl, _, rfl, p, zs, k, tt, b.ho, b.hn, rfl, h.same (s07.trans s78), gd0, hl, kl, kll, by omega, fun H9 s89 => ⟨rfl, _, rfl, iteNSDl (congrArg V.int (at_eq gd0 k tt b.hn)) ?_⟩⟩
        exact ⟨_, rfl, s67.trans (s78.trans s89)⟩
      · rintro σ H7 ⟨v8, rfl, s67⟩
        exact ⟨_, _, _, _, _, rfl, s12.trans (s24.trans (s45.trans (s56.trans s67)))⟩
    · rintro σ H2 ⟨v4, v5, v6, v7, v8, rfl, s12⟩
      exact q H2 (s1.trans s12)

theorem ok_law {P : Program} {w : World} {K : PySem.W.Frag} {mg : Str → Option Value} {base : Heap} {a : Nat → Addr} {d : Nat → FuncData} (T : Txt K mg a d) (TB : Tb base mg a) : FnOk P w K mg base CX0 9 (a 54) (d 54) ["_law_script"] (spLaw K a) := by
  refine T.F_law.ok sc_law (fun vs H Q E h => ?_) (fun cdv A outer s0 H vs Q E hr h => ?_)
  · obtain ⟨l, ns, rfl, hS, hl, hT, q⟩ := h
    rfl
  · obtain ⟨l, ns, rfl, hS, hl, hT, q⟩ := h
    refine ⟨_, (pss_cons (ps_for PassesOwn.never rfl (pi_range1 (by rfl) T.z_range (pa_cons (pe_callB (call_max2 rfl) (by rfl) T.z_max (by decide +kernel) (pa_cons pe_int (pa_cons (pe_callB (call_min2 rfl) (by rfl) T.z_min (by decide +kernel) (pa_cons (pe_callB call_len_seq (by rfl) T.z_len PySem.boot_len (pa_cons (pv 0) pa_nil)) (pa_cons pe_int pa_nil))) pa_nil))) pa_nil)) (pg_name (i := 1) sc_law.nd rfl (.inl rfl)) (pss_cons (ps_set (i := 2) sc_law.nd rfl (Or.inr rfl) (pe_call (ok_l_bag T) (hr.mono (by decide)) (by rfl) T.g_l_bag T.F_l_bag.kp T.b_l_bag .nil pass0 (pa_cons (pv 0) (pa_cons (pv 1) pa_nil)))) (pss_cons (ps_set (i := 3) sc_law.nd rfl (Or.inl rfl) (pe_join pe_str (pe_lc (own := [("_law_sign", 11)]) (g := gName 11) (by rfl) sc_law.nd (pi_range1 (by rfl) T.z_range (pa_cons (pe_op op_add pe_int (pe_call (ok_l_out T) (hr.mono (by decide)) (by rfl) T.g_l_out T.F_l_out.kp T.b_l_out .nil pass0 (pa_cons (pv 2) (pa_cons pe_int pa_nil)))) pa_nil)) (blkOk_by (own := [("_law_sign", 11)]) (N := ["_law_script", "_law_k", "_law_bag_here", "_law_key", "_law_houses", "_law_house", "_law_state_here", "_law_ledger", "_law_noted", "_law_turn", "_law_row", "_law_sign"]) (sc := defScope s_law) (by decide +kernel)) (fun _ _ _ _ _ => (pg_name (i := 11) sc_law.nd rfl (.inl rfl))) (fun _ _ _ _ _ => pts_nil) (fun _ _ _ _ _ => (pe_ix ix_str pe_str (pe_call (ok_l_out T) (hr.mono (by decide)) (by rfl) T.g_l_out T.F_l_out.kp T.b_l_out .nil pass0 (pa_cons (pv 2) (pa_cons pe_int pa_nil))) (fun _ _ => rfl)))))) (pss_cons (ps_set (i := 4) sc_law.nd rfl (Or.inl rfl) (pe_op op_add pe_int (pe_call (ok_l_out T) (hr.mono (by decide)) (by rfl) T.g_l_out T.F_l_out.kp T.b_l_out .nil pass0 (pa_cons (pv 2) (pa_cons pe_int pa_nil))))) (pss_cons (ps_if (pt_cmpR op_ne (pe_call (ok_first_house T) (hr.mono (by decide)) (by rfl) T.g_first_house T.F_first_house.kp T.b_first_house .nil pass0 (pa_cons (pv 3) (pa_cons (pv 4) pa_nil))) (pe_call (ok_l_first T) (hr.mono (by decide)) (by rfl) T.g_l_first T.F_l_first.kp T.b_l_first .nil pass0 (pa_cons (pv 3) (pa_cons (pv 4) pa_nil))) (nomark _)) (pss_one (ps_ret pe_bl)) pss_nil) (pss_cons (ps_if (pt_cmpR op_ne (pe_meth (pe_make T.m_Ledger___init__ (ok_Ledger___init__ T) (hr.mono (by decide)) (by rfl) T.g_Ledger T.b_Ledger___init__ .nil pass0 (pa_cons pe_int (pa_cons (pv 4) pa_nil))) T.cl_Ledger T.m_Ledger_house_of (ok_Ledger_house_of T) (hr.mono (by decide)) T.b_Ledger_house_of .nil pass0 (pa_cons (pv 3) pa_nil)) (pe_call (ok_first_house T) (hr.mono (by decide)) (by rfl) T.g_first_house T.F_first_house.kp T.b_first_house .nil pass0 (pa_cons (pv 3) (pa_cons (pv 4) pa_nil))) (nomark _)) (pss_one (ps_ret pe_bl)) pss_nil) (pss_cons (ps_set (i := 5) sc_law.nd rfl (Or.inl rfl) (pe_call (ok_l_out T) (hr.mono (by decide)) (by rfl) T.g_l_out T.F_l_out.kp T.b_l_out .nil pass0 (pa_cons (pv 2) (pa_cons (pv 4) pa_nil)))) (pss_cons (ps_set (i := 6) sc_law.nd rfl (Or.inl rfl) (pe_call (ok_l_state T) (hr.mono (by decide)) (by rfl) T.g_l_state T.F_l_state.kp T.b_l_state .nil pass0 (pa_cons (pv 5) (pa_cons (pv 4) pa_nil)))) (pss_cons (ps_set (i := 7) sc_law.nd rfl (Or.inl rfl) (pe_make T.m_Ledger___init__ (ok_Ledger___init__ T) (hr.mono (by decide)) (by rfl) T.g_Ledger T.b_Ledger___init__ .nil pass0 (pa_cons (pv 5) (pa_cons (pv 4) pa_nil)))) (pss_cons (ps_set (i := 8) sc_law.nd rfl (Or.inl rfl) pe_int) (pss_cons (ps_for PassesOwn.never rfl (pi_range1 (by rfl) T.z_range (pa_cons (pe_op op_add pe_int (pe_call (ok_l_out T) (hr.mono (by decide)) (by rfl) T.g_l_out T.F_l_out.kp T.b_l_out .nil pass0 (pa_cons (pv 2) (pa_cons pe_int pa_nil)))) pa_nil)) (pg_name (i := 9) sc_law.nd rfl (.inl rfl)) (pss_cons (ps_expr (pe_call (ok_l_step T) (hr.mono (by decide)) (by rfl) T.g_l_step T.F_l_step.kp T.b_l_step .nil pass0 (pa_cons (pv 2) (pa_cons (pv 6) pa_nil)))) (pss_cons (ps_for PassesOwn.never rfl (pi_list (pe_slice sl_list (pe_dget (hu_of hr) (pv 6) pe_str (fun _ _ => rfl)) (po_some (pv 8)) po_none)) (pg_name (i := 10) sc_law.nd rfl (.inl rfl)) (pss_one (ps_expr (pe_meth (pv 7) T.cl_Ledger T.m_Ledger_note (ok_Ledger_note T TB) (hr.mono (by decide)) T.b_Ledger_note .nil pass0 (pa_cons (pv 10) pa_nil))))) (pss_one (ps_set (i := 8) sc_law.nd rfl (Or.inl rfl) (pe_callB call_len_seq (by rfl) T.z_len PySem.boot_len (pa_cons (pe_dget (hu_of hr) (pv 6) pe_str (fun _ _ => rfl)) pa_nil))))))) (pss_one (ps_if (pt_not (pt_truth (pe_call (ok_l_right T) (hr.mono (by decide)) (by rfl) T.g_l_right T.F_l_right.kp T.b_l_right .nil pass0 (pa_cons (pv 7) (pa_cons (pe_dget (hu_of hr) (pv 6) pe_str (fun _ _ => rfl)) (pa_cons (pv 5) (pa_cons (pv 4) pa_nil))))) (by intro _; rfl))) (pss_one (ps_ret pe_bl)) pss_nil))))))))))))) (pss_one (ps_ret (pe_and (pe_cmpR op_eq (pe_meth (pe_make T.m_Ledger___init__ (ok_Ledger___init__ T) (hr.mono (by decide)) (by rfl) T.g_Ledger (Exists.choose_spec T.c_Ledger___init__).2 (Exists.choose_spec T.c_Ledger___init__).1 pass0 (pa_cons pe_int pa_nil)) T.cl_Ledger T.m_Ledger_house_of (ok_Ledger_house_of T) (hr.mono (by decide)) T.b_Ledger_house_of .nil pass0 (pa_cons pe_str pa_nil)) pe_int (nomark _)) (pe_one (pe_cmpR op_eq (pe_call (ok_first_house T) (hr.mono (by decide)) (by rfl) T.g_first_house T.F_first_house.kp T.b_first_house .nil pass0 (pa_cons pe_str (pa_cons pe_int pa_nil))) pe_int (nomark _))))))), ?_⟩
    refine ⟨_, rfl, l, _, rfl, .inl hS, _, _, rfl, _, _, rfl, _, rfl, ?_, ?_, ?_⟩
    · rw [List.length_map]; (repeat' split) <;> omega
    · rw [List.length_map]; (repeat' split) <;> omega
    have hN : (if (if (8 : Int) < ((ns.map V.int).length : Int) then 8 else ((ns.map V.int).length : Int)) > 1 then (if (8 : Int) < ((ns.map V.int).length : Int) then 8 else ((ns.map V.int).length : Int)) else (1 : Int)).toNat ≤ 40 := by
      rw [List.length_map]; (repeat' split) <;> omega
    refine for_range (fun i σ H' => LamX.ExtN H H' ∧ LamX.Tabs (TTL a) H' ∧ ∃ v1 v2 v3 v4 v5 v6 v7 v8 v9 v10 v11 : Option V, σ = [some (.ref l), v1, v2, v3, v4, v5, v6, v7, v8, v9, v10, v11]) ⟨LamX.ExtN.refl H, hT, none, none, none, none, none, none, none, none, none, none, none, rfl⟩ ?_ ?_
    · rintro i0 σ H1 hi ⟨x1, t1, v1, v2, v3, v4, v5, v6, v7, v8, v9, v10, v11, rfl⟩
      refine ⟨_, rfl, _, rfl, l, ns, _, rfl, SL.SqL.extN hS x1, by omega, by omega, fun s Ha ns0 sa hba => ?_⟩
      refine ⟨⟨_, rfl⟩, _, rfl, s, 6, rfl, hba, (by decide), (by decide), fun r1 Hb r10 r11 kb hbb => ⟨1, r1, rfl, rfl, _, rfl, by omega, by omega, ?_⟩⟩
      intro D nD
      have Ds : D ≠ s := hbb.ne_new nD
      have sb : ∀ c o, H1 c = some o → Hb c = some o := fun c o e => kb c o (ne_of_none e ns0) (sa c o e)
      have nD1 : H1 D = none := by
        cases e : H1 D with
        | none => rfl
        | some o =>
          rw [sb D o e] at nD
          cases nD
      refine lc_range (lo := 0) (n := ((1 + r1 : Int)).toNat) (fun j H' => Same H1 H' ∧ BagAt H' s ∧ ∃ cs : List Nat, H' D = some (.lst (cs.map fun c => V.str ⟨#[c]⟩)) ∧ cs.length = j ∧ ∀ c ∈ cs, ltr c = true) ⟨fun c o e => by rw [upd_ne (ne_of_none e nD1)]; exact sb c o e, hbb.keepU Ds, [], upd_same, rfl, fun c h => by cases h⟩ ?_ ?_
      · rintro j H4 hj ⟨s4, hb4, cs, hD, hcl, hcs⟩
        refine ⟨rfl, _, rfl, s, 26, rfl, hb4, (by decide), (by decide), fun r2 H5 r20 r21 k5 hb5 => ?_⟩
        obtain ⟨c, hc, hcl2⟩ : ∃ c : Nat, atI (Str.ofString "abcdefghijklmnopqrstuvwxyz").cps.toList r2 = some c ∧ ltr c = true := by
          obtain ⟨m, rfl⟩ := Int.eq_ofNat_of_zero_le r20
          have hm : m < 26 := by omega
          refine ⟨97 + m, ?_, ?_⟩
          · rw [letters_eq]
            refine atI_nat (j := m) ?_
            rw [List.getElem?_range' hm]
            simp
          · simp only [ltr, Bool.and_eq_true, decide_eq_true_eq]
            omega
        refine ⟨_, r2, c, rfl, rfl, (by decide), hc, _, k5 _ _ Ds hD, ?_, fun u o e => ?_, hb5.keepU Ds, cs ++ [c], ?_, ?_, ?_⟩
        · rw [List.length_map, hcl]
          exact Nat.lt_of_lt_of_le (show j < 200 by omega) (by decide)
        · rw [upd_ne (ne_of_none e nD1)]
          exact k5 u o (ne_of_none e ns0) (s4 u o e)
        · rw [upd_same, List.map_append]
          rfl
        · rw [List.length_append, hcl]
          rfl
        · intro x hx
          rcases List.mem_append.mp hx with h | h
          · exact hcs x h
          · rw [List.mem_singleton.mp h]
            exact hcl2
      rintro Hc ⟨sc, hbc, cs, hD, hcl, hcs⟩
      have hcm : (cs.map fun c => V.str ⟨#[c]⟩) = (cs.map fun c => (⟨#[c]⟩ : Str)).map V.str := by rw [List.map_map]; rfl
      refine ⟨_, D, cs.map fun c => (⟨#[c]⟩ : Str), rfl, rfl, .inl (SqL.of (by rw [← hcm]; exact hD)), ?_, ?_⟩
      · have e1 : ((cs.map fun c => (⟨#[c]⟩ : Str)).map (·.length)).sum = cs.length := by
          clear hD hcl hcs hcm
          induction cs with
          | nil => rfl
          | cons c r ih =>
            simp only [List.map_cons, List.sum_cons, List.length_cons, ih]
            show 1 + _ = _
            omega
        have e2 : (Str.ofString "").length = 0 := by decide
        rw [e1, e2]
        omega
      have ejo : Txt.join "" (cs.map fun c => (⟨#[c]⟩ : Str)) = Str.join "" (cs.map fun c => (⟨#[c]⟩ : Str)) := TL.join_eq _ _
      have etl := joined cs
      rw [← ejo] at etl
      generalize ewd : Txt.join "" (cs.map fun c => (⟨#[c]⟩ : Str)) = wd at etl ⊢
      have hlow : Lw wd := fun c hc => hcs c (etl ▸ hc)
      have wk := lw_let hlow
      have wl : wd.cps.toList.length ≤ 100 := by rw [etl]; omega
      refine ⟨_, rfl, s, 4, rfl, hbc, by decide, by decide, fun r3 Hd a0 a1 kd hbd => ⟨_, _, rfl, rfl, ?_⟩⟩
      have sd : Same H1 Hd := fun c o e => kd c o (ne_of_none e ns0) (sc c o e)
      refine ⟨_, rfl, _, rfl, wd, 1 + r3, rfl, wl, by omega, fun He se => ⟨_, rfl, _, rfl, wd, 1 + r3, rfl, wk, wl, by omega, fun Hf sf => ⟨rfl, _, rfl, iteNSDl rfl ?_⟩⟩⟩
      have hbf := (hbd.same se).same sf
      refine ⟨_, rfl, fun y dy ny ndy ney => ?_⟩
      refine ⟨y, dy, 0, 1 + r3, rfl, upd_same, fun AY Hg hly ley ky ny6 => ⟨rfl, ?_⟩⟩
      have sg : Same Hf Hg := fun c o e => ky c o (ne_of_none e ny) (by
        rw [upd_ne (ne_of_none e ny), upd_ne (ne_of_none e ndy)]
        exact e)
      obtain ⟨dx, gsv, hx, tgs⟩ := hly.ins
      refine ⟨y, dx, _, rfl, hx, ldf_no _ _ _ _ _ _ _ _ _ _ _ (by decide +kernel) (by decide +kernel) (by decide +kernel) (by decide +kernel) (by decide +kernel) (by decide +kernel) (by decide +kernel) (by decide +kernel) (by decide +kernel) (by decide +kernel) (by decide +kernel), _, rfl, y, 0, 1 + r3, AY, _, _, wd, rfl, hly, wl, by omega, fun Hh sh => ⟨_, rfl, _, rfl, wd, 1 + r3, rfl, wl, by omega, fun Hi si => ⟨rfl, _, rfl, iteNSDl rfl ?_⟩⟩⟩
      have sfi := sg.trans (sh.trans si)
      refine ⟨_, rfl, _, rfl, s, _, rfl, hbf.same sfi, by omega, by omega, fun ho H4 b0 b1 k4 hb4 => ?_⟩
      have s14 : Same H1 H4 := fun c o e => k4 c o (ne_of_none e ns0) (sfi c o (sf c o (se c o (sd c o e))))
      refine ⟨_, rfl, _, rfl, ho, 1 + r3, rfl, b0, b1, by omega, fun A H5 s5 hA nA => ?_⟩
      refine ⟨_, rfl, _, rfl, fun x dx nx ndx nex => ?_⟩
      refine ⟨x, dx, ho, 1 + r3, rfl, upd_same, fun AL H6 hl6 le6 k6 n6 => ⟨rfl, ?_⟩⟩
      have hs5 : ∃ o, H5 s = some o := by
        obtain ⟨y, z, e, _⟩ := hb4
        exact ⟨_, s5 _ _ e⟩
      have sx5 : s ≠ x := by
        obtain ⟨o, e⟩ := hs5
        exact ne_of_none e nx
      have up5 : ∀ c o, H5 c = some o → (upd (upd H5 dx (.own x)) x (.ins (a 56) dx [])) c = some o := fun c o e => by
        rw [upd_ne (ne_of_none e nx), upd_ne (ne_of_none e ndx)]
        exact e
      have s56 : Same H5 H6 := fun c o e => k6 c o (ne_of_none e nx) (up5 c o e)
      have s16 : Same H1 H6 := s14.trans (s5.trans s56)
      have sup5 : ∀ c ∈ supG x AL, H5 c = none := fun c hc => by
        rcases List.mem_cons.mp hc with rfl | hc
        · exact nx
        · have z := n6 c hc
          cases e : H5 c with
          | none => rfl
          | some o =>
            rw [up5 c o e] at z
            cases z
      have W0 : W32 (a 56) (a 55) a H1 H6 s x A ⟨ho, 1 + r3, 0, -1, 0, -1⟩ [] ho (1 + r3) AL [] := by
        refine ⟨LamX.ExtN.of s16, ⟨(hb4.same s5).same s56, hA.same s56, Bw.begin b0 b1 (by omega), fun z => ?_⟩, hl6, t1.ext s16, fun z => ?_, fun c hc z => ?_, ns0, fun c hc => s14.free (nA c hc), fun c hc => Nw.of ((s14.trans s5).free (sup5 c hc))⟩
        · obtain ⟨y, w, e, _⟩ := hb4
          rw [nA s z] at e
          cases e
        · obtain ⟨o, e⟩ := hs5
          rw [sup5 s z] at e
          cases e
        · rcases hA.kind c hc with ⟨kv, e⟩ | ⟨xs, e⟩
          · rw [sup5 c z] at e; cases e
          · rw [sup5 c z] at e; cases e

      refine ⟨_, rfl, s, 36, rfl, W0.wb.bag, by decide, by decide, fun r7 H8 c0 c1 k7 hb7 => ⟨_, _, rfl, rfl, _, rfl, by omega, by omega, ?_⟩⟩
      have W7 := W0.step (FrB.fr k7) (W0.wb.fr k7 hb7)
      have hN7 : (5 + r7).toNat ≤ 40 := by omega
      refine for_range (fun j σ H' => ∃ (b : BS) (zs : List (V × En)) (AL : LA) (v9 v10 v11 : Option V), σ = [some (.ref l), some (.int (0 + (i0 : Int))), some (.ref s), some (.str wd), some (.int (1 + r3)), some (.int ho), some (.ref A.m), some (.ref x), some (.int zs.length), v9, v10, v11] ∧ W32 (a 56) (a 55) a H1 H' s x A b zs ho (1 + r3) AL (zs.map (·.2)) ∧ zs.length ≤ j ∧ b.ho = ho ∧ b.hn = 1 + r3) ⟨_, [], AL, _, _, _, rfl, W7, Nat.le_refl _, rfl, rfl⟩ ?_ ?_
      · rintro j σ H8 hj ⟨b, zs, AL, v9, v10, v11, rfl, W, zl, eho, ehn⟩
        refine ⟨_, rfl, _, rfl, s, A, b, zs, rfl, W.wb, by omega, trivial, fun b' ys H9 f9 wb9 yl eh en => ?_⟩
        have W9 := W.step f9 wb9
        have zl9 := wb9.len
        rw [List.length_append] at zl9
        refine ⟨_, rfl, A.m, _, rfl, W9.wb.bk.get (skv_rows A b'), ?_⟩
        show tPart (tVar 8) _ _ _
        refine ⟨_, rfl, _, rfl, ?_⟩
        show tNoPart _ _ _
        unfold L2.tNoPart
        refine ⟨A.rw, _, rfl, SqL.of W9.wb.bk.rows.1, fun pr npr => ?_⟩
        rw [cut_drop _ _ (by rw [List.length_map, List.length_append]; omega)]
        have edr : ((zs ++ ys).map (·.1)).drop zs.length = ys.map (·.1) := by
          rw [List.map_append, List.drop_append_of_le_length (by rw [List.length_map]; exact Nat.le_refl _), List.drop_of_length_le (by rw [List.length_map]; exact Nat.le_refl _)]
          rfl
        rw [edr]
        have s11 : Same H9 (upd H9 pr (.lst (ys.map (·.1)))) := same_new (Same.refl H9) npr
        have hpr : (upd H9 pr (.lst (ys.map (·.1)))) pr = some (.lst (ys.map (·.1))) := upd_same
        generalize (upd H9 pr (.lst (ys.map (·.1)))) = H11 at s11 hpr ⊢
        have W11 := W9.same s11
        have pr11 := W9.newN npr
        refine ⟨pr, rfl, ⟨_, SqL.of hpr⟩, ?_⟩
        refine for_list (K := K) (a := pr) (xs := ys.map (·.1)) (fun i σ H' => ∃ (AL : LA) (v9 : Option V), σ = [some (.ref l), some (.int (0 + (i0 : Int))), some (.ref s), some (.str wd), some (.int (1 + r3)), some (.int ho), some (.ref A.m), some (.ref x), some (.int zs.length), some (.int (0 + (j : Int))), v9, v11] ∧ W32 (a 56) (a 55) a H1 H' s x A b' (zs ++ ys) ho (1 + r3) AL (zs.map (·.2) ++ (ys.map (·.2)).take i) ∧ H' pr = some (.lst (ys.map (·.1))) ∧ ¬ pr ∈ supG x AL) ⟨AL, _, rfl, by rw [List.take_zero, List.append_nil]; exact W11, hpr, pr11⟩ (fun i σ H' _ z => ?_) ?_ ?_
        · obtain ⟨_, _, _, _, z, _⟩ := z
          exact SqL.of z
        · rintro i v0 σ H12 hi ⟨AL, v9, rfl, W12, hpr12, npr12⟩
          obtain ⟨e, q2, xs2, hu, rfl, hq2, tl2⟩ := row_at (H := H12) (zs := ys) (W12.wb.bk.rows.2.sub fun y hy => List.mem_append_right _ hy) hi
          have hu2 : (ys.map (·.2))[i]? = some e := by rw [List.getElem?_map, hu]; rfl
          have iy := (List.getElem?_eq_some_iff.mp hu).1
          have te : TD H12 (.ref q2) e.d := W12.wb.bk.rows.2 (.ref q2, e) (List.mem_append_right _ (List.mem_of_getElem? hu))
          have gT := gd_take W12.wb.w.gd (zs.length + (i + 1))
          have eT : ((zs ++ ys).map (·.2)).take (zs.length + (i + 1)) = (zs.map (·.2) ++ (ys.map (·.2)).take i) ++ [e] := by
            have h1 : zs.length + (i + 1) = (zs.map (·.2)).length + (i + 1) := by rw [List.length_map]
            rw [List.map_append, h1, List.take_length_add_append, take_snoc hu2, List.append_assoc]
          have gT' := gT
          rw [eT] at gT
          obtain ⟨g1, vd⟩ := gd_snoc gT
          obtain ⟨dx, gsv, hx, tgs⟩ := W12.ld.ins
          have rl12 : (zs.map (·.2) ++ (ys.map (·.2)).take i).length ≤ 60 := by
            rw [List.length_append, List.length_map]
            have := List.length_take_le' i (ys.map (·.2))
            rw [List.length_map] at this
            omega
          refine ⟨_, rfl, x, dx, _, rfl, hx, ldf_no _ _ _ _ _ _ _ _ _ _ _ (by decide +kernel) (by decide +kernel) (by decide +kernel) (by decide +kernel) (by decide +kernel) (by decide +kernel) (by decide +kernel) (by decide +kernel) (by decide +kernel) (by decide +kernel) (by decide +kernel), _, rfl, x, ho, _, AL, _, _, _, e, rfl, W12.ld, te, note_ok g1 vd, by omega, W12.tb, fun AL' H13 hl13 st13 t13 tk13 => ?_⟩
          have W13 := W12.note hl13 st13 t13 tk13
          have fl : ∀ {c : Addr} {xs : List V}, ¬ c ∈ supG x AL → H12 c = some (.lst xs) → H13 c = some (.lst xs) ∧ ¬ c ∈ supG x AL' := fun {c xs} n e => ⟨st13.fr c _ (fun z => n (ownG_sup z)) e (fun ps z => by cases z), fun z => by
            rcases st13.sp c z with y | y
            · exact n y
            · obtain ⟨ps, y⟩ := y _ e
              cases y⟩
          have z13 := fl npr12 hpr12
          have W13' : W32 (a 56) (a 55) a H1 H13 s x A b' (zs ++ ys) ho (1 + r3) AL' (zs.map (·.2) ++ (ys.map (·.2)).take (i + 1)) := by
            rw [take_snoc hu2, ← List.append_assoc]
            exact W13
          refine ⟨AL', _, rfl, W13', z13.1, z13.2⟩
        · rintro σ H12 ⟨AL, v9, rfl, W12', hpr12, npr12⟩
          have W12 : W32 (a 56) (a 55) a H1 H12 s x A b' (zs ++ ys) ho (1 + r3) AL ((zs ++ ys).map (·.2)) := by
            rw [List.map_append]
            rw [List.take_of_length_le (by rw [List.length_map, List.length_map]; exact Nat.le_refl _)] at W12'
            exact W12'
          refine ⟨_, rfl, A.m, _, rfl, W12.wb.bk.get (skv_rows A b'), A.rw, _, rfl, .inl (SqL.of W12.wb.bk.rows.1), ?_⟩
          rw [List.length_map]
          exact ⟨b', zs ++ ys, AL, _, _, _, rfl, W12, by rw [List.length_append]; omega, eh.trans eho, en.trans ehn⟩
      · rintro σ H8 ⟨b, zs, AL, v9, v10, v11, rfl, W, zl, eho, ehn⟩
        refine ⟨_, rfl, _, rfl, A.m, _, rfl, W.wb.bk.get (skv_rows A b), _, rfl, _, rfl, x, AL, _, A.rw, zs, b, (by rw [eho, ehn]; rfl), (by rw [eho, ehn]; exact W.ld), W.wb.bk.rows, W.wb.w, W.wb.len, fun H14 s14 => ⟨true, rfl, iteF ?_⟩⟩
        have W14 := W.same s14
        exact ⟨x1.trans W14.ex, W14.tb, _, _, _, _, _, _, _, _, _, _, _, rfl⟩
    · rintro σ H1 ⟨x1, t1, v1, v2, v3, v4, v5, v6, v7, v8, v9, v10, v11, rfl⟩
      intro y dy ny ndy ney
      refine ⟨y, dy, 0, 1, rfl, upd_same, fun AY Hg hly ley ky ny6 => ⟨rfl, ?_⟩⟩
      obtain ⟨dx, gsv, hx, tgs⟩ := hly.ins
      refine ⟨y, dx, _, rfl, hx, ldf_no _ _ _ _ _ _ _ _ _ _ _ (by decide +kernel) (by decide +kernel) (by decide +kernel) (by decide +kernel) (by decide +kernel) (by decide +kernel) (by decide +kernel) (by decide +kernel) (by decide +kernel) (by decide +kernel) (by decide +kernel), y, 0, 1, AY, _, _, "zz", rfl, hly, by decide, by decide, fun Hh sh => ?_⟩
      refine ⟨rfl, _, rfl, iteDT (congrArg V.int zz0) ⟨"az", 4, rfl, by decide, by decide, fun Hk sk => ⟨rfl, ?_⟩⟩⟩
      show Q (.bl (decide (V.int (firstK "az" 4) = V.int 1))) Hk
      rw [az4, decide_eq_true rfl]
      exact q _

theorem all_mk {l : PySem.W.OpenLaw} {w : World} {K : PySem.W.Frag} {h : Heap} {mg : Str → Option Value} {fa : Addr} {f0 f1 f2 f3 f4 f5 f6 f7 f8 f9 f10 f11 f12 f13 f14 f15 f16 f17 f18 f19 f20 f21 f22 f23 f24 f25 f26 f27 f28 f29 f30 f31 f32 f33 f34 f35 f36 f37 f38 f39 f40 f41 f42 f43 f44 f45 f46 f47 f48 f49 f50 f51 f52 f53 f54 : Addr} {kc31 : Addr} (X : K.In h) (G : h.Ns mainGlobals mg) (hfa : mg "law" = some (.ref fa))
    {od0 od1 od2 od3 od4 od5 od6 od7 od8 od9 od10 od11 od12 od13 od14 od15 od16 od17 od18 od19 od20 od21 od22 od23 od24 od25 od26 od27 od28 od29 od30 od31 od32 od33 od34 od35 od36 od37 od38 od39 od40 od41 od42 od43 od44 od45 od46 od47 od48 od49 od50 od51 od52 od53 od54 : Option Addr} {an0 an1 an2 an3 an4 an5 an6 an7 an8 an9 an10 an11 an12 an13 an14 an15 an16 an17 an18 an19 an20 an21 an22 an23 an24 an25 an26 an27 an28 an29 an30 an31 an32 an33 an34 an35 an36 an37 an38 an39 an40 an41 an42 an43 an44 an45 an46 an47 an48 an49 an50 an51 an52 an53 an54 : Option Addr} {sl0 sl1 sl2 sl3 sl4 sl5 sl6 sl7 sl8 sl9 sl10 sl11 sl12 sl13 sl14 sl15 sl16 sl17 sl18 sl19 sl20 sl21 sl22 sl23 sl24 sl25 sl26 sl27 sl28 sl29 sl30 sl31 sl32 sl33 sl34 sl35 sl36 sl37 sl38 sl39 sl40 sl41 sl42 sl43 sl44 sl45 sl46 sl47 sl48 sl49 sl50 sl51 sl52 sl53 sl54 : Array (Option Value)} {oc0 kV0 dc0 pm0 cd0 ct0 oc1 kV1 dc1 pm1 cd1 ct1 oc2 kV2 dc2 pm2 cd2 ct2 oc3 kV3 dc3 pm3 cd3 ct3 oc4 kV4 dc4 pm4 cd4 ct4 oc5 kV5 dc5 pm5 cd5 ct5 oc6 kV6 dc6 pm6 cd6 ct6 oc7 kV7 dc7 pm7 cd7 ct7 oc8 kV8 dc8 pm8 cd8 ct8 oc9 kV9 dc9 pm9 cd9 ct9 oc10 kV10 dc10 pm10 cd10 ct10 oc11 kV11 dc11 pm11 cd11 ct11 oc12 kV12 dc12 pm12 cd12 ct12 oc13 kV13 dc13 pm13 cd13 ct13 oc14 kV14 dc14 pm14 cd14 ct14 oc15 kV15 dc15 pm15 cd15 ct15 oc16 kV16 dc16 pm16 cd16 ct16 oc17 kV17 dc17 pm17 cd17 ct17 oc18 kV18 dc18 pm18 cd18 ct18 oc19 kV19 dc19 pm19 cd19 ct19 oc20 kV20 dc20 pm20 cd20 ct20 oc21 kV21 dc21 pm21 cd21 ct21 oc22 kV22 dc22 pm22 cd22 ct22 oc23 kV23 dc23 pm23 cd23 ct23 oc24 kV24 dc24 pm24 cd24 ct24 oc25 kV25 dc25 pm25 cd25 ct25 oc26 kV26 dc26 pm26 cd26 ct26 oc27 kV27 dc27 pm27 cd27 ct27 oc28 kV28 dc28 pm28 cd28 ct28 oc29 kV29 dc29 pm29 cd29 ct29 oc30 kV30 dc30 pm30 cd30 ct30 oc31 kV31 dc31 pm31 ct31 oc32 kV32 dc32 pm32 cd32 ct32 oc33 kV33 dc33 pm33 cd33 ct33 oc34 kV34 dc34 pm34 cd34 ct34 oc35 kV35 dc35 pm35 cd35 ct35 oc36 kV36 dc36 pm36 cd36 ct36 oc37 kV37 dc37 pm37 cd37 ct37 oc38 kV38 dc38 pm38 cd38 ct38 oc39 kV39 dc39 pm39 cd39 ct39 oc40 kV40 dc40 pm40 cd40 ct40 oc41 kV41 dc41 pm41 cd41 ct41 oc42 kV42 dc42 pm42 cd42 ct42 oc43 kV43 dc43 pm43 cd43 ct43 oc44 kV44 dc44 pm44 cd44 ct44 oc45 kV45 dc45 pm45 cd45 ct45 oc46 kV46 dc46 pm46 cd46 ct46 oc47 kV47 dc47 pm47 cd47 ct47 oc48 kV48 dc48 pm48 cd48 ct48 oc49 kV49 dc49 pm49 cd49 ct49 oc50 kV50 dc50 pm50 cd50 ct50 oc51 kV51 dc51 pm51 cd51 ct51 oc52 kV52 dc52 pm52 cd52 ct52 oc53 kV53 dc53 pm53 cd53 ct53 oc54 kV54 dc54 pm54 cd54 ct54 : Value}
    {fC : Addr}
    {fC_Ledger : Addr}
    {t57 : Tok}
    {t58 : Tok}
    {t59 : Tok}
    {t60 : Tok}
    {t61 : Tok}
    {t62 : Tok}
    {t63 : Tok}
    {t64 : Tok}
    {t65 : Tok}
    {t66 : Tok}
    {t67 : Tok}
    {t68 : Tok}
    {f69 : Addr} {od69 : Option Addr} {n69 : Nat} {sl69 : Array (Option Value)}
    {t70 : Tok}
    {T33 : Addr} {odT33 : Option Addr} {ocT33 : Value} {nT33 : Nat} {slT33 : Array (Option Value)} {tT33_0 : Tok}
    (g57 : PySem.W.nsIn K mainGlobals "LETTERS" = some (some (.str "abcdefghijklmnopqrstuvwxyz" t57)))
    (g58 : PySem.W.nsIn K mainGlobals "MOST_LETTERS" = some (some (.int (6) t58)))
    (g59 : PySem.W.nsIn K mainGlobals "MOST_FIELDS" = some (some (.int (4) t59)))
    (g60 : PySem.W.nsIn K mainGlobals "PLEDGE" = some (some (.str "pledge" t60)))
    (g61 : PySem.W.nsIn K mainGlobals "MOVE" = some (some (.str "move" t61)))
    (g62 : PySem.W.nsIn K mainGlobals "FORM" = some (some (.str "form" t62)))
    (g63 : PySem.W.nsIn K mainGlobals "PLEDGED" = some (some (.str "pledged" t63)))
    (g64 : PySem.W.nsIn K mainGlobals "SURE" = some (some (.str "sure" t64)))
    (g65 : PySem.W.nsIn K mainGlobals "DONE" = some (some (.str "done" t65)))
    (g66 : PySem.W.nsIn K mainGlobals "OFF" = some (some (.str "off" t66)))
    (g67 : PySem.W.nsIn K mainGlobals "MARK" = some (some (.str "mark" t67)))
    (g68 : PySem.W.nsIn K mainGlobals "GONE" = some (some (.str "gone" t68)))
    (g69 : PySem.W.nsIn K mainGlobals "UNNOTED" = some (some (.ref f69))) (l69 : K.lookup f69 = some ⟨.type "tuple", od69, .seq #[.none, .none, .none, .none] n69, sl69⟩)
    (g70 : PySem.W.nsIn K mainGlobals "FIRST_LETTER" = some (some (.int (97) t70)))
    (aC : PySem.W.nsIn K mainGlobals "Shelf" = some (some (.ref fC))) (pg : PySem.W.plainGet K fC Str.empty = true) (hd : PySem.W.hasDictIn K fC = true) (po : PySem.W.plainOver K fC = true) (sa : PySem.W.findIn K (.ref fC) "__setattr__" = some (some (.builtin "object.__setattr__"))) (mk : PySem.W.makesIn K fC = true) (kc : PySem.W.keepIn K (.ref fC) = true)
    (nf_rows : PySem.W.findIn K (.ref fC) "rows" = some none)
    (nf_let_go_to : PySem.W.findIn K (.ref fC) "let_go_to" = some none)
    (nf_lent : PySem.W.findIn K (.ref fC) "lent" = some none)
    (nf_own_rows : PySem.W.findIn K (.ref fC) "own_rows" = some none)
    (nf___bool__ : PySem.W.findIn K (.ref fC) "__bool__" = some none)
    (aC_Ledger : PySem.W.nsIn K mainGlobals "Ledger" = some (some (.ref fC_Ledger))) (pg_Ledger : PySem.W.plainGet K fC_Ledger Str.empty = true) (hd_Ledger : PySem.W.hasDictIn K fC_Ledger = true) (po_Ledger : PySem.W.plainOver K fC_Ledger = true) (sa_Ledger : PySem.W.findIn K (.ref fC_Ledger) "__setattr__" = some (some (.builtin "object.__setattr__"))) (mk_Ledger : PySem.W.makesIn K fC_Ledger = true) (kc_Ledger : PySem.W.keepIn K (.ref fC_Ledger) = true)
    (nf_Ledger_at_house : PySem.W.findIn K (.ref fC_Ledger) "at_house" = some none)
    (nf_Ledger_many_houses : PySem.W.findIn K (.ref fC_Ledger) "many_houses" = some none)
    (nf_Ledger_notes : PySem.W.findIn K (.ref fC_Ledger) "notes" = some none)
    (nf_Ledger_unended : PySem.W.findIn K (.ref fC_Ledger) "unended" = some none)
    (nf_Ledger_lent : PySem.W.findIn K (.ref fC_Ledger) "lent" = some none)
    (nf_Ledger_greatest_stamp : PySem.W.findIn K (.ref fC_Ledger) "greatest_stamp" = some none)
    (nf_Ledger_greatest_serial : PySem.W.findIn K (.ref fC_Ledger) "greatest_serial" = some none)
    (nf_Ledger_greatest_mark : PySem.W.findIn K (.ref fC_Ledger) "greatest_mark" = some none)
    (nf_Ledger_worths : PySem.W.findIn K (.ref fC_Ledger) "worths" = some none)
    (nf_Ledger_moved : PySem.W.findIn K (.ref fC_Ledger) "moved" = some none)
    (nf_Ledger_forms : PySem.W.findIn K (.ref fC_Ledger) "forms" = some none)
    (nf_Ledger___bool__ : PySem.W.findIn K (.ref fC_Ledger) "__bool__" = some none)
    (a0 : PySem.W.nsIn K mainGlobals "is_whole" = some (some (.ref f0)))
    (l0 : K.lookup f0 = some ⟨oc0, od0, .func (PySem.W.fnOf "is_whole" "is_whole" (defArgs s_is_whole) (defBody s_is_whole) (defScope s_is_whole) .none kV0 dc0 pm0 an0 cd0 ct0), sl0⟩) (c0 : PySem.W.codeIn K cd0 "is_whole" = true) (k0 : PySem.W.keepIn K (.ref f0) = true)
    (a1 : PySem.W.nsIn K mainGlobals "is_row_of_whole" = some (some (.ref f1)))
    (l1 : K.lookup f1 = some ⟨oc1, od1, .func (PySem.W.fnOf "is_row_of_whole" "is_row_of_whole" (defArgs s_is_row_of_whole) (defBody s_is_row_of_whole) (defScope s_is_row_of_whole) .none kV1 dc1 pm1 an1 cd1 ct1), sl1⟩) (c1 : PySem.W.codeIn K cd1 "is_row_of_whole" = true) (k1 : PySem.W.keepIn K (.ref f1) = true)
    (a2 : PySem.W.nsIn K mainGlobals "is_stamp" = some (some (.ref f2)))
    (l2 : K.lookup f2 = some ⟨oc2, od2, .func (PySem.W.fnOf "is_stamp" "is_stamp" (defArgs s_is_stamp) (defBody s_is_stamp) (defScope s_is_stamp) .none kV2 dc2 pm2 an2 cd2 ct2), sl2⟩) (c2 : PySem.W.codeIn K cd2 "is_stamp" = true) (k2 : PySem.W.keepIn K (.ref f2) = true)
    (a3 : PySem.W.nsIn K mainGlobals "is_key" = some (some (.ref f3)))
    (l3 : K.lookup f3 = some ⟨oc3, od3, .func (PySem.W.fnOf "is_key" "is_key" (defArgs s_is_key) (defBody s_is_key) (defScope s_is_key) .none kV3 dc3 pm3 an3 cd3 ct3), sl3⟩) (c3 : PySem.W.codeIn K cd3 "is_key" = true) (k3 : PySem.W.keepIn K (.ref f3) = true)
    (a4 : PySem.W.nsIn K mainGlobals "is_worth" = some (some (.ref f4)))
    (l4 : K.lookup f4 = some ⟨oc4, od4, .func (PySem.W.fnOf "is_worth" "is_worth" (defArgs s_is_worth) (defBody s_is_worth) (defScope s_is_worth) .none kV4 dc4 pm4 an4 cd4 ct4), sl4⟩) (c4 : PySem.W.codeIn K cd4 "is_worth" = true) (k4 : PySem.W.keepIn K (.ref f4) = true)
    (a5 : PySem.W.nsIn K mainGlobals "refuse_no_key" = some (some (.ref f5)))
    (l5 : K.lookup f5 = some ⟨oc5, od5, .func (PySem.W.fnOf "refuse_no_key" "refuse_no_key" (defArgs s_refuse_no_key) (defBody s_refuse_no_key) (defScope s_refuse_no_key) .none kV5 dc5 pm5 an5 cd5 ct5), sl5⟩) (c5 : PySem.W.codeIn K cd5 "refuse_no_key" = true) (k5 : PySem.W.keepIn K (.ref f5) = true)
    (a6 : PySem.W.nsIn K mainGlobals "refuse_no_time" = some (some (.ref f6)))
    (l6 : K.lookup f6 = some ⟨oc6, od6, .func (PySem.W.fnOf "refuse_no_time" "refuse_no_time" (defArgs s_refuse_no_time) (defBody s_refuse_no_time) (defScope s_refuse_no_time) .none kV6 dc6 pm6 an6 cd6 ct6), sl6⟩) (c6 : PySem.W.codeIn K cd6 "refuse_no_time" = true) (k6 : PySem.W.keepIn K (.ref f6) = true)
    (a7 : PySem.W.nsIn K mainGlobals "many_up_to" = some (some (.ref f7)))
    (l7 : K.lookup f7 = some ⟨oc7, od7, .func (PySem.W.fnOf "many_up_to" "many_up_to" (defArgs s_many_up_to) (defBody s_many_up_to) (defScope s_many_up_to) .none kV7 dc7 pm7 an7 cd7 ct7), sl7⟩) (c7 : PySem.W.codeIn K cd7 "many_up_to" = true) (k7 : PySem.W.keepIn K (.ref f7) = true)
    (a8 : PySem.W.findIn K (.ref fC) "__init__" = some (some (.ref f8))) (i8 : PySem.W.isFn K (.ref f8) = true)
    (l8 : K.lookup f8 = some ⟨oc8, od8, .func (PySem.W.fnOf "__init__" "Shelf.__init__" (defArgs s_Shelf___init__) (defBody s_Shelf___init__) (defScope s_Shelf___init__) .none kV8 dc8 pm8 an8 cd8 ct8), sl8⟩) (c8 : PySem.W.codeIn K cd8 "Shelf.__init__" = true) (k8 : PySem.W.keepIn K (.ref f8) = true)
    (a9 : PySem.W.findIn K (.ref fC) "row_of" = some (some (.ref f9))) (i9 : PySem.W.isFn K (.ref f9) = true)
    (l9 : K.lookup f9 = some ⟨oc9, od9, .func (PySem.W.fnOf "row_of" "Shelf.row_of" (defArgs s_Shelf_row_of) (defBody s_Shelf_row_of) (defScope s_Shelf_row_of) .none kV9 dc9 pm9 an9 cd9 ct9), sl9⟩) (c9 : PySem.W.codeIn K cd9 "Shelf.row_of" = true) (k9 : PySem.W.keepIn K (.ref f9) = true)
    (a10 : PySem.W.findIn K (.ref fC) "make_own" = some (some (.ref f10))) (i10 : PySem.W.isFn K (.ref f10) = true)
    (l10 : K.lookup f10 = some ⟨oc10, od10, .func (PySem.W.fnOf "make_own" "Shelf.make_own" (defArgs s_Shelf_make_own) (defBody s_Shelf_make_own) (defScope s_Shelf_make_own) .none kV10 dc10 pm10 an10 cd10 ct10), sl10⟩) (c10 : PySem.W.codeIn K cd10 "Shelf.make_own" = true) (k10 : PySem.W.keepIn K (.ref f10) = true)
    (a11 : PySem.W.findIn K (.ref fC) "put" = some (some (.ref f11))) (i11 : PySem.W.isFn K (.ref f11) = true)
    (l11 : K.lookup f11 = some ⟨oc11, od11, .func (PySem.W.fnOf "put" "Shelf.put" (defArgs s_Shelf_put) (defBody s_Shelf_put) (defScope s_Shelf_put) .none kV11 dc11 pm11 an11 cd11 ct11), sl11⟩) (c11 : PySem.W.codeIn K cd11 "Shelf.put" = true) (k11 : PySem.W.keepIn K (.ref f11) = true)
    (a12 : PySem.W.findIn K (.ref fC) "__len__" = some (some (.ref f12))) (i12 : PySem.W.isFn K (.ref f12) = true)
    (l12 : K.lookup f12 = some ⟨oc12, od12, .func (PySem.W.fnOf "__len__" "Shelf.__len__" (defArgs s_Shelf___len__) (defBody s_Shelf___len__) (defScope s_Shelf___len__) .none kV12 dc12 pm12 an12 cd12 ct12), sl12⟩) (c12 : PySem.W.codeIn K cd12 "Shelf.__len__" = true) (k12 : PySem.W.keepIn K (.ref f12) = true)
    (a13 : PySem.W.findIn K (.ref fC) "let_go" = some (some (.ref f13))) (i13 : PySem.W.isFn K (.ref f13) = true)
    (l13 : K.lookup f13 = some ⟨oc13, od13, .func (PySem.W.fnOf "let_go" "Shelf.let_go" (defArgs s_Shelf_let_go) (defBody s_Shelf_let_go) (defScope s_Shelf_let_go) .none kV13 dc13 pm13 an13 cd13 ct13), sl13⟩) (c13 : PySem.W.codeIn K cd13 "Shelf.let_go" = true) (k13 : PySem.W.keepIn K (.ref f13) = true)
    (a14 : PySem.W.nsIn K mainGlobals "stamp_in" = some (some (.ref f14)))
    (l14 : K.lookup f14 = some ⟨oc14, od14, .func (PySem.W.fnOf "stamp_in" "stamp_in" (defArgs s_stamp_in) (defBody s_stamp_in) (defScope s_stamp_in) .none kV14 dc14 pm14 an14 cd14 ct14), sl14⟩) (c14 : PySem.W.codeIn K cd14 "stamp_in" = true) (k14 : PySem.W.keepIn K (.ref f14) = true)
    (a15 : PySem.W.nsIn K mainGlobals "writes_in" = some (some (.ref f15)))
    (l15 : K.lookup f15 = some ⟨oc15, od15, .func (PySem.W.fnOf "writes_in" "writes_in" (defArgs s_writes_in) (defBody s_writes_in) (defScope s_writes_in) .none kV15 dc15 pm15 an15 cd15 ct15), sl15⟩) (c15 : PySem.W.codeIn K cd15 "writes_in" = true) (k15 : PySem.W.keepIn K (.ref f15) = true)
    (a16 : PySem.W.nsIn K mainGlobals "things_behind" = some (some (.ref f16)))
    (l16 : K.lookup f16 = some ⟨oc16, od16, .func (PySem.W.fnOf "things_behind" "things_behind" (defArgs s_things_behind) (defBody s_things_behind) (defScope s_things_behind) .none kV16 dc16 pm16 an16 cd16 ct16), sl16⟩) (c16 : PySem.W.codeIn K cd16 "things_behind" = true) (k16 : PySem.W.keepIn K (.ref f16) = true)
    (a17 : PySem.W.nsIn K mainGlobals "move_of" = some (some (.ref f17)))
    (l17 : K.lookup f17 = some ⟨oc17, od17, .func (PySem.W.fnOf "move_of" "move_of" (defArgs s_move_of) (defBody s_move_of) (defScope s_move_of) .none kV17 dc17 pm17 an17 cd17 ct17), sl17⟩) (c17 : PySem.W.codeIn K cd17 "move_of" = true) (k17 : PySem.W.keepIn K (.ref f17) = true)
    (a18 : PySem.W.nsIn K mainGlobals "form_of" = some (some (.ref f18)))
    (l18 : K.lookup f18 = some ⟨oc18, od18, .func (PySem.W.fnOf "form_of" "form_of" (defArgs s_form_of) (defBody s_form_of) (defScope s_form_of) .none kV18 dc18 pm18 an18 cd18 ct18), sl18⟩) (c18 : PySem.W.codeIn K cd18 "form_of" = true) (k18 : PySem.W.keepIn K (.ref f18) = true)
    (a19 : PySem.W.nsIn K mainGlobals "move_in" = some (some (.ref f19)))
    (l19 : K.lookup f19 = some ⟨oc19, od19, .func (PySem.W.fnOf "move_in" "move_in" (defArgs s_move_in) (defBody s_move_in) (defScope s_move_in) .none kV19 dc19 pm19 an19 cd19 ct19), sl19⟩) (c19 : PySem.W.codeIn K cd19 "move_in" = true) (k19 : PySem.W.keepIn K (.ref f19) = true)
    (a20 : PySem.W.nsIn K mainGlobals "form_in" = some (some (.ref f20)))
    (l20 : K.lookup f20 = some ⟨oc20, od20, .func (PySem.W.fnOf "form_in" "form_in" (defArgs s_form_in) (defBody s_form_in) (defScope s_form_in) .none kV20 dc20 pm20 an20 cd20 ct20), sl20⟩) (c20 : PySem.W.codeIn K cd20 "form_in" = true) (k20 : PySem.W.keepIn K (.ref f20) = true)
    (a21 : PySem.W.findIn K (.ref fC_Ledger) "make_own" = some (some (.ref f21))) (i21 : PySem.W.isFn K (.ref f21) = true)
    (l21 : K.lookup f21 = some ⟨oc21, od21, .func (PySem.W.fnOf "make_own" "Ledger.make_own" (defArgs s_Ledger_make_own) (defBody s_Ledger_make_own) (defScope s_Ledger_make_own) .none kV21 dc21 pm21 an21 cd21 ct21), sl21⟩) (c21 : PySem.W.codeIn K cd21 "Ledger.make_own" = true) (k21 : PySem.W.keepIn K (.ref f21) = true)
    (a22 : PySem.W.findIn K (.ref fC_Ledger) "noted_of" = some (some (.ref f22))) (i22 : PySem.W.isFn K (.ref f22) = true)
    (l22 : K.lookup f22 = some ⟨oc22, od22, .func (PySem.W.fnOf "noted_of" "Ledger.noted_of" (defArgs s_Ledger_noted_of) (defBody s_Ledger_noted_of) (defScope s_Ledger_noted_of) .none kV22 dc22 pm22 an22 cd22 ct22), sl22⟩) (c22 : PySem.W.codeIn K cd22 "Ledger.noted_of" = true) (k22 : PySem.W.keepIn K (.ref f22) = true)
    (a23 : PySem.W.findIn K (.ref fC_Ledger) "word" = some (some (.ref f23))) (i23 : PySem.W.isFn K (.ref f23) = true)
    (l23 : K.lookup f23 = some ⟨oc23, od23, .func (PySem.W.fnOf "word" "Ledger.word" (defArgs s_Ledger_word) (defBody s_Ledger_word) (defScope s_Ledger_word) .none kV23 dc23 pm23 an23 cd23 ct23), sl23⟩) (c23 : PySem.W.codeIn K cd23 "Ledger.word" = true) (k23 : PySem.W.keepIn K (.ref f23) = true)
    (a24 : PySem.W.findIn K (.ref fC_Ledger) "pledge_of" = some (some (.ref f24))) (i24 : PySem.W.isFn K (.ref f24) = true)
    (l24 : K.lookup f24 = some ⟨oc24, od24, .func (PySem.W.fnOf "pledge_of" "Ledger.pledge_of" (defArgs s_Ledger_pledge_of) (defBody s_Ledger_pledge_of) (defScope s_Ledger_pledge_of) .none kV24 dc24 pm24 an24 cd24 ct24), sl24⟩) (c24 : PySem.W.codeIn K cd24 "Ledger.pledge_of" = true) (k24 : PySem.W.keepIn K (.ref f24) = true)
    (a25 : PySem.W.findIn K (.ref fC_Ledger) "low_of" = some (some (.ref f25))) (i25 : PySem.W.isFn K (.ref f25) = true)
    (l25 : K.lookup f25 = some ⟨oc25, od25, .func (PySem.W.fnOf "low_of" "Ledger.low_of" (defArgs s_Ledger_low_of) (defBody s_Ledger_low_of) (defScope s_Ledger_low_of) .none kV25 dc25 pm25 an25 cd25 ct25), sl25⟩) (c25 : PySem.W.codeIn K cd25 "Ledger.low_of" = true) (k25 : PySem.W.keepIn K (.ref f25) = true)
    (a26 : PySem.W.findIn K (.ref fC_Ledger) "note_stamp" = some (some (.ref f26))) (i26 : PySem.W.isFn K (.ref f26) = true)
    (l26 : K.lookup f26 = some ⟨oc26, od26, .func (PySem.W.fnOf "note_stamp" "Ledger.note_stamp" (defArgs s_Ledger_note_stamp) (defBody s_Ledger_note_stamp) (defScope s_Ledger_note_stamp) .none kV26 dc26 pm26 an26 cd26 ct26), sl26⟩) (c26 : PySem.W.codeIn K cd26 "Ledger.note_stamp" = true) (k26 : PySem.W.keepIn K (.ref f26) = true)
    (a27 : PySem.W.findIn K (.ref fC_Ledger) "note_pledge" = some (some (.ref f27))) (i27 : PySem.W.isFn K (.ref f27) = true)
    (l27 : K.lookup f27 = some ⟨oc27, od27, .func (PySem.W.fnOf "note_pledge" "Ledger.note_pledge" (defArgs s_Ledger_note_pledge) (defBody s_Ledger_note_pledge) (defScope s_Ledger_note_pledge) .none kV27 dc27 pm27 an27 cd27 ct27), sl27⟩) (c27 : PySem.W.codeIn K cd27 "Ledger.note_pledge" = true) (k27 : PySem.W.keepIn K (.ref f27) = true)
    (a28 : PySem.W.findIn K (.ref fC_Ledger) "note_sure" = some (some (.ref f28))) (i28 : PySem.W.isFn K (.ref f28) = true)
    (l28 : K.lookup f28 = some ⟨oc28, od28, .func (PySem.W.fnOf "note_sure" "Ledger.note_sure" (defArgs s_Ledger_note_sure) (defBody s_Ledger_note_sure) (defScope s_Ledger_note_sure) .none kV28 dc28 pm28 an28 cd28 ct28), sl28⟩) (c28 : PySem.W.codeIn K cd28 "Ledger.note_sure" = true) (k28 : PySem.W.keepIn K (.ref f28) = true)
    (a29 : PySem.W.findIn K (.ref fC_Ledger) "note_end" = some (some (.ref f29))) (i29 : PySem.W.isFn K (.ref f29) = true)
    (l29 : K.lookup f29 = some ⟨oc29, od29, .func (PySem.W.fnOf "note_end" "Ledger.note_end" (defArgs s_Ledger_note_end) (defBody s_Ledger_note_end) (defScope s_Ledger_note_end) .none kV29 dc29 pm29 an29 cd29 ct29), sl29⟩) (c29 : PySem.W.codeIn K cd29 "Ledger.note_end" = true) (k29 : PySem.W.keepIn K (.ref f29) = true)
    (a30 : PySem.W.findIn K (.ref fC_Ledger) "note_mark" = some (some (.ref f30))) (i30 : PySem.W.isFn K (.ref f30) = true)
    (l30 : K.lookup f30 = some ⟨oc30, od30, .func (PySem.W.fnOf "note_mark" "Ledger.note_mark" (defArgs s_Ledger_note_mark) (defBody s_Ledger_note_mark) (defScope s_Ledger_note_mark) .none kV30 dc30 pm30 an30 cd30 ct30), sl30⟩) (c30 : PySem.W.codeIn K cd30 "Ledger.note_mark" = true) (k30 : PySem.W.keepIn K (.ref f30) = true)
    (a31 : PySem.W.findIn K (.ref fC_Ledger) "note_done" = some (some (.ref f31))) (i31 : PySem.W.isFn K (.ref f31) = true)
    (l31 : K.lookup f31 = some ⟨oc31, od31, .func (PySem.W.fnOf "note_done" "Ledger.note_done" (defArgs s_Ledger_note_done) (defBody s_Ledger_note_done) (defScope s_Ledger_note_done) .none kV31 dc31 pm31 an31 (.ref kc31) ct31), sl31⟩) (c31 : PySem.W.codeIn K (.ref kc31) "Ledger.note_done" = true) (k31 : PySem.W.keepIn K (.ref f31) = true)
    (a32 : PySem.W.findIn K (.ref fC_Ledger) "note" = some (some (.ref f32))) (i32 : PySem.W.isFn K (.ref f32) = true)
    (l32 : K.lookup f32 = some ⟨oc32, od32, .func (PySem.W.fnOf "note" "Ledger.note" (defArgs s_Ledger_note) (defBody s_Ledger_note) (defScope s_Ledger_note) .none kV32 dc32 pm32 an32 cd32 ct32), sl32⟩) (c32 : PySem.W.codeIn K cd32 "Ledger.note" = true) (k32 : PySem.W.keepIn K (.ref f32) = true)
    (a33 : PySem.W.findIn K (.ref fC_Ledger) "__init__" = some (some (.ref f33))) (i33 : PySem.W.isFn K (.ref f33) = true)
    (l33 : K.lookup f33 = some ⟨oc33, od33, .func (PySem.W.fnOf "__init__" "Ledger.__init__" (defArgs s_Ledger___init__) (defBody s_Ledger___init__) (defScope s_Ledger___init__) (.ref T33) kV33 dc33 pm33 an33 cd33 ct33), sl33⟩) (c33 : PySem.W.codeIn K cd33 "Ledger.__init__" = true) (k33 : PySem.W.keepIn K (.ref f33) = true)
    (lT33 : K.lookup T33 = some ⟨ocT33, odT33, .seq #[.int 1 tT33_0] nT33, slT33⟩)
    (a34 : PySem.W.nsIn K mainGlobals "last_up_to" = some (some (.ref f34)))
    (l34 : K.lookup f34 = some ⟨oc34, od34, .func (PySem.W.fnOf "last_up_to" "last_up_to" (defArgs s_last_up_to) (defBody s_last_up_to) (defScope s_last_up_to) .none kV34 dc34 pm34 an34 cd34 ct34), sl34⟩) (c34 : PySem.W.codeIn K cd34 "last_up_to" = true) (k34 : PySem.W.keepIn K (.ref f34) = true)
    (a35 : PySem.W.nsIn K mainGlobals "first_house" = some (some (.ref f35)))
    (l35 : K.lookup f35 = some ⟨oc35, od35, .func (PySem.W.fnOf "first_house" "first_house" (defArgs s_first_house) (defBody s_first_house) (defScope s_first_house) .none kV35 dc35 pm35 an35 cd35 ct35), sl35⟩) (c35 : PySem.W.codeIn K cd35 "first_house" = true) (k35 : PySem.W.keepIn K (.ref f35) = true)
    (a36 : PySem.W.findIn K (.ref fC_Ledger) "house_of" = some (some (.ref f36))) (i36 : PySem.W.isFn K (.ref f36) = true)
    (l36 : K.lookup f36 = some ⟨oc36, od36, .func (PySem.W.fnOf "house_of" "Ledger.house_of" (defArgs s_Ledger_house_of) (defBody s_Ledger_house_of) (defScope s_Ledger_house_of) .none kV36 dc36 pm36 an36 cd36 ct36), sl36⟩) (c36 : PySem.W.codeIn K cd36 "Ledger.house_of" = true) (k36 : PySem.W.keepIn K (.ref f36) = true)
    (a37 : PySem.W.findIn K (.ref fC_Ledger) "house_at" = some (some (.ref f37))) (i37 : PySem.W.isFn K (.ref f37) = true)
    (l37 : K.lookup f37 = some ⟨oc37, od37, .func (PySem.W.fnOf "house_at" "Ledger.house_at" (defArgs s_Ledger_house_at) (defBody s_Ledger_house_at) (defScope s_Ledger_house_at) .none kV37 dc37 pm37 an37 cd37 ct37), sl37⟩) (c37 : PySem.W.codeIn K cd37 "Ledger.house_at" = true) (k37 : PySem.W.keepIn K (.ref f37) = true)
    (a38 : PySem.W.nsIn K mainGlobals "_law_bag" = some (some (.ref f38)))
    (l38 : K.lookup f38 = some ⟨oc38, od38, .func (PySem.W.fnOf "_law_bag" "_law_bag" (defArgs s_l_bag) (defBody s_l_bag) (defScope s_l_bag) .none kV38 dc38 pm38 an38 cd38 ct38), sl38⟩) (c38 : PySem.W.codeIn K cd38 "_law_bag" = true) (k38 : PySem.W.keepIn K (.ref f38) = true)
    (a39 : PySem.W.nsIn K mainGlobals "_law_out" = some (some (.ref f39)))
    (l39 : K.lookup f39 = some ⟨oc39, od39, .func (PySem.W.fnOf "_law_out" "_law_out" (defArgs s_l_out) (defBody s_l_out) (defScope s_l_out) .none kV39 dc39 pm39 an39 cd39 ct39), sl39⟩) (c39 : PySem.W.codeIn K cd39 "_law_out" = true) (k39 : PySem.W.keepIn K (.ref f39) = true)
    (a40 : PySem.W.nsIn K mainGlobals "_law_worth" = some (some (.ref f40)))
    (l40 : K.lookup f40 = some ⟨oc40, od40, .func (PySem.W.fnOf "_law_worth" "_law_worth" (defArgs s_l_worth) (defBody s_l_worth) (defScope s_l_worth) .none kV40 dc40 pm40 an40 cd40 ct40), sl40⟩) (c40 : PySem.W.codeIn K cd40 "_law_worth" = true) (k40 : PySem.W.keepIn K (.ref f40) = true)
    (a41 : PySem.W.nsIn K mainGlobals "_law_first" = some (some (.ref f41)))
    (l41 : K.lookup f41 = some ⟨oc41, od41, .func (PySem.W.fnOf "_law_first" "_law_first" (defArgs s_l_first) (defBody s_l_first) (defScope s_l_first) .none kV41 dc41 pm41 an41 cd41 ct41), sl41⟩) (c41 : PySem.W.codeIn K cd41 "_law_first" = true) (k41 : PySem.W.keepIn K (.ref f41) = true)
    (a42 : PySem.W.nsIn K mainGlobals "_law_state" = some (some (.ref f42)))
    (l42 : K.lookup f42 = some ⟨oc42, od42, .func (PySem.W.fnOf "_law_state" "_law_state" (defArgs s_l_state) (defBody s_l_state) (defScope s_l_state) .none kV42 dc42 pm42 an42 cd42 ct42), sl42⟩) (c42 : PySem.W.codeIn K cd42 "_law_state" = true) (k42 : PySem.W.keepIn K (.ref f42) = true)
    (a43 : PySem.W.nsIn K mainGlobals "_law_busy" = some (some (.ref f43)))
    (l43 : K.lookup f43 = some ⟨oc43, od43, .func (PySem.W.fnOf "_law_busy" "_law_busy" (defArgs s_l_busy) (defBody s_l_busy) (defScope s_l_busy) .none kV43 dc43 pm43 an43 cd43 ct43), sl43⟩) (c43 : PySem.W.codeIn K cd43 "_law_busy" = true) (k43 : PySem.W.keepIn K (.ref f43) = true)
    (a44 : PySem.W.nsIn K mainGlobals "_law_forms_open" = some (some (.ref f44)))
    (l44 : K.lookup f44 = some ⟨oc44, od44, .func (PySem.W.fnOf "_law_forms_open" "_law_forms_open" (defArgs s_l_forms_open) (defBody s_l_forms_open) (defScope s_l_forms_open) .none kV44 dc44 pm44 an44 cd44 ct44), sl44⟩) (c44 : PySem.W.codeIn K cd44 "_law_forms_open" = true) (k44 : PySem.W.keepIn K (.ref f44) = true)
    (a45 : PySem.W.nsIn K mainGlobals "_law_done" = some (some (.ref f45)))
    (l45 : K.lookup f45 = some ⟨oc45, od45, .func (PySem.W.fnOf "_law_done" "_law_done" (defArgs s_l_done) (defBody s_l_done) (defScope s_l_done) .none kV45 dc45 pm45 an45 cd45 ct45), sl45⟩) (c45 : PySem.W.codeIn K cd45 "_law_done" = true) (k45 : PySem.W.keepIn K (.ref f45) = true)
    (a46 : PySem.W.nsIn K mainGlobals "_law_at" = some (some (.ref f46)))
    (l46 : K.lookup f46 = some ⟨oc46, od46, .func (PySem.W.fnOf "_law_at" "_law_at" (defArgs s_l_at) (defBody s_l_at) (defScope s_l_at) .none kV46 dc46 pm46 an46 cd46 ct46), sl46⟩) (c46 : PySem.W.codeIn K cd46 "_law_at" = true) (k46 : PySem.W.keepIn K (.ref f46) = true)
    (a47 : PySem.W.nsIn K mainGlobals "_law_more" = some (some (.ref f47)))
    (l47 : K.lookup f47 = some ⟨oc47, od47, .func (PySem.W.fnOf "_law_more" "_law_more" (defArgs s_l_more) (defBody s_l_more) (defScope s_l_more) .none kV47 dc47 pm47 an47 cd47 ct47), sl47⟩) (c47 : PySem.W.codeIn K cd47 "_law_more" = true) (k47 : PySem.W.keepIn K (.ref f47) = true)
    (a48 : PySem.W.nsIn K mainGlobals "_law_pledged" = some (some (.ref f48)))
    (l48 : K.lookup f48 = some ⟨oc48, od48, .func (PySem.W.fnOf "_law_pledged" "_law_pledged" (defArgs s_l_pledged) (defBody s_l_pledged) (defScope s_l_pledged) .none kV48 dc48 pm48 an48 cd48 ct48), sl48⟩) (c48 : PySem.W.codeIn K cd48 "_law_pledged" = true) (k48 : PySem.W.keepIn K (.ref f48) = true)
    (a49 : PySem.W.nsIn K mainGlobals "_law_marked" = some (some (.ref f49)))
    (l49 : K.lookup f49 = some ⟨oc49, od49, .func (PySem.W.fnOf "_law_marked" "_law_marked" (defArgs s_l_marked) (defBody s_l_marked) (defScope s_l_marked) .none kV49 dc49 pm49 an49 cd49 ct49), sl49⟩) (c49 : PySem.W.codeIn K cd49 "_law_marked" = true) (k49 : PySem.W.keepIn K (.ref f49) = true)
    (a50 : PySem.W.nsIn K mainGlobals "_law_freed" = some (some (.ref f50)))
    (l50 : K.lookup f50 = some ⟨oc50, od50, .func (PySem.W.fnOf "_law_freed" "_law_freed" (defArgs s_l_freed) (defBody s_l_freed) (defScope s_l_freed) .none kV50 dc50 pm50 an50 cd50 ct50), sl50⟩) (c50 : PySem.W.codeIn K cd50 "_law_freed" = true) (k50 : PySem.W.keepIn K (.ref f50) = true)
    (a51 : PySem.W.nsIn K mainGlobals "_law_ended" = some (some (.ref f51)))
    (l51 : K.lookup f51 = some ⟨oc51, od51, .func (PySem.W.fnOf "_law_ended" "_law_ended" (defArgs s_l_ended) (defBody s_l_ended) (defScope s_l_ended) .none kV51 dc51 pm51 an51 cd51 ct51), sl51⟩) (c51 : PySem.W.codeIn K cd51 "_law_ended" = true) (k51 : PySem.W.keepIn K (.ref f51) = true)
    (a52 : PySem.W.nsIn K mainGlobals "_law_step" = some (some (.ref f52)))
    (l52 : K.lookup f52 = some ⟨oc52, od52, .func (PySem.W.fnOf "_law_step" "_law_step" (defArgs s_l_step) (defBody s_l_step) (defScope s_l_step) .none kV52 dc52 pm52 an52 cd52 ct52), sl52⟩) (c52 : PySem.W.codeIn K cd52 "_law_step" = true) (k52 : PySem.W.keepIn K (.ref f52) = true)
    (a53 : PySem.W.nsIn K mainGlobals "_law_right" = some (some (.ref f53)))
    (l53 : K.lookup f53 = some ⟨oc53, od53, .func (PySem.W.fnOf "_law_right" "_law_right" (defArgs s_l_right) (defBody s_l_right) (defScope s_l_right) .none kV53 dc53 pm53 an53 cd53 ct53), sl53⟩) (c53 : PySem.W.codeIn K cd53 "_law_right" = true) (k53 : PySem.W.keepIn K (.ref f53) = true)
    (a54 : PySem.W.nsIn K mainGlobals "law" = some (some (.ref f54)))
    (l54 : K.lookup f54 = some ⟨oc54, od54, .func (PySem.W.fnOf "law" "law" (defArgs s_law) (defBody s_law) (defScope s_law) .none kV54 dc54 pm54 an54 cd54 ct54), sl54⟩) (c54 : PySem.W.codeIn K cd54 "law" = true) (k54 : PySem.W.keepIn K (.ref f54) = true)
    (z_max : PySem.W.nsIn K mainGlobals "max" = some none)
    (z_min : PySem.W.nsIn K mainGlobals "min" = some none)
    (z_len : PySem.W.nsIn K mainGlobals "len" = some none)
    (z_int : PySem.W.nsIn K mainGlobals "int" = some none)
    (z_range : PySem.W.nsIn K mainGlobals "range" = some none)
    (z_isinstance : PySem.W.nsIn K mainGlobals "isinstance" = some none)
    (z_tuple : PySem.W.nsIn K mainGlobals "tuple" = some none)
    (z_all : PySem.W.nsIn K mainGlobals "all" = some none)
    (z_repr : PySem.W.nsIn K mainGlobals "repr" = some none)
    (z_list : PySem.W.nsIn K mainGlobals "list" = some none)
    (z_str : PySem.W.nsIn K mainGlobals "str" = some none)
    (z_sorted : PySem.W.nsIn K mainGlobals "sorted" = some none)
    (z_sum : PySem.W.nsIn K mainGlobals "sum" = some none)
    (z_set : PySem.W.nsIn K mainGlobals "set" = some none)
    (z_dict : PySem.W.nsIn K mainGlobals "dict" = some none)
    (z_bool : PySem.W.nsIn K mainGlobals "bool" = some none)
    (z_ord : PySem.W.nsIn K mainGlobals "ord" = some none)
    (z_reversed : PySem.W.nsIn K mainGlobals "reversed" = some none)
    (hc31 : PySem.W.codeHdIn K kc31 (LM.tabOf K kc31) = true) (nt31 : K.lookup (LM.tabOf K kc31) = none) (tb31 : h.get? (LM.tabOf K kc31) = some (PySem.W.tabObj #[]))
    : ∃ (fd : FuncData) (cs : List (Addr × Addr)) (sp : Sp), (∀ p ∈ cs, h.get? p.2 = some (PySem.W.tabObj #[])) ∧ (∀ p ∈ cs, K.lookup p.2 = none) ∧ (∀ p ∈ cs, PySem.W.CodeHd h p.1 p.2) ∧ (∀ (s : Shared) (v : Value), BindsTo s fd ⟨[v], []⟩ [("_law_script", v)]) ∧
        (∀ (H : Hp) (a : Addr) (ns : List Int), ns.length ≤ 63 → (∀ z ∈ ns, Builtin.Int.intBits z ≤ 1048576) → (∀ p ∈ cs, H p.2 = some (.tbl #[])) → SqL K H a (ns.map V.int) → sp [.ref a] H (fun v _ => v = .bl true) fun _ _ _ => False) ∧
        ∀ base : Heap, K.In base → base.Ns mainGlobals mg → (∀ p ∈ cs, LamX.TabB base mg p.1 p.2) → FnOk l.prog w K mg base CX0 9 fa fd ["_law_script"] sp := by
  have e := hfa.symm.trans (PySem.W.mg_of X G a54)
  cases e
  have F0 := fun_mk (st := s_is_whole) l0 c0 k0
  have b0 := F0.binds (ps := ["thing"]) fun _ _ _ _ _ _ us hl => match us, hl with | [_], _ => rfl
  have F1 := fun_mk (st := s_is_row_of_whole) l1 c1 k1
  have b1 := F1.binds (ps := ["thing", "least", "most"]) fun _ _ _ _ _ _ us hl => match us, hl with | [_, _, _], _ => rfl
  have F2 := fun_mk (st := s_is_stamp) l2 c2 k2
  have b2 := F2.binds (ps := ["thing"]) fun _ _ _ _ _ _ us hl => match us, hl with | [_], _ => rfl
  have F3 := fun_mk (st := s_is_key) l3 c3 k3
  have b3 := F3.binds (ps := ["thing"]) fun _ _ _ _ _ _ us hl => match us, hl with | [_], _ => rfl
  have F4 := fun_mk (st := s_is_worth) l4 c4 k4
  have b4 := F4.binds (ps := ["thing"]) fun _ _ _ _ _ _ us hl => match us, hl with | [_], _ => rfl
  have F5 := fun_mk (st := s_refuse_no_key) l5 c5 k5
  have b5 := F5.binds (ps := ["thing"]) fun _ _ _ _ _ _ us hl => match us, hl with | [_], _ => rfl
  have F6 := fun_mk (st := s_refuse_no_time) l6 c6 k6
  have b6 := F6.binds (ps := ["thing"]) fun _ _ _ _ _ _ us hl => match us, hl with | [_], _ => rfl
  have F7 := fun_mk (st := s_many_up_to) l7 c7 k7
  have b7 := F7.binds (ps := ["row", "time"]) fun _ _ _ _ _ _ us hl => match us, hl with | [_, _], _ => rfl
  have F8 := fun_mk (st := s_Shelf___init__) l8 c8 k8
  have b8 := F8.binds (ps := ["self"]) fun _ _ _ _ _ _ us hl => match us, hl with | [_], _ => rfl
  have F9 := fun_mk (st := s_Shelf_row_of) l9 c9 k9
  have b9 := F9.binds (ps := ["self", "key"]) fun _ _ _ _ _ _ us hl => match us, hl with | [_, _], _ => rfl
  have F10 := fun_mk (st := s_Shelf_make_own) l10 c10 k10
  have b10 := F10.binds (ps := ["self"]) fun _ _ _ _ _ _ us hl => match us, hl with | [_], _ => rfl
  have F11 := fun_mk (st := s_Shelf_put) l11 c11 k11
  have b11 := F11.binds (ps := ["self", "key", "stamp", "worth"]) fun _ _ _ _ _ _ us hl => match us, hl with | [_, _, _, _], _ => rfl
  have F12 := fun_mk (st := s_Shelf___len__) l12 c12 k12
  have b12 := F12.binds (ps := ["self"]) fun _ _ _ _ _ _ us hl => match us, hl with | [_], _ => rfl
  have F13 := fun_mk (st := s_Shelf_let_go) l13 c13 k13
  have b13 := F13.binds (ps := ["self", "time"]) fun _ _ _ _ _ _ us hl => match us, hl with | [_, _], _ => rfl
  have F14 := fun_mk (st := s_stamp_in) l14 c14 k14
  have b14 := F14.binds (ps := ["pledge"]) fun _ _ _ _ _ _ us hl => match us, hl with | [_], _ => rfl
  have F15 := fun_mk (st := s_writes_in) l15 c15 k15
  have b15 := F15.binds (ps := ["pledge"]) fun _ _ _ _ _ _ us hl => match us, hl with | [_], _ => rfl
  have F16 := fun_mk (st := s_things_behind) l16 c16 k16
  have b16 := F16.binds (ps := ["more", "word"]) fun _ _ _ _ _ _ us hl => match us, hl with | [_, _], _ => rfl
  have F17 := fun_mk (st := s_move_of) l17 c17 k17
  have b17 := F17.binds (ps := ["more"]) fun _ _ _ _ _ _ us hl => match us, hl with | [_], _ => rfl
  have F18 := fun_mk (st := s_form_of) l18 c18 k18
  have b18 := F18.binds (ps := ["more"]) fun _ _ _ _ _ _ us hl => match us, hl with | [_], _ => rfl
  have F19 := fun_mk (st := s_move_in) l19 c19 k19
  have b19 := F19.binds (ps := ["pledge"]) fun _ _ _ _ _ _ us hl => match us, hl with | [_], _ => rfl
  have F20 := fun_mk (st := s_form_in) l20 c20 k20
  have b20 := F20.binds (ps := ["pledge"]) fun _ _ _ _ _ _ us hl => match us, hl with | [_], _ => rfl
  have F21 := fun_mk (st := s_Ledger_make_own) l21 c21 k21
  have b21 := F21.binds (ps := ["self"]) fun _ _ _ _ _ _ us hl => match us, hl with | [_], _ => rfl
  have F22 := fun_mk (st := s_Ledger_noted_of) l22 c22 k22
  have b22 := F22.binds (ps := ["self", "dealing"]) fun _ _ _ _ _ _ us hl => match us, hl with | [_, _], _ => rfl
  have F23 := fun_mk (st := s_Ledger_word) l23 c23 k23
  have b23 := F23.binds (ps := ["self", "dealing"]) fun _ _ _ _ _ _ us hl => match us, hl with | [_, _], _ => rfl
  have F24 := fun_mk (st := s_Ledger_pledge_of) l24 c24 k24
  have b24 := F24.binds (ps := ["self", "dealing"]) fun _ _ _ _ _ _ us hl => match us, hl with | [_, _], _ => rfl
  have F25 := fun_mk (st := s_Ledger_low_of) l25 c25 k25
  have b25 := F25.binds (ps := ["self", "dealing"]) fun _ _ _ _ _ _ us hl => match us, hl with | [_, _], _ => rfl
  have F26 := fun_mk (st := s_Ledger_note_stamp) l26 c26 k26
  have b26 := F26.binds (ps := ["self", "stamp"]) fun _ _ _ _ _ _ us hl => match us, hl with | [_, _], _ => rfl
  have F27 := fun_mk (st := s_Ledger_note_pledge) l27 c27 k27
  have b27 := F27.binds (ps := ["self", "entry"]) fun _ _ _ _ _ _ us hl => match us, hl with | [_, _], _ => rfl
  have F28 := fun_mk (st := s_Ledger_note_sure) l28 c28 k28
  have b28 := F28.binds (ps := ["self", "entry"]) fun _ _ _ _ _ _ us hl => match us, hl with | [_, _], _ => rfl
  have F29 := fun_mk (st := s_Ledger_note_end) l29 c29 k29
  have b29 := F29.binds (ps := ["self", "dealing", "word"]) fun _ _ _ _ _ _ us hl => match us, hl with | [_, _, _], _ => rfl
  have F30 := fun_mk (st := s_Ledger_note_mark) l30 c30 k30
  have b30 := F30.binds (ps := ["self", "time"]) fun _ _ _ _ _ _ us hl => match us, hl with | [_, _], _ => rfl
  have F31 : LM.FunC K "note_done" "Ledger.note_done" s_Ledger_note_done f31 (PySem.W.fnOf "note_done" "Ledger.note_done" (defArgs s_Ledger_note_done) (defBody s_Ledger_note_done) (defScope s_Ledger_note_done) .none kV31 dc31 pm31 an31 (.ref kc31) ct31) kc31 := ⟨⟨_, _, _, _, _, _, _, _, rfl, l31, c31⟩, k31⟩
  have b31 := F31.toFun.binds (ps := ["self", "entry"]) fun _ _ _ _ _ _ us hl => match us, hl with | [_, _], _ => rfl
  have F32 := fun_mk (st := s_Ledger_note) l32 c32 k32
  have b32 := F32.binds (ps := ["self", "entry"]) fun _ _ _ _ _ _ us hl => match us, hl with | [_, _], _ => rfl
  have F33 : FunD K "__init__" "Ledger.__init__" (defArgs s_Ledger___init__) (defBody s_Ledger___init__) (defScope s_Ledger___init__) [V.int 1] [] f33 (PySem.W.fnOf "__init__" "Ledger.__init__" (defArgs s_Ledger___init__) (defBody s_Ledger___init__) (defScope s_Ledger___init__) (.ref T33) kV33 dc33 pm33 an33 cd33 ct33) := ⟨⟨_, _, _, _, _, _, _, _, _, _, rfl, l33, c33, .inr ⟨by simp, _, _, [Value.int 1 tT33_0], _, rfl, lT33, rfl, (.cons ⟨_, rfl⟩ .nil)⟩, .inl rfl⟩, k33⟩
  have b33 : Binds K (PySem.W.fnOf "__init__" "Ledger.__init__" (defArgs s_Ledger___init__) (defBody s_Ledger___init__) (defScope s_Ledger___init__) (.ref T33) kV33 dc33 pm33 an33 cd33 ct33) ["self", "house", "houses"] [] := by
    obtain ⟨ds, v, b⟩ := F33.binds1 (ps := ["self", "house", "houses"]) 3 1 (by simp) rfl (fun T kV dc pm an cdv ct us its hu hi => match us, hu, its, hi with | [_, _, _], _, [_], _ => ⟨_, rfl, rfl⟩)
    cases v
    exact b
  have c'33 : ∃ ds, Vals [V.int 1] ds ∧ Binds K (PySem.W.fnOf "__init__" "Ledger.__init__" (defArgs s_Ledger___init__) (defBody s_Ledger___init__) (defScope s_Ledger___init__) (.ref T33) kV33 dc33 pm33 an33 cd33 ct33) ["self", "house", "houses"] ds := F33.binds1 (ps := ["self", "house", "houses"]) 2 0 (by simp) rfl (fun T kV dc pm an cdv ct us its hu hi => match us, hu, its, hi with | [_, _], _, [_], _ => ⟨_, rfl, rfl⟩)
  have F34 := fun_mk (st := s_last_up_to) l34 c34 k34
  have b34 := F34.binds (ps := ["rows", "time", "otherwise"]) fun _ _ _ _ _ _ us hl => match us, hl with | [_, _, _], _ => rfl
  have F35 := fun_mk (st := s_first_house) l35 c35 k35
  have b35 := F35.binds (ps := ["key", "houses"]) fun _ _ _ _ _ _ us hl => match us, hl with | [_, _], _ => rfl
  have F36 := fun_mk (st := s_Ledger_house_of) l36 c36 k36
  have b36 := F36.binds (ps := ["self", "key"]) fun _ _ _ _ _ _ us hl => match us, hl with | [_, _], _ => rfl
  have F37 := fun_mk (st := s_Ledger_house_at) l37 c37 k37
  have b37 := F37.binds (ps := ["self", "key", "time"]) fun _ _ _ _ _ _ us hl => match us, hl with | [_, _, _], _ => rfl
  have F38 := fun_mk (st := s_l_bag) l38 c38 k38
  have b38 := F38.binds (ps := ["_law_script", "_law_k"]) fun _ _ _ _ _ _ us hl => match us, hl with | [_, _], _ => rfl
  have F39 := fun_mk (st := s_l_out) l39 c39 k39
  have b39 := F39.binds (ps := ["_law_bag_here", "_law_many"]) fun _ _ _ _ _ _ us hl => match us, hl with | [_, _], _ => rfl
  have F40 := fun_mk (st := s_l_worth) l40 c40 k40
  have b40 := F40.binds (ps := ["_law_bag_here"]) fun _ _ _ _ _ _ us hl => match us, hl with | [_], _ => rfl
  have F41 := fun_mk (st := s_l_first) l41 c41 k41
  have b41 := F41.binds (ps := ["_law_key", "_law_houses"]) fun _ _ _ _ _ _ us hl => match us, hl with | [_, _], _ => rfl
  have F42 := fun_mk (st := s_l_state) l42 c42 k42
  have b42 := F42.binds (ps := ["_law_house", "_law_houses"]) fun _ _ _ _ _ _ us hl => match us, hl with | [_, _], _ => rfl
  have F43 := fun_mk (st := s_l_busy) l43 c43 k43
  have b43 := F43.binds (ps := ["_law_state_here", "_law_key"]) fun _ _ _ _ _ _ us hl => match us, hl with | [_, _], _ => rfl
  have F44 := fun_mk (st := s_l_forms_open) l44 c44 k44
  have b44 := F44.binds (ps := ["_law_state_here"]) fun _ _ _ _ _ _ us hl => match us, hl with | [_], _ => rfl
  have F45 := fun_mk (st := s_l_done) l45 c45 k45
  have b45 := F45.binds (ps := ["_law_rows", "_law_word"]) fun _ _ _ _ _ _ us hl => match us, hl with | [_, _], _ => rfl
  have F46 := fun_mk (st := s_l_at) l46 c46 k46
  have b46 := F46.binds (ps := ["_law_rows", "_law_key", "_law_time", "_law_house", "_law_houses"]) fun _ _ _ _ _ _ us hl => match us, hl with | [_, _, _, _, _], _ => rfl
  have F47 := fun_mk (st := s_l_more) l47 c47 k47
  have b47 := F47.binds (ps := ["_law_bag_here", "_law_state_here", "_law_key", "_law_time"]) fun _ _ _ _ _ _ us hl => match us, hl with | [_, _, _, _], _ => rfl
  have F48 := fun_mk (st := s_l_pledged) l48 c48 k48
  have b48 := F48.binds (ps := ["_law_bag_here", "_law_state_here"]) fun _ _ _ _ _ _ us hl => match us, hl with | [_, _], _ => rfl
  have F49 := fun_mk (st := s_l_marked) l49 c49 k49
  have b49 := F49.binds (ps := ["_law_bag_here", "_law_state_here"]) fun _ _ _ _ _ _ us hl => match us, hl with | [_, _], _ => rfl
  have F50 := fun_mk (st := s_l_freed) l50 c50 k50
  have b50 := F50.binds (ps := ["_law_bag_here", "_law_state_here"]) fun _ _ _ _ _ _ us hl => match us, hl with | [_, _], _ => rfl
  have F51 := fun_mk (st := s_l_ended) l51 c51 k51
  have b51 := F51.binds (ps := ["_law_bag_here", "_law_state_here"]) fun _ _ _ _ _ _ us hl => match us, hl with | [_, _], _ => rfl
  have F52 := fun_mk (st := s_l_step) l52 c52 k52
  have b52 := F52.binds (ps := ["_law_bag_here", "_law_state_here"]) fun _ _ _ _ _ _ us hl => match us, hl with | [_, _], _ => rfl
  have F53 := fun_mk (st := s_l_right) l53 c53 k53
  have b53 := F53.binds (ps := ["_law_ledger", "_law_rows", "_law_house", "_law_houses"]) fun _ _ _ _ _ _ us hl => match us, hl with | [_, _, _, _], _ => rfl
  have F54 := fun_mk (st := s_law) l54 c54 k54
  have b54 := F54.binds (ps := ["_law_script"]) fun _ _ _ _ _ _ us hl => match us, hl with | [_], _ => rfl
  let a : Nat → Addr := fun i => match i with | 0 => f0 | 1 => f1 | 2 => f2 | 3 => f3 | 4 => f4 | 5 => f5 | 6 => f6 | 7 => f7 | 8 => f8 | 9 => f9 | 10 => f10 | 11 => f11 | 12 => f12 | 13 => f13 | 14 => f14 | 15 => f15 | 16 => f16 | 17 => f17 | 18 => f18 | 19 => f19 | 20 => f20 | 21 => f21 | 22 => f22 | 23 => f23 | 24 => f24 | 25 => f25 | 26 => f26 | 27 => f27 | 28 => f28 | 29 => f29 | 30 => f30 | 31 => f31 | 32 => f32 | 33 => f33 | 34 => f34 | 35 => f35 | 36 => f36 | 37 => f37 | 38 => f38 | 39 => f39 | 40 => f40 | 41 => f41 | 42 => f42 | 43 => f43 | 44 => f44 | 45 => f45 | 46 => f46 | 47 => f47 | 48 => f48 | 49 => f49 | 50 => f50 | 51 => f51 | 52 => f52 | 53 => f53 | 54 => fa | 55 => fC | 56 => fC_Ledger | 69 => f69 | 90 => kc31 | 91 => LM.tabOf K kc31 | _ => 0
  let d : Nat → FuncData := fun i => match i with | 0 => (PySem.W.fnOf "is_whole" "is_whole" (defArgs s_is_whole) (defBody s_is_whole) (defScope s_is_whole) .none kV0 dc0 pm0 an0 cd0 ct0) | 1 => (PySem.W.fnOf "is_row_of_whole" "is_row_of_whole" (defArgs s_is_row_of_whole) (defBody s_is_row_of_whole) (defScope s_is_row_of_whole) .none kV1 dc1 pm1 an1 cd1 ct1) | 2 => (PySem.W.fnOf "is_stamp" "is_stamp" (defArgs s_is_stamp) (defBody s_is_stamp) (defScope s_is_stamp) .none kV2 dc2 pm2 an2 cd2 ct2) | 3 => (PySem.W.fnOf "is_key" "is_key" (defArgs s_is_key) (defBody s_is_key) (defScope s_is_key) .none kV3 dc3 pm3 an3 cd3 ct3) | 4 => (PySem.W.fnOf "is_worth" "is_worth" (defArgs s_is_worth) (defBody s_is_worth) (defScope s_is_worth) .none kV4 dc4 pm4 an4 cd4 ct4) | 5 => (PySem.W.fnOf "refuse_no_key" "refuse_no_key" (defArgs s_refuse_no_key) (defBody s_refuse_no_key) (defScope s_refuse_no_key) .none kV5 dc5 pm5 an5 cd5 ct5) | 6 => (PySem.W.fnOf "refuse_no_time" "refuse_no_time" (defArgs s_refuse_no_time) (defBody s_refuse_no_time) (defScope s_refuse_no_time) .none kV6 dc6 pm6 an6 cd6 ct6) | 7 => (PySem.W.fnOf "many_up_to" "many_up_to" (defArgs s_many_up_to) (defBody s_many_up_to) (defScope s_many_up_to) .none kV7 dc7 pm7 an7 cd7 ct7) | 8 => (PySem.W.fnOf "__init__" "Shelf.__init__" (defArgs s_Shelf___init__) (defBody s_Shelf___init__) (defScope s_Shelf___init__) .none kV8 dc8 pm8 an8 cd8 ct8) | 9 => (PySem.W.fnOf "row_of" "Shelf.row_of" (defArgs s_Shelf_row_of) (defBody s_Shelf_row_of) (defScope s_Shelf_row_of) .none kV9 dc9 pm9 an9 cd9 ct9) | 10 => (PySem.W.fnOf "make_own" "Shelf.make_own" (defArgs s_Shelf_make_own) (defBody s_Shelf_make_own) (defScope s_Shelf_make_own) .none kV10 dc10 pm10 an10 cd10 ct10) | 11 => (PySem.W.fnOf "put" "Shelf.put" (defArgs s_Shelf_put) (defBody s_Shelf_put) (defScope s_Shelf_put) .none kV11 dc11 pm11 an11 cd11 ct11) | 12 => (PySem.W.fnOf "__len__" "Shelf.__len__" (defArgs s_Shelf___len__) (defBody s_Shelf___len__) (defScope s_Shelf___len__) .none kV12 dc12 pm12 an12 cd12 ct12) | 13 => (PySem.W.fnOf "let_go" "Shelf.let_go" (defArgs s_Shelf_let_go) (defBody s_Shelf_let_go) (defScope s_Shelf_let_go) .none kV13 dc13 pm13 an13 cd13 ct13) | 14 => (PySem.W.fnOf "stamp_in" "stamp_in" (defArgs s_stamp_in) (defBody s_stamp_in) (defScope s_stamp_in) .none kV14 dc14 pm14 an14 cd14 ct14) | 15 => (PySem.W.fnOf "writes_in" "writes_in" (defArgs s_writes_in) (defBody s_writes_in) (defScope s_writes_in) .none kV15 dc15 pm15 an15 cd15 ct15) | 16 => (PySem.W.fnOf "things_behind" "things_behind" (defArgs s_things_behind) (defBody s_things_behind) (defScope s_things_behind) .none kV16 dc16 pm16 an16 cd16 ct16) | 17 => (PySem.W.fnOf "move_of" "move_of" (defArgs s_move_of) (defBody s_move_of) (defScope s_move_of) .none kV17 dc17 pm17 an17 cd17 ct17) | 18 => (PySem.W.fnOf "form_of" "form_of" (defArgs s_form_of) (defBody s_form_of) (defScope s_form_of) .none kV18 dc18 pm18 an18 cd18 ct18) | 19 => (PySem.W.fnOf "move_in" "move_in" (defArgs s_move_in) (defBody s_move_in) (defScope s_move_in) .none kV19 dc19 pm19 an19 cd19 ct19) | 20 => (PySem.W.fnOf "form_in" "form_in" (defArgs s_form_in) (defBody s_form_in) (defScope s_form_in) .none kV20 dc20 pm20 an20 cd20 ct20) | 21 => (PySem.W.fnOf "make_own" "Ledger.make_own" (defArgs s_Ledger_make_own) (defBody s_Ledger_make_own) (defScope s_Ledger_make_own) .none kV21 dc21 pm21 an21 cd21 ct21) | 22 => (PySem.W.fnOf "noted_of" "Ledger.noted_of" (defArgs s_Ledger_noted_of) (defBody s_Ledger_noted_of) (defScope s_Ledger_noted_of) .none kV22 dc22 pm22 an22 cd22 ct22) | 23 => (PySem.W.fnOf "word" "Ledger.word" (defArgs s_Ledger_word) (defBody s_Ledger_word) (defScope s_Ledger_word) .none kV23 dc23 pm23 an23 cd23 ct23) | 24 => (PySem.W.fnOf "pledge_of" "Ledger.pledge_of" (defArgs s_Ledger_pledge_of) (defBody s_Ledger_pledge_of) (defScope s_Ledger_pledge_of) .none kV24 dc24 pm24 an24 cd24 ct24) | 25 => (PySem.W.fnOf "low_of" "Ledger.low_of" (defArgs s_Ledger_low_of) (defBody s_Ledger_low_of) (defScope s_Ledger_low_of) .none kV25 dc25 pm25 an25 cd25 ct25) | 26 => (PySem.W.fnOf "note_stamp" "Ledger.note_stamp" (defArgs s_Ledger_note_stamp) (defBody s_Ledger_note_stamp) (defScope s_Ledger_note_stamp) .none kV26 dc26 pm26 an26 cd26 ct26) | 27 => (PySem.W.fnOf "note_pledge" "Ledger.note_pledge" (defArgs s_Ledger_note_pledge) (defBody s_Ledger_note_pledge) (defScope s_Ledger_note_pledge) .none kV27 dc27 pm27 an27 cd27 ct27) | 28 => (PySem.W.fnOf "note_sure" "Ledger.note_sure" (defArgs s_Ledger_note_sure) (defBody s_Ledger_note_sure) (defScope s_Ledger_note_sure) .none kV28 dc28 pm28 an28 cd28 ct28) | 29 => (PySem.W.fnOf "note_end" "Ledger.note_end" (defArgs s_Ledger_note_end) (defBody s_Ledger_note_end) (defScope s_Ledger_note_end) .none kV29 dc29 pm29 an29 cd29 ct29) | 30 => (PySem.W.fnOf "note_mark" "Ledger.note_mark" (defArgs s_Ledger_note_mark) (defBody s_Ledger_note_mark) (defScope s_Ledger_note_mark) .none kV30 dc30 pm30 an30 cd30 ct30) | 31 => (PySem.W.fnOf "note_done" "Ledger.note_done" (defArgs s_Ledger_note_done) (defBody s_Ledger_note_done) (defScope s_Ledger_note_done) .none kV31 dc31 pm31 an31 (.ref kc31) ct31) | 32 => (PySem.W.fnOf "note" "Ledger.note" (defArgs s_Ledger_note) (defBody s_Ledger_note) (defScope s_Ledger_note) .none kV32 dc32 pm32 an32 cd32 ct32) | 33 => (PySem.W.fnOf "__init__" "Ledger.__init__" (defArgs s_Ledger___init__) (defBody s_Ledger___init__) (defScope s_Ledger___init__) (.ref T33) kV33 dc33 pm33 an33 cd33 ct33) | 34 => (PySem.W.fnOf "last_up_to" "last_up_to" (defArgs s_last_up_to) (defBody s_last_up_to) (defScope s_last_up_to) .none kV34 dc34 pm34 an34 cd34 ct34) | 35 => (PySem.W.fnOf "first_house" "first_house" (defArgs s_first_house) (defBody s_first_house) (defScope s_first_house) .none kV35 dc35 pm35 an35 cd35 ct35) | 36 => (PySem.W.fnOf "house_of" "Ledger.house_of" (defArgs s_Ledger_house_of) (defBody s_Ledger_house_of) (defScope s_Ledger_house_of) .none kV36 dc36 pm36 an36 cd36 ct36) | 37 => (PySem.W.fnOf "house_at" "Ledger.house_at" (defArgs s_Ledger_house_at) (defBody s_Ledger_house_at) (defScope s_Ledger_house_at) .none kV37 dc37 pm37 an37 cd37 ct37) | 38 => (PySem.W.fnOf "_law_bag" "_law_bag" (defArgs s_l_bag) (defBody s_l_bag) (defScope s_l_bag) .none kV38 dc38 pm38 an38 cd38 ct38) | 39 => (PySem.W.fnOf "_law_out" "_law_out" (defArgs s_l_out) (defBody s_l_out) (defScope s_l_out) .none kV39 dc39 pm39 an39 cd39 ct39) | 40 => (PySem.W.fnOf "_law_worth" "_law_worth" (defArgs s_l_worth) (defBody s_l_worth) (defScope s_l_worth) .none kV40 dc40 pm40 an40 cd40 ct40) | 41 => (PySem.W.fnOf "_law_first" "_law_first" (defArgs s_l_first) (defBody s_l_first) (defScope s_l_first) .none kV41 dc41 pm41 an41 cd41 ct41) | 42 => (PySem.W.fnOf "_law_state" "_law_state" (defArgs s_l_state) (defBody s_l_state) (defScope s_l_state) .none kV42 dc42 pm42 an42 cd42 ct42) | 43 => (PySem.W.fnOf "_law_busy" "_law_busy" (defArgs s_l_busy) (defBody s_l_busy) (defScope s_l_busy) .none kV43 dc43 pm43 an43 cd43 ct43) | 44 => (PySem.W.fnOf "_law_forms_open" "_law_forms_open" (defArgs s_l_forms_open) (defBody s_l_forms_open) (defScope s_l_forms_open) .none kV44 dc44 pm44 an44 cd44 ct44) | 45 => (PySem.W.fnOf "_law_done" "_law_done" (defArgs s_l_done) (defBody s_l_done) (defScope s_l_done) .none kV45 dc45 pm45 an45 cd45 ct45) | 46 => (PySem.W.fnOf "_law_at" "_law_at" (defArgs s_l_at) (defBody s_l_at) (defScope s_l_at) .none kV46 dc46 pm46 an46 cd46 ct46) | 47 => (PySem.W.fnOf "_law_more" "_law_more" (defArgs s_l_more) (defBody s_l_more) (defScope s_l_more) .none kV47 dc47 pm47 an47 cd47 ct47) | 48 => (PySem.W.fnOf "_law_pledged" "_law_pledged" (defArgs s_l_pledged) (defBody s_l_pledged) (defScope s_l_pledged) .none kV48 dc48 pm48 an48 cd48 ct48) | 49 => (PySem.W.fnOf "_law_marked" "_law_marked" (defArgs s_l_marked) (defBody s_l_marked) (defScope s_l_marked) .none kV49 dc49 pm49 an49 cd49 ct49) | 50 => (PySem.W.fnOf "_law_freed" "_law_freed" (defArgs s_l_freed) (defBody s_l_freed) (defScope s_l_freed) .none kV50 dc50 pm50 an50 cd50 ct50) | 51 => (PySem.W.fnOf "_law_ended" "_law_ended" (defArgs s_l_ended) (defBody s_l_ended) (defScope s_l_ended) .none kV51 dc51 pm51 an51 cd51 ct51) | 52 => (PySem.W.fnOf "_law_step" "_law_step" (defArgs s_l_step) (defBody s_l_step) (defScope s_l_step) .none kV52 dc52 pm52 an52 cd52 ct52) | 53 => (PySem.W.fnOf "_law_right" "_law_right" (defArgs s_l_right) (defBody s_l_right) (defScope s_l_right) .none kV53 dc53 pm53 an53 cd53 ct53) | 54 => (PySem.W.fnOf "law" "law" (defArgs s_law) (defBody s_law) (defScope s_law) .none kV54 dc54 pm54 an54 cd54 ct54) | _ => (PySem.W.fnOf "law" "law" (defArgs s_law) (defBody s_law) (defScope s_law) .none kV54 dc54 pm54 an54 cd54 ct54)
  have T : Txt K mg a d := ⟨PySem.W.mg_of X G a0, F0, b0, PySem.W.mg_of X G a1, F1, b1, PySem.W.mg_of X G a2, F2, b2, PySem.W.mg_of X G a3, F3, b3, PySem.W.mg_of X G a4, F4, b4, PySem.W.mg_of X G a5, F5, b5, PySem.W.mg_of X G a6, F6, b6, PySem.W.mg_of X G a7, F7, b7, F8, b8, ⟨mk, a8, i8, kc⟩, F9, b9, ⟨a9, i9, k9⟩, F10, b10, ⟨a10, i10, k10⟩, F11, b11, ⟨a11, i11, k11⟩, F12, b12, ⟨a12, i12, k12⟩, F13, b13, ⟨a13, i13, k13⟩, PySem.W.mg_of X G a14, F14, b14, PySem.W.mg_of X G a15, F15, b15, PySem.W.mg_of X G a16, F16, b16, PySem.W.mg_of X G a17, F17, b17, PySem.W.mg_of X G a18, F18, b18, PySem.W.mg_of X G a19, F19, b19, PySem.W.mg_of X G a20, F20, b20, F21, b21, ⟨a21, i21, k21⟩, F22, b22, ⟨a22, i22, k22⟩, F23, b23, ⟨a23, i23, k23⟩, F24, b24, ⟨a24, i24, k24⟩, F25, b25, ⟨a25, i25, k25⟩, F26, b26, ⟨a26, i26, k26⟩, F27, b27, ⟨a27, i27, k27⟩, F28, b28, ⟨a28, i28, k28⟩, F29, b29, ⟨a29, i29, k29⟩, F30, b30, ⟨a30, i30, k30⟩, F31, b31, ⟨a31, i31, k31⟩, F32, b32, ⟨a32, i32, k32⟩, F33, c'33, b33, ⟨mk_Ledger, a33, i33, kc_Ledger⟩, PySem.W.mg_of X G a34, F34, b34, PySem.W.mg_of X G a35, F35, b35, F36, b36, ⟨a36, i36, k36⟩, F37, b37, ⟨a37, i37, k37⟩, PySem.W.mg_of X G a38, F38, b38, PySem.W.mg_of X G a39, F39, b39, PySem.W.mg_of X G a40, F40, b40, PySem.W.mg_of X G a41, F41, b41, PySem.W.mg_of X G a42, F42, b42, PySem.W.mg_of X G a43, F43, b43, PySem.W.mg_of X G a44, F44, b44, PySem.W.mg_of X G a45, F45, b45, PySem.W.mg_of X G a46, F46, b46, PySem.W.mg_of X G a47, F47, b47, PySem.W.mg_of X G a48, F48, b48, PySem.W.mg_of X G a49, F49, b49, PySem.W.mg_of X G a50, F50, b50, PySem.W.mg_of X G a51, F51, b51, PySem.W.mg_of X G a52, F52, b52, PySem.W.mg_of X G a53, F53, b53, PySem.W.mg_of X G a54, F54, b54, PySem.W.mg_of X G aC, ⟨pg, hd, po, sa⟩, nf_rows, nf_let_go_to, nf_lent, nf_own_rows, nf___bool__, PySem.W.mg_of X G aC_Ledger, ⟨pg_Ledger, hd_Ledger, po_Ledger, sa_Ledger⟩, nf_Ledger_at_house, nf_Ledger_many_houses, nf_Ledger_notes, nf_Ledger_unended, nf_Ledger_lent, nf_Ledger_greatest_stamp, nf_Ledger_greatest_serial, nf_Ledger_greatest_mark, nf_Ledger_worths, nf_Ledger_moved, nf_Ledger_forms, nf_Ledger___bool__, ⟨_, PySem.W.mg_of X G g57⟩, ⟨_, PySem.W.mg_of X G g58⟩, ⟨_, PySem.W.mg_of X G g59⟩, ⟨_, PySem.W.mg_of X G g60⟩, ⟨_, PySem.W.mg_of X G g61⟩, ⟨_, PySem.W.mg_of X G g62⟩, ⟨_, PySem.W.mg_of X G g63⟩, ⟨_, PySem.W.mg_of X G g64⟩, ⟨_, PySem.W.mg_of X G g65⟩, ⟨_, PySem.W.mg_of X G g66⟩, ⟨_, PySem.W.mg_of X G g67⟩, ⟨_, PySem.W.mg_of X G g68⟩, PySem.W.mg_of X G g69, fun H => .inr ⟨_, _, _, l69, rfl, rfl, (by show 4 ≤ sizeLine; decide), (.cons rfl (.cons rfl (.cons rfl (.cons rfl .nil))))⟩, ⟨_, PySem.W.mg_of X G g70⟩, PySem.W.mg_none_of X G z_max, PySem.W.mg_none_of X G z_min, PySem.W.mg_none_of X G z_len, PySem.W.mg_none_of X G z_int, PySem.W.mg_none_of X G z_range, PySem.W.mg_none_of X G z_isinstance, PySem.W.mg_none_of X G z_tuple, PySem.W.mg_none_of X G z_all, PySem.W.mg_none_of X G z_repr, PySem.W.mg_none_of X G z_list, PySem.W.mg_none_of X G z_str, PySem.W.mg_none_of X G z_sorted, PySem.W.mg_none_of X G z_sum, PySem.W.mg_none_of X G z_set, PySem.W.mg_none_of X G z_dict, PySem.W.mg_none_of X G z_bool, PySem.W.mg_none_of X G z_ord, PySem.W.mg_none_of X G z_reversed⟩
  refine ⟨(PySem.W.fnOf "law" "law" (defArgs s_law) (defBody s_law) (defScope s_law) .none kV54 dc54 pm54 an54 cd54 ct54), [(kc31, LM.tabOf K kc31)], spLaw K a, (fun p hp => by
    cases List.mem_singleton.mp hp
    exact tb31), (fun p hp => by
    cases List.mem_singleton.mp hp
    exact nt31), (fun p hp => by
    cases List.mem_singleton.mp hp
    exact PySem.W.codeHd_of_K X hc31), fun s v => .of_eq rfl, fun H x ns hl _ hH hS => ⟨x, ns, rfl, hS, hl, (fun p hp => by
    cases List.mem_singleton.mp hp
    exact LamX.TabS.nil (hH (kc31, LM.tabOf K kc31) (by simp))), fun _ => rfl⟩, fun base _ _ hT => ok_law T ⟨hT (kc31, LM.tabOf K kc31) (by simp)⟩⟩
end M

open PySem PySem.W PyProof.Rows in
set_option maxRecDepth 100000 in
set_option maxHeartbeats 0 in
theorem PySem.Challenge.cw_stampedwait_k34_where_keys_are_holds : PySem.Challenge.rw_stampedwait_k34_where_keys_are.Holds := by
  w_on; o_law; k_head; (case hw => w_witness2)
  k_fill
  refine LamX.walk_ofTs (l := PySem.Challenge.rw_stampedwait_k34_where_keys_are) (n := 63) (k := 9) (x := "_law_script") (CX := fun _ => L2.CX0) rfl (by decide) rfl ⟨rfl, by decide, by decide⟩ (fun w h Y => PySem.W.km_in_of Y) ?F (fun _ _ _ _ _ z => z)
  case F =>
    intro w mg fa h Y KX G hmg
    refine' M.all_mk KX G hmg ?g57 ?g58 ?g59 ?g60 ?g61 ?g62 ?g63 ?g64 ?g65 ?g66 ?g67 ?g68 ?g69 ?l69 ?g70 ?aC ?pg ?hd ?po ?sa ?mk ?kc ?nf_rows ?nf_let_go_to ?nf_lent ?nf_own_rows ?nf___bool__ ?aC_Ledger ?pg_Ledger ?hd_Ledger ?po_Ledger ?sa_Ledger ?mk_Ledger ?kc_Ledger ?nf_Ledger_at_house ?nf_Ledger_many_houses ?nf_Ledger_notes ?nf_Ledger_unended ?nf_Ledger_lent ?nf_Ledger_greatest_stamp ?nf_Ledger_greatest_serial ?nf_Ledger_greatest_mark ?nf_Ledger_worths ?nf_Ledger_moved ?nf_Ledger_forms ?nf_Ledger___bool__ ?a0 ?l0 ?c0 ?k0 ?a1 ?l1 ?c1 ?k1 ?a2 ?l2 ?c2 ?k2 ?a3 ?l3 ?c3 ?k3 ?a4 ?l4 ?c4 ?k4 ?a5 ?l5 ?c5 ?k5 ?a6 ?l6 ?c6 ?k6 ?a7 ?l7 ?c7 ?k7 ?a8 ?i8 ?l8 ?c8 ?k8 ?a9 ?i9 ?l9 ?c9 ?k9 ?a10 ?i10 ?l10 ?c10 ?k10 ?a11 ?i11 ?l11 ?c11 ?k11 ?a12 ?i12 ?l12 ?c12 ?k12 ?a13 ?i13 ?l13 ?c13 ?k13 ?a14 ?l14 ?c14 ?k14 ?a15 ?l15 ?c15 ?k15 ?a16 ?l16 ?c16 ?k16 ?a17 ?l17 ?c17 ?k17 ?a18 ?l18 ?c18 ?k18 ?a19 ?l19 ?c19 ?k19 ?a20 ?l20 ?c20 ?k20 ?a21 ?i21 ?l21 ?c21 ?k21 ?a22 ?i22 ?l22 ?c22 ?k22 ?a23 ?i23 ?l23 ?c23 ?k23 ?a24 ?i24 ?l24 ?c24 ?k24 ?a25 ?i25 ?l25 ?c25 ?k25 ?a26 ?i26 ?l26 ?c26 ?k26 ?a27 ?i27 ?l27 ?c27 ?k27 ?a28 ?i28 ?l28 ?c28 ?k28 ?a29 ?i29 ?l29 ?c29 ?k29 ?a30 ?i30 ?l30 ?c30 ?k30 ?a31 ?i31 ?l31 ?c31 ?k31 ?a32 ?i32 ?l32 ?c32 ?k32 ?a33 ?i33 ?l33 ?c33 ?k33 ?lT33 ?a34 ?l34 ?c34 ?k34 ?a35 ?l35 ?c35 ?k35 ?a36 ?i36 ?l36 ?c36 ?k36 ?a37 ?i37 ?l37 ?c37 ?k37 ?a38 ?l38 ?c38 ?k38 ?a39 ?l39 ?c39 ?k39 ?a40 ?l40 ?c40 ?k40 ?a41 ?l41 ?c41 ?k41 ?a42 ?l42 ?c42 ?k42 ?a43 ?l43 ?c43 ?k43 ?a44 ?l44 ?c44 ?k44 ?a45 ?l45 ?c45 ?k45 ?a46 ?l46 ?c46 ?k46 ?a47 ?l47 ?c47 ?k47 ?a48 ?l48 ?c48 ?k48 ?a49 ?l49 ?c49 ?k49 ?a50 ?l50 ?c50 ?k50 ?a51 ?l51 ?c51 ?k51 ?a52 ?l52 ?c52 ?k52 ?a53 ?l53 ?c53 ?k53 ?a54 ?l54 ?c54 ?k54 ?z_max ?z_min ?z_len ?z_int ?z_range ?z_isinstance ?z_tuple ?z_all ?z_repr ?z_list ?z_str ?z_sorted ?z_sum ?z_set ?z_dict ?z_bool ?z_ord ?z_reversed ?hc31 ?nt31 ?tb31
    (case g57 => k_is)
    (case g58 => k_is)
    (case g59 => k_is)
    (case g60 => k_is)
    (case g61 => k_is)
    (case g62 => k_is)
    (case g63 => k_is)
    (case g64 => k_is)
    (case g65 => k_is)
    (case g66 => k_is)
    (case g67 => k_is)
    (case g68 => k_is)
    (case g69 => k_is)
    (case l69 => k_is)
    (case g70 => k_is)
    (case aC => k_is)
    (case pg => k_is)
    (case hd => k_is)
    (case po => k_is)
    (case sa => k_is)
    (case mk => k_is)
    (case kc => k_is)
    (case nf_rows => k_is)
    (case nf_let_go_to => k_is)
    (case nf_lent => k_is)
    (case nf_own_rows => k_is)
    (case nf___bool__ => k_is)
    (case aC_Ledger => k_is)
    (case pg_Ledger => k_is)
    (case hd_Ledger => k_is)
    (case po_Ledger => k_is)
    (case sa_Ledger => k_is)
    (case mk_Ledger => k_is)
    (case kc_Ledger => k_is)
    (case nf_Ledger_at_house => k_is)
    (case nf_Ledger_many_houses => k_is)
    (case nf_Ledger_notes => k_is)
    (case nf_Ledger_unended => k_is)
    (case nf_Ledger_lent => k_is)
    (case nf_Ledger_greatest_stamp => k_is)
    (case nf_Ledger_greatest_serial => k_is)
    (case nf_Ledger_greatest_mark => k_is)
    (case nf_Ledger_worths => k_is)
    (case nf_Ledger_moved => k_is)
    (case nf_Ledger_forms => k_is)
    (case nf_Ledger___bool__ => k_is)
    (case a0 => k_is)
    (case l0 => k_is)
    (case c0 => k_is)
    (case k0 => k_is)
    (case a1 => k_is)
    (case l1 => k_is)
    (case c1 => k_is)
    (case k1 => k_is)
    (case a2 => k_is)
    (case l2 => k_is)
    (case c2 => k_is)
    (case k2 => k_is)
    (case a3 => k_is)
    (case l3 => k_is)
    (case c3 => k_is)
    (case k3 => k_is)
    (case a4 => k_is)
    (case l4 => k_is)
    (case c4 => k_is)
    (case k4 => k_is)
    (case a5 => k_is)
    (case l5 => k_is)
    (case c5 => k_is)
    (case k5 => k_is)
    (case a6 => k_is)
    (case l6 => k_is)
    (case c6 => k_is)
    (case k6 => k_is)
    (case a7 => k_is)
    (case l7 => k_is)
    (case c7 => k_is)
    (case k7 => k_is)
    (case a8 => k_is)
    (case i8 => k_is)
    (case l8 => k_is)
    (case c8 => k_is)
    (case k8 => k_is)
    (case a9 => k_is)
    (case i9 => k_is)
    (case l9 => k_is)
    (case c9 => k_is)
    (case k9 => k_is)
    (case a10 => k_is)
    (case i10 => k_is)
    (case l10 => k_is)
    (case c10 => k_is)
    (case k10 => k_is)
    (case a11 => k_is)
    (case i11 => k_is)
    (case l11 => k_is)
    (case c11 => k_is)
    (case k11 => k_is)
    (case a12 => k_is)
    (case i12 => k_is)
    (case l12 => k_is)
    (case c12 => k_is)
    (case k12 => k_is)
    (case a13 => k_is)
    (case i13 => k_is)
    (case l13 => k_is)
    (case c13 => k_is)
    (case k13 => k_is)
    (case a14 => k_is)
    (case l14 => k_is)
    (case c14 => k_is)
    (case k14 => k_is)
    (case a15 => k_is)
    (case l15 => k_is)
    (case c15 => k_is)
    (case k15 => k_is)
    (case a16 => k_is)
    (case l16 => k_is)
    (case c16 => k_is)
    (case k16 => k_is)
    (case a17 => k_is)
    (case l17 => k_is)
    (case c17 => k_is)
    (case k17 => k_is)
    (case a18 => k_is)
    (case l18 => k_is)
    (case c18 => k_is)
    (case k18 => k_is)
    (case a19 => k_is)
    (case l19 => k_is)
    (case c19 => k_is)
    (case k19 => k_is)
    (case a20 => k_is)
    (case l20 => k_is)
    (case c20 => k_is)
    (case k20 => k_is)
    (case a21 => k_is)
    (case i21 => k_is)
    (case l21 => k_is)
    (case c21 => k_is)
    (case k21 => k_is)
    (case a22 => k_is)
    (case i22 => k_is)
    (case l22 => k_is)
    (case c22 => k_is)
    (case k22 => k_is)
    (case a23 => k_is)
    (case i23 => k_is)
    (case l23 => k_is)
    (case c23 => k_is)
    (case k23 => k_is)
    (case a24 => k_is)
    (case i24 => k_is)
    (case l24 => k_is)
    (case c24 => k_is)
    (case k24 => k_is)
    (case a25 => k_is)
    (case i25 => k_is)
    (case l25 => k_is)
    (case c25 => k_is)
    (case k25 => k_is)
    (case a26 => k_is)
    (case i26 => k_is)
    (case l26 => k_is)
    (case c26 => k_is)
    (case k26 => k_is)
    (case a27 => k_is)
    (case i27 => k_is)
    (case l27 => k_is)
    (case c27 => k_is)
    (case k27 => k_is)
    (case a28 => k_is)
    (case i28 => k_is)
    (case l28 => k_is)
    (case c28 => k_is)
    (case k28 => k_is)
    (case a29 => k_is)
    (case i29 => k_is)
    (case l29 => k_is)
    (case c29 => k_is)
    (case k29 => k_is)
    (case a30 => k_is)
    (case i30 => k_is)
    (case l30 => k_is)
    (case c30 => k_is)
    (case k30 => k_is)
    (case a31 => k_is)
    (case i31 => k_is)
    (case l31 => k_is)
    (case c31 => k_is)
    (case k31 => k_is)
    (case a32 => k_is)
    (case i32 => k_is)
    (case l32 => k_is)
    (case c32 => k_is)
    (case k32 => k_is)
    (case a33 => k_is)
    (case i33 => k_is)
    (case l33 => k_is)
    (case c33 => k_is)
    (case k33 => k_is)
    (case lT33 => k_is)
    (case a34 => k_is)
    (case l34 => k_is)
    (case c34 => k_is)
    (case k34 => k_is)
    (case a35 => k_is)
    (case l35 => k_is)
    (case c35 => k_is)
    (case k35 => k_is)
    (case a36 => k_is)
    (case i36 => k_is)
    (case l36 => k_is)
    (case c36 => k_is)
    (case k36 => k_is)
    (case a37 => k_is)
    (case i37 => k_is)
    (case l37 => k_is)
    (case c37 => k_is)
    (case k37 => k_is)
    (case a38 => k_is)
    (case l38 => k_is)
    (case c38 => k_is)
    (case k38 => k_is)
    (case a39 => k_is)
    (case l39 => k_is)
    (case c39 => k_is)
    (case k39 => k_is)
    (case a40 => k_is)
    (case l40 => k_is)
    (case c40 => k_is)
    (case k40 => k_is)
    (case a41 => k_is)
    (case l41 => k_is)
    (case c41 => k_is)
    (case k41 => k_is)
    (case a42 => k_is)
    (case l42 => k_is)
    (case c42 => k_is)
    (case k42 => k_is)
    (case a43 => k_is)
    (case l43 => k_is)
    (case c43 => k_is)
    (case k43 => k_is)
    (case a44 => k_is)
    (case l44 => k_is)
    (case c44 => k_is)
    (case k44 => k_is)
    (case a45 => k_is)
    (case l45 => k_is)
    (case c45 => k_is)
    (case k45 => k_is)
    (case a46 => k_is)
    (case l46 => k_is)
    (case c46 => k_is)
    (case k46 => k_is)
    (case a47 => k_is)
    (case l47 => k_is)
    (case c47 => k_is)
    (case k47 => k_is)
    (case a48 => k_is)
    (case l48 => k_is)
    (case c48 => k_is)
    (case k48 => k_is)
    (case a49 => k_is)
    (case l49 => k_is)
    (case c49 => k_is)
    (case k49 => k_is)
    (case a50 => k_is)
    (case l50 => k_is)
    (case c50 => k_is)
    (case k50 => k_is)
    (case a51 => k_is)
    (case l51 => k_is)
    (case c51 => k_is)
    (case k51 => k_is)
    (case a52 => k_is)
    (case l52 => k_is)
    (case c52 => k_is)
    (case k52 => k_is)
    (case a53 => k_is)
    (case l53 => k_is)
    (case c53 => k_is)
    (case k53 => k_is)
    (case a54 => k_is)
    (case l54 => k_is)
    (case c54 => k_is)
    (case k54 => k_is)
    (case z_max => k_is)
    (case z_min => k_is)
    (case z_len => k_is)
    (case z_int => k_is)
    (case z_range => k_is)
    (case z_isinstance => k_is)
    (case z_tuple => k_is)
    (case z_all => k_is)
    (case z_repr => k_is)
    (case z_list => k_is)
    (case z_str => k_is)
    (case z_sorted => k_is)
    (case z_sum => k_is)
    (case z_set => k_is)
    (case z_dict => k_is)
    (case z_bool => k_is)
    (case z_ord => k_is)
    (case z_reversed => k_is)
    (case hc31 => kernel_rfl)
    (case nt31 => kernel_rfl)
    (case tb31 => exact PySem.W.km_tabs_of Y _ (List.mem_of_elem_eq_true (by kernel_rfl)))
