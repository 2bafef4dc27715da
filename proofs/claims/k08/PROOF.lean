import PyProof.Rows.All
import Wide.All
import OpenK.AllK
import Wide.FinOn
import HandS.ForMost
import HandS.Wide
import HandS.IsInst
import HandS.Defaults
import HandS.Flow
import HandS.TupLe
import HandS.OwnEq
import HandS.More
import HandS.Small
import HandS.EndBits
import HandS.RaiseMore
import HandS.Walk
import HandS.Conv
import HandS.CallSlots
import HandS.Evl
import HandS.Steps
import PyProof.ReprRoads
import PyProof.WalksMore
import PyProof.ReprLen
import HandS.ForExc
import HandS.ExcField
import HandS.ExcInit
import HandS.ExcOwn
import HandS.ExcIs
import KE.KExcIs
import PyProof.ExcBaseAll.LookupError
import PyProof.ExcBaseAll.RuntimeError
import PyProof.ExcBaseAll.IndexError
import PyProof.ExcBaseAll.ValueError
import PySem.Challenge.RW_stampedwait_k08_clocks_refused
set_option Elab.async false
set_option linter.all false
set_option maxRecDepth 100000
set_option maxHeartbeats 4000000
namespace M
open PySem L2


section
open PySem PySem.Spec PyProof.Rows L2
/-- the promise of a def that is only called where no object is being shown -/
structure FnG (P : Program) (w : World) (K : PySem.W.Frag) (mg : Str → Option Value) (base : Heap) (k : Nat) (f : Addr) (fd : FuncData) (ps : List Str) (sp : Sp) : Prop where
  size : ∀ vs H Q E, sp vs H Q E → vs.length = ps.length
  go : ∀ (A : Around) (outer : List Env) (s : Shared) (H : Hp) (us : List Value) (vs : List V) (Q : VK) (E : XK) (args : Args), A.guards = some [] → Room k A → Env0 P w K mg base A outer s H →
    BindsTo s fd args (ps.zip us) → Vals vs us → sp vs H Q E → codeAny (model P w) A (.call (.ref f) args) (CR CX0 outer P w H s Q E) s
theorem room66 {A : Around} {k : Nat} (hr : Room k A) : A.units + 66 < cLine := by
  have := hr.un
  omega
theorem guards_deeper (A : Around) (e : Env) : (A.deeper e).guards = A.guards := rfl
section
variable {P : Program} {w : World} {K : PySem.W.Frag} {mg : Str → Option Value} {base : Heap} {x qual : Str} {st : Stmt} {f : Addr} {fd : FuncData} {N ps : List Str} {k : Nat} {sp : Sp}
theorem fnG_mk (F : Fun K x qual st f fd) (S : FnScope N ps (defScope st)) (size : ∀ vs H Q E, sp vs H Q E → vs.length = ps.length)
    (body : ∀ (cdv : Value) (A : Around) (outer : List Env) (s : Shared) (H : Hp) (vs : List V) (Q : VK) (E : XK), (A.deeper (envOfC qual (defScope st) s.heap.objs.size f cdv)).guards = some [] →
      Room k (A.deeper (envOfC qual (defScope st) s.heap.objs.size f cdv)) → sp vs H Q E →
      ∃ t, PSs (cxOf CX0 P w K mg base N qual (defScope st) f cdv A outer s H E).nox (defBody st) t ∧ t { nx := fun _ H' => Q .non H', rt := Q } (start N vs) H) :
    FnG P w K mg base (k + 1) f fd ps sp := by
  obtain ⟨oc, od, kV, doc, pm, an, cdv, ct, osl, rfl, lk, hcd⟩ := F.ex
  refine ⟨size, ?_⟩
  intro A outer s H us vs Q E args gd hr e0 hb r hsp
  have old : ∀ b o, base.get? b = some o → s.heap.get? b = some o := fun b o z => (e0.bs b o z).1
  have kin := e0.mod.kin.keeps old
  have hkind : ∀ y ∈ ps.zip us, (defScope st).names.lookup y.1 = some .local ∨ ((defScope st).names.lookup y.1 = some .cell ∧ ((cellsFrom (s.heap.objs.size + 1) (defScope st).names []).lookup y.1).isSome = true) := by
    rintro ⟨n, v⟩ hy
    have := S.par n (List.of_mem_zip hy).1
    rcases this with z | z
    · exact .inl z
    · exact .inr ⟨z, PySem.W.cellsFrom_some _ _ _ (.inl z)⟩
  obtain ⟨t, ht, hq⟩ := body cdv A outer s H vs Q E gd (hr.deeper _) hsp
  refine codeAny_call_function hr.depth (kin _ _ lk) rfl S.co S.gen rfl (PySem.W.codeRec_of kin hcd) ?_
  refine hb _ _ _ _ (wpAny_newFunctionEnv_cells S.kind hkind ?_)
  rintro env rfl s1 y
  refine ⟨(e0.mod.nolimit.keeps old).keeps y.toInCall.keep, codeAny_func ?_⟩
  have I0 := inv_start (CX := CX0) (E := E) (cd := cdv) (f := f) (qual := qual) S hr.hd e0 (size _ _ _ _ hsp) r y
  refine wpAny_mono (ht.nox.run [] s1 _ H _ I0 hq) ?_ (fun _ _ z => z)
  intro fl s' hs
  cases fl with
  | ret u =>
    obtain ⟨v, σ', H', J, rv, z⟩ := hs
    exact ⟨v, H', J.os, J.bare, J.base, J.hok, rv, z⟩
  | next =>
    obtain ⟨σ', H', J, z⟩ := hs
    exact ⟨V.non, H', J.os, J.bare, J.base, J.hok, rfl, z⟩
  | brk => exact hs.elim fun _ h => h.elim fun _ h => h.2.elim
  | cont => exact hs.elim fun _ h => h.elim fun _ h => h.2.elim
end
section
variable {X : Cx} {k : Nat} {f : Addr} {fd : FuncData} {ps : List Str} {sp : Sp} {x : Str} {p pos : Pos} {e : Expr} {es : List Expr} {t : TA}
theorem pe_callG (F : FnG X.prog X.w X.K X.mg X.base k f fd ps sp) (gd : X.A.guards = some []) (hr : Room k X.A) (hg : Gl X x) (hm : X.mg x = some (.ref f)) (hk : PySem.W.keepIn X.K (.ref f) = true) (hb : Binds X.K fd ps [])
    (hx : Passes CX0 X E0) (ha : PA X (e :: es) t) (hdb : (x == ("__debug__" : Str)) = false := by decide) (he : starEach (e :: es) X.env = (false, eval e X.env) :: starEach es X.env := by rfl) (hpl : (backTo pos (starEach es X.env)).any (·.1) = false := by rfl) :
    PE X (.Call (.Name x p) (e :: es) [] pos) (tCall sp [] E0 t) := by
  constructor
  intro pins s σ H Q I h
  apply wpAny_Call_Name_kw
  refine ld_glob I hg hm ?_ hdb
  refine PySem.W.callWith_K (h₀ := X.base) I.ok.mod.kin hk (thn (ha.run pos pins s σ H _ I h) ?_) he hpl
  rintro us s1 ⟨vs, H1, I1, r, q⟩
  refine ⟨I1.kIn, ?_⟩
  rw [List.append_nil] at q
  have hl : us.length = ps.length := r.length.symm.trans (F.size _ _ _ _ q)
  have b := hb s1 us I1.kIn (by rw [List.append_nil]; exact hl)
  rw [List.append_nil] at b
  refine wpAny_call (codeAny_mono (F.go X.A X.stack s1 H1 us vs Q E0 ⟨us, []⟩ gd hr I1.env0 b r q) ?_)
  intro res s' hq
  cases res with
  | error e => exact hx pins σ H1 s1 e s' I1 hq
  | ok fl => cases fl <;> first | exact I1.after hq | exact False.elim hq
/-- repr of data -/
theorem call_reprD (gd : X.A.guards = some []) (hu : X.A.units + 66 < cLine) : CallR X (.builtin "repr") (fun xs H Q => ∃ (a : Addr) (d : PyData), xs = [.ref a] ∧ Dp X.K H (.ref a) d ∧ d.showable = true ∧ d.hasDict = false ∧ d.depth ≤ 64 ∧ d.shown.length ≤ sizeLine ∧ Q (.str d.shown) H) := by
  intro pins s σ H xs us Q I r h
  obtain ⟨a, d, rfl, hd, sh, nd, dp, sz, q⟩ := h
  cases r with
  | cons r1 r2 =>
    cases r2
    obtain ⟨as, rd⟩ := Dp.reads I d _ _ hd r1
    cases r1
    exact repr_of_reads' rd sh (fun z => by rw [nd] at z; cases z) gd (by omega) (fun _ _ z => z) (fun h' u tk z => ⟨.str d.shown, H, I.kept z, ⟨_, rfl⟩, q⟩) sz
end
/-- the law's call -/
theorem law_callG {P : Program} {w : World} {K : PySem.W.Frag} {mg mb : Str → Option Value} {k : Nat} {fa sa : Addr} {fd : FuncData} {x : Str} {sp : Sp} {s₁ : Shared} {vs : List Value} {ns : List Int}
    (KX : K.In s₁.heap) (hns : s₁.heap.Ns mainGlobals mg) (hb : s₁.heap.Ns builtinsNs mb) (hbb : ∀ x : Str, x ≠ "__name__" → mb x = bootBuiltins x) (hlim : s₁.heap.NoLimit) (hg : s₁.gens = #[])
    (ho : s₁.heap.get? sa = some { cls := .type "list", data := .seq vs.toArray }) (hi : IntsAre vs ns) (hl : ns.length ≤ sizeLine) (hr : Room k callerA)
    (F : ∀ base : Heap, K.In base → base.Ns mainGlobals mg → FnG P w K mg base k fa fd [x] sp) (hbind : ∀ (s : Shared) (u : Value), BindsTo s fd ⟨[u], []⟩ [(x, u)])
    (hsp : ∀ H : Hp, Only H → SqL K H sa (ns.map V.int) → sp [.ref sa] H (fun v _ => v = .bl true) fun _ _ _ => False) :
    codeAny (model P w) callerA (.call (.ref fa) ⟨[.ref sa], []⟩) (fun r s' => r = .ok (.ret (.bool true)) ∧ OldK s₁.heap s'.heap ∧ s'.os = s₁.os ∧ AllBare s'.gens) s₁ := by
  -- H tracks the script or nothing
  suffices main : ∀ H : Hp, Only H → SqL K H sa (ns.map V.int) → HOk P w H s₁.heap → (∀ b, H b ≠ none → b = sa) → (H sa ≠ none → K.lookup sa = none) →
      codeAny (model P w) callerA (.call (.ref fa) ⟨[.ref sa], []⟩) (fun r s' => r = .ok (.ret (.bool true)) ∧ OldK s₁.heap s'.heap ∧ s'.os = s₁.os ∧ AllBare s'.gens) s₁ by
    have rv := vals_ints hi
    cases hk : K.lookup sa with
    | none =>
      let H : Hp := fun b => if b = sa then some (.frz { cls := .type "list", data := .seq vs.toArray } (.lst (ns.map V.int))) else none
      have hH : H sa = some (.frz { cls := .type "list", data := .seq vs.toArray } (.lst (ns.map V.int))) := if_pos rfl
      have hN : ∀ b, b ≠ sa → H b = none := fun b z => if_neg z
      refine main H (fun b => ?_) (.inl (.inr ⟨_, hH⟩)) (fun b u z => ?_) (fun b z => ?_) fun _ => hk
      · by_cases c : b = sa
        · exact .inr ⟨_, _, by rw [c]; exact hH⟩
        · exact .inl (hN b c)
      · by_cases c : b = sa
        · subst c
          rw [hH] at z
          cases z
          exact ⟨ho, by rw [List.length_map]; exact hl, vs, _, rv, ho⟩
        · rw [hN b c] at z
          cases z
      · by_cases c : b = sa
        · exact c
        · exact absurd (hN b c) z
    | some o =>
      have z := KX sa o hk
      rw [ho] at z
      cases z
      exact main (fun _ => none) (fun _ => .inl rfl) (.inr ⟨_, vs.toArray, _, hk, rfl, rfl, rfl, by rw [List.size_toArray, hi.length]; exact hl, by simpa using rv⟩) (fun b u y => by cases y) (fun b y => absurd rfl y) fun y => absurd rfl y
  intro H hO hS hok hA hK
  have free : ∀ {b : Addr}, b ≠ sa → H b = none := fun {b} c => by
    cases z : H b with
    | none => rfl
    | some u => exact absurd (hA b (by rw [z]; simp)) c
  have dictFree : ∀ {b : Addr} {o : Obj} {es : Array DictEntry} {ep : Nat}, s₁.heap.get? b = some o → o.data = .dict es ep → H b = none := fun {b o es ep} e d => free fun c => by
    subst c
    rw [ho] at e
    cases e
    cases d
  have ns2 : ∀ {b : Addr} {m : Str → Option Value}, s₁.heap.Ns b m → (hidT s₁.heap H).Ns b m := by
    rintro b m ⟨o, es, ep, e, d, r⟩
    exact ⟨o, es, ep, hidT_get e (dictFree e d), d, r⟩
  have kin2 : K.In (hidT s₁.heap H) := by
    intro b o e
    refine hidT_get (KX b o e) ?_
    by_cases c : b = sa
    · subst c
      cases z : H b with
      | none => rfl
      | some u =>
        rw [hK (by rw [z]; simp)] at e
        cases e
    · exact free c
  have lim2 : (hidT s₁.heap H).NoLimit := by
    obtain ⟨mc, h1, h2⟩ := hlim
    exact ⟨mc, ns2 h1, h2⟩
  have env : Env0 P w K mg (hidT s₁.heap H) callerA [] s₁ H :=
    { frames := rfl, mod := ⟨kin2, ns2 hns, ⟨mb, ns2 hb, hbb⟩, lim2⟩, bs := fun b o e => of_hidT e, bsz := Nat.le_of_eq (hidT_size _ _), funs := trivial, frf := fun b z => by simp [frs] at z, hok := hok, bare := .of_eq hg }
  refine codeAny_mono ((F _ kin2 (ns2 hns)).go callerA [] s₁ H [.ref sa] [.ref sa] _ _ ⟨[.ref sa], []⟩ rfl hr env (hbind s₁ (.ref sa)) (.cons rfl .nil) (hsp H hO hS)) ?_
  intro res s' hres
  cases res with
  | error e => exact hres.elim
  | ok fl =>
    cases fl with
    | ret u =>
      obtain ⟨v, H', os, bare, un, hok', rv, qv⟩ := hres
      cases (show v = .bl true from qv)
      cases (show u = Value.bool true from rv)
      refine ⟨rfl, OldK.of_keep fun b o e => ?_, os, bare⟩
      rcases hO b with z | ⟨ob, xs, z⟩
      · exact un.keep b o e z (by simp [frs]) (by simp)
      · have z2 := un.frzs b ob _ z
        have e1 := (hok b _ z).1
        have e2 := (hok' b _ z2).1
        rw [e] at e1
        cases e1
        exact e2
    | next => exact hres.elim
    | brk => exact hres.elim
    | cont => exact hres.elim
theorem walkG {l : PySem.W.OpenLaw} {n k : Nat} {q : Program} {loose : List Str} {XP : (Str → Option Value) → Heap → Prop} {YP : World → Heap → Prop} {d : DefRec} {K : Params → PySem.W.Frag} {sp : World → Sp} {x : Str}
    (hn : l.most = some n) (hn2 : n ≤ sizeLine) (hdf : d.params.defaults = []) (hr : Room k callerA) (hY : ∀ (w : World) (h : Heap), YP w h → (K w.params).In h)
    (F : ∀ (w : World) (mg : Str → Option Value) (fa : Addr) (h : Heap), (K w.params).In h → h.Ns mainGlobals mg → mg d.name = some (.ref fa) →
      ∃ fd : FuncData, (∀ (s : Shared) (u : Value), BindsTo s fd ⟨[u], []⟩ [(x, u)]) ∧ ∀ base : Heap, (K w.params).In base → base.Ns mainGlobals mg → FnG l.prog w (K w.params) mg base k fa fd [x] (sp w))
    (hsp : ∀ (w : World) (H : Hp) (a : Addr) (ns : List Int), ns.length ≤ n → (∀ z ∈ ns, Builtin.Int.intBits z ≤ 1048576) → Only H → SqL (K w.params) H a (ns.map V.int) → sp w [.ref a] H (fun v _ => v = .bl true) fun _ _ _ => False) :
    PySem.W.WalkO q loose XP YP l.row.toRowW d [] (fun f vs => PySem.call f vs) := by
  apply Att.attach_callB hn hdf
  intro w s₀ s₁ mg mb fa o pm cd doc sa vs ns G Y ho hd hcd hmg hobj hints hlen hbits hg
  obtain ⟨fd, hb, hF⟩ := F w mg fa _ (hY w _ Y) G.T.g hmg
  exact law_callG (hY w _ Y) G.T.g G.T.b G.T.builtins G.T.nolimit hg hobj hints (Nat.le_trans hlen hn2) hr hF hb (fun H hO hS => hsp w H sa ns hlen hbits hO hS)
end

section
open PySem PySem.Spec PyProof.Rows L2
/-- data, or an empty dict -/
inductive An (K : PySem.W.Frag) (H : Hp) : V → PyData → Prop
  | dp {v : V} {d : PyData} (h : Dp K H v d) : An K H v d
  | dict {p : Addr} (e : H p = some (.dK [])) : An K H (.ref p) (.dict [])
mutual
theorem dp_up {K : PySem.W.Frag} {H H' : Hp} (k : Same H H') : ∀ {v : V} {d : PyData}, Dp K H v d → Dp K H' v d
  | _, _, .non => .non
  | _, _, .bl b => .bl b
  | _, _, .int i => .int i
  | _, _, .str x => .str x
  | _, _, .lst h hs => .lst (k.seq h) (dpall_up k hs)
  | _, _, .tup h hs => .tup (by
      rcases h with (h | ⟨u, h⟩) | h
      · exact .inl (.inl (k _ _ h))
      · exact .inl (.inr ⟨u, k _ _ h⟩)
      · exact .inr h) (dpall_up k hs)
theorem dpall_up {K : PySem.W.Frag} {H H' : Hp} (k : Same H H') : ∀ {vs : List V} {ds : List PyData}, DpAll K H vs ds → DpAll K H' vs ds
  | _, _, .nil => .nil
  | _, _, .cons h hs => .cons (dp_up k h) (dpall_up k hs)
end
mutual
theorem dp_nodict {K : PySem.W.Frag} {H : Hp} : ∀ {v : V} {d : PyData}, Dp K H v d → d.hasDict = false
  | _, _, .non => rfl
  | _, _, .bl b => rfl
  | _, _, .int i => rfl
  | _, _, .str x => rfl
  | _, _, .lst _ hs => by simp only [PyData.hasDict]; exact dpall_nodict hs
  | _, _, .tup _ hs => by simp only [PyData.hasDict]; exact dpall_nodict hs
theorem dpall_nodict {K : PySem.W.Frag} {H : Hp} : ∀ {vs : List V} {ds : List PyData}, DpAll K H vs ds → PyData.hasDictAll ds = false
  | _, _, .nil => rfl
  | _, _, .cons h hs => by simp only [PyData.hasDictAll, dp_nodict h, dpall_nodict hs, Bool.or_self]
end
theorem dpall_len {K : PySem.W.Frag} {H : Hp} : ∀ {vs : List V} {ds : List PyData}, DpAll K H vs ds → vs.length = ds.length
  | _, _, .nil => rfl
  | _, _, .cons _ hs => congrArg Nat.succ (dpall_len hs)
theorem dpall_get {K : PySem.W.Frag} {H : Hp} : ∀ {vs : List V} {ds : List PyData}, DpAll K H vs ds → ∀ {i : Nat} {v : V}, vs[i]? = some v → ∃ d, ds[i]? = some d ∧ Dp K H v d
  | _, _, .nil, i, v, e => by simp at e
  | _, _, .cons h hs, 0, v, e => by
    simp at e
    subst e
    exact ⟨_, rfl, h⟩
  | _, _, .cons h hs, i + 1, v, e => dpall_get hs (i := i) (by simpa using e)
theorem An.up {K : PySem.W.Frag} {H H' : Hp} (k : Same H H') {v : V} {d : PyData} (h : An K H v d) : An K H' v d := by
  cases h with
  | dp h => exact .dp (dp_up k h)
  | dict e => exact .dict (k _ _ e)
def wholeD : PyData → Bool
  | .int _ => true
  | _ => false
def isTup : PyData → Bool
  | .tuple _ => true
  | _ => false
theorem sql_ty {K : PySem.W.Frag} {H : Hp} {p : Addr} {xs : List V} (h : SqL K H p xs) : TyX K H (.ref p) (.type "list") := by
  rcases h with (h | ⟨u, h⟩) | ⟨o, its, n, h1, h2, _⟩
  · exact .base (.lst h)
  · exact .base (.frz h)
  · exact .kList h1 h2
theorem sqt_tyA {K : PySem.W.Frag} {H : Hp} {p : Addr} {xs : List V} (h : SqT K H p xs) : TyX K H (.ref p) (.type "tuple") := by
  rcases h with (h | ⟨u, h⟩) | ⟨o, its, n, h1, h2, _⟩
  · exact .base (.tup h)
  · exact .fTuple h
  · exact .kTuple h1 h2
/-- what isinstance says -/
theorem An.is {K : PySem.W.Frag} {H : Hp} {v : V} {d : PyData} (h : An K H v d) : ∃ (t : Value) (i b c : Bool), TyX K H v t ∧ PySem.W.kitOne K t (.type "int") = some i ∧ PySem.W.kitOne K t (.type "bool") = some b ∧ PySem.W.kitOne K t (.type "tuple") = some c ∧ (i && !b) = wholeD d ∧ c = isTup d := by
  cases h with
  | dict e => exact ⟨_, false, false, false, .base (.dK e), kit_ty (by decide +kernel), kit_ty (by decide +kernel), kit_ty (by decide +kernel), rfl, rfl⟩
  | dp h =>
    cases h with
    | non => exact ⟨_, false, false, false, .base .non, kit_ty (by decide +kernel), kit_ty (by decide +kernel), kit_ty (by decide +kernel), rfl, rfl⟩
    | bl b => exact ⟨_, true, true, false, .base (.bl b), kit_ty (by decide +kernel), kit_ty (by decide +kernel), kit_ty (by decide +kernel), rfl, rfl⟩
    | int i => exact ⟨_, true, false, false, .base (.int i), kit_ty (by decide +kernel), kit_ty (by decide +kernel), kit_ty (by decide +kernel), rfl, rfl⟩
    | str x => exact ⟨_, false, false, false, .base (.str x), kit_ty (by decide +kernel), kit_ty (by decide +kernel), kit_ty (by decide +kernel), rfl, rfl⟩
    | lst h _ => exact ⟨_, false, false, false, sql_ty h, kit_ty (by decide +kernel), kit_ty (by decide +kernel), kit_ty (by decide +kernel), rfl, rfl⟩
    | tup h _ => exact ⟨_, false, false, true, sqt_tyA h, kit_ty (by decide +kernel), kit_ty (by decide +kernel), kit_ty (by decide +kernel), rfl, rfl⟩
/-- a tuple of data -/
theorem An.tup {K : PySem.W.Frag} {H : Hp} {v : V} {ds : List PyData} (h : An K H v (.tuple ds)) : ∃ p xs, v = .ref p ∧ SqT K H p xs ∧ DpAll K H xs ds := by
  cases h with
  | dp h =>
    cases h with
    | tup h hs => exact ⟨_, _, rfl, h, hs⟩
section
variable {X : Cx}
/-- repr of any of these -/
theorem call_reprA (gd : X.A.guards = some []) (hu : X.A.units + 66 < cLine) : CallR X (.builtin "repr") (fun xs H Q => ∃ (x : V) (d : PyData), xs = [x] ∧ An X.K H x d ∧ d.showable = true ∧ d.depth ≤ 64 ∧ d.shown.length ≤ sizeLine ∧ Q (.str d.shown) H) := by
  intro pins s σ H xs us Q I r h
  obtain ⟨x, d, rfl, ha, sh, dp, sz, q⟩ := h
  cases r with
  | cons r1 r2 =>
    cases r2
    cases ha with
    | dict e =>
      cases r1
      obtain ⟨hz, hS, vs, r, o, es, ep, h1, h2, h3, h4⟩ := (show ObjOk X.prog X.w H s.heap _ (.dK []) from I.hok _ _ e)
      cases r
      have hes : es.toList = [] := by
        have z := h4.2.1
        generalize es.toList = l at z
        cases z
        rfl
      have rd : Reads s.heap (.ref _) (.dict []) (_ :: [] ++ []) := Reads.dict (kvs := []) (as := []) (bs := []) h1 h2.1 h3 (by rw [hes]; exact .nil) (by rw [hes]; exact .nil)
      refine repr_of_reads' rd rfl (fun _ z => ?_) gd (by show X.A.units + (1 + 1) < cLine; omega) (fun _ _ z => z) (fun h' u tk z => ⟨.str _, H, I.kept z, ⟨_, rfl⟩, q⟩) sz
      simp at z
      simp [z] at hS
    | dp hd =>
      cases hd with
      | non =>
        cases r1
        exact PySem.P.repr_of_none ⟨.str _, H, I.tok _, ⟨_, rfl⟩, q⟩
      | bl b =>
        cases r1
        exact PySem.P.repr_of_bool ⟨.str _, H, I.tok _, ⟨_, rfl⟩, q⟩
      | int i =>
        obtain ⟨t, rfl⟩ := r1
        exact PySem.P.repr_of_int (of_decide_eq_true sh) ⟨.str _, H, I.tok _, ⟨_, rfl⟩, q⟩
      | str z =>
        obtain ⟨t, rfl⟩ := r1
        exact PySem.P.repr_of_str ⟨.str _, H, I.tok _, ⟨_, rfl⟩, q⟩ sz
      | lst h hs =>
        obtain ⟨as, rd⟩ := Dp.reads I _ _ _ (.lst h hs) r1
        cases r1
        exact repr_of_reads' rd sh (fun z => by rw [dp_nodict (.lst h hs)] at z; cases z) gd (by omega) (fun _ _ z => z) (fun h' u tk z => ⟨.str _, H, I.kept z, ⟨_, rfl⟩, q⟩) sz
      | tup h hs =>
        obtain ⟨as, rd⟩ := Dp.reads I _ _ _ (.tup h hs) r1
        cases r1
        exact repr_of_reads' rd sh (fun z => by rw [dp_nodict (.tup h hs)] at z; cases z) gd (by omega) (fun _ _ z => z) (fun h' u tk z => ⟨.str _, H, I.kept z, ⟨_, rfl⟩, q⟩) sz
/-- min of a tuple of ints -/
theorem cr_minT (hc : X.calm = true) : CallR X (.builtin "min") (fun vs H Q => ∃ (a : Addr) (ns : List Int), vs = [V.ref a] ∧ SqT X.K H a (ns.map V.int) ∧ 0 < ns.length ∧ ∀ m, m ∈ ns → (∀ y, y ∈ ns → m ≤ y) → Q (.int m) H) := by
  intro pins s σ H vs us Q I r h
  obtain ⟨a, ns, rfl, hs, hne, q⟩ := h
  obtain ⟨its, rv, ht, _⟩ := I.tuple hs
  rw [Vals.ref1 r]
  have hi : IntsAre its ns := rv.ints
  obtain ⟨xs, e⟩ := hi.allInts.items
  have hn : numsOf (intItems xs).toList = ns := by rw [← e]; exact hi.numsOf
  rw [nums_intItems] at hn
  subst hn
  rw [e] at ht
  have hsz : 0 < xs.size := by simpa using hne
  have ht' : s.heap.IsTuple a (intItems xs) := ht
  have hlt : a < s.heap.objs.size := by
    obtain ⟨_, z, _⟩ := ht'
    exact Heap.lt_size z
  have hsz1 : ∀ o, (s.heap.push o).objs.size = s.heap.objs.size + 1 := fun o => Heap.size_push ..
  refine call_min_walk (wpAny_pyIter_tuple ht' ⟨_, _, _, _, _, _, _, rfl, Walks.tuple (A := X.A.in1) (I.ok.hd hc) _ a (Nat.ne_of_lt hlt) (intItems xs), ⟨⟨_, Heap.get?_push_size _ rfl, rfl, rfl⟩, ?_⟩, ?_, by simpa [intItems] using hsz, CmpOf.ints_lt (numAt xs) (fun _ _ => intItems_at), ?_⟩)
  · obtain ⟨o, z1, z2⟩ := ht'
    exact ⟨o, Heap.get?_push_of_some _ z1, z2⟩
  · intro b hb
    show b < (s.heap.push _).objs.size
    rw [hsz1]
    rcases List.mem_cons.mp hb with rfl | hb
    · exact Nat.lt_succ_self _
    · rcases List.mem_cons.mp hb with rfl | hb
      · exact Nat.lt_succ_of_lt hlt
      · cases hb
  · intro v h' tk hP hk
    have hv : (intItems xs)[argBest (fun i j => decide (numAt xs i < numAt xs j)) (xs.size - 1)]? = some v := by simpa [intItems] using hP
    obtain ⟨t, rfl⟩ := intItems_at hv
    obtain ⟨h1, h2⟩ := argBest_lt (numAt xs) (xs.size - 1)
    have kept : ∀ b o, s.heap.get? b = some o → h'.get? b = some o := fun b o z => hk b o (by simpa using Nat.ne_of_lt (Heap.lt_size z)) (Heap.get?_push_of_some _ z)
    refine ⟨.int _, H, I.kept kept, ⟨_, rfl⟩, q _ ?_ ?_⟩
    · rw [numAt_eq]; exact PySem.getD_mem (by rw [List.length_map, Array.length_toList]; omega)
    · intro z hz
      obtain ⟨j, hj, rfl⟩ := mem_getD hz
      rw [List.length_map, Array.length_toList] at hj
      rw [← numAt_eq]; exact h2 j (by omega)
end
end

section
open PySem PySem.Spec PyProof.Rows L2
variable {X : Cx} {ea eb ec ed : Expr} {ta tb tc td : TE} {pos : Pos}
/-- three comparisons in a row -/
def tChain3 (r r' r'' : R2) (ta tb tc td : TE) : TE := fun σ H Q => ta σ H fun x H1 => tb σ H1 fun y H2 => r x y H2 fun z H3 => ∃ k, z = .bl k ∧
  (if k = true then tc σ H3 fun u H4 => r' y u H4 fun z2 H5 => ∃ k2, z2 = .bl k2 ∧ (if k2 = true then td σ H5 fun v H6 => r'' u v H6 Q else Q (.bl false) H5) else Q (.bl false) H3)
theorem pt_chain3 {op op' op'' : CmpOp} {r r' r'' : R2} (ho : OpR X (compareOp op) r) (ho' : OpR X (compareOp op') r') (ho'' : OpR X (compareOp op'') r'') (ha : PE X ea ta) (hb : PE X eb tb) (hc : PE X ec tc) (hd : PE X ed td)
    (hm : lastMarks [op, op', op''] [eb, ec, ed] = false := by with_unfolding_all rfl) : PT X (.Compare ea [op, op', op''] [eb, ec, ed] pos) (tTest (tChain3 r r' r'' ta tb tc td)) := by
  refine ⟨fun pins s σ H Q I h => ?_⟩
  refine isTrue_chain (thn (ha.run pins s σ H _ I h) fun v s1 ⟨x, H1, I1, r1, q1⟩ => test_link (thn (hb.run pins s1 σ H1 _ I1 q1) fun u s2 ⟨y, H2, I2, r2, q2⟩ =>
    thn (ho pins s2 σ H2 x y v u _ I2 r1 r2 q2) fun d s3 ⟨z, H3, I3, r3, k, e, q3⟩ => ?_)) hm
  subst e
  cases r3
  refine wpAny_truthy_bool ?_
  cases k with
  | false =>
    obtain ⟨k', e', q'⟩ := q3
    cases e'
    exact ite_ff ⟨H3, I3, q'⟩
  | true =>
    refine ite_tt (test_link (thn (hc.run pins s3 σ H3 _ I3 q3) fun w' s4 ⟨z', H4, I4, r4, q4⟩ => thn (ho' pins s4 σ H4 y z' u w' _ I4 r2 r4 q4) fun d' s5 ⟨z2, H5, I5, r5, k2, e2, q5⟩ => ?_))
    subst e2
    cases r5
    refine wpAny_truthy_bool ?_
    cases k2 with
    | false =>
      obtain ⟨k', e', q'⟩ := q5
      cases e'
      exact ite_ff ⟨H5, I5, q'⟩
    | true =>
      refine ite_tt (test_last (thn (hd.run pins s5 σ H5 _ I5 q5) fun v' s6 ⟨z3, H6, I6, r6, q6⟩ => thn (ho'' pins s6 σ H6 z' z3 w' v' _ I6 r4 r6 q6) fun d'' s7 ⟨z4, H7, I7, r7, k3, e3, q7⟩ => ?_))
      subst e3
      cases r7
      exact wpAny_truthy_bool ⟨H7, I7, q7⟩
end
section
open PySem PySem.Spec PyProof.Rows L2
/-- a caught exception that is kept: of the class cls, its dict d -/
def ExK (cls : Value) (d : Option Addr) (a : Addr) : HO := .ext fun h => ∃ (oe : Obj) (vs : Array Value), h.get? a = some oe ∧ Zc cls d oe ∧ oe.data = .fields vs
theorem exK_ok {P : Program} {w : World} {H : Hp} {h : Heap} {a : Addr} {cls : Value} {d : Option Addr} {oe : Obj} {vs : Array Value} (e : h.get? a = some oe) (z : Zc cls d oe) (hd : oe.data = .fields vs) : ObjOk P w H h a (ExK cls d a) :=
  ⟨⟨oe, vs, e, z, hd⟩, ⟨oe, e⟩, fun h1 h2 ⟨o, vs, e, z, hd⟩ k => ⟨o, vs, k _ e, z, hd⟩⟩
theorem exK_at {P : Program} {w : World} {H : Hp} {h : Heap} {a : Addr} {cls : Value} {d : Option Addr} (hok : HOk P w H h) (e : H a = some (ExK cls d a)) : ∃ (oe : Obj) (vs : Array Value), h.get? a = some oe ∧ Zc cls d oe ∧ oe.data = .fields vs := by
  obtain ⟨x, _⟩ := hok a _ e
  exact x
section
variable {X : Cx} {pins : List (Addr × Obj)} {σ : L2.St} {H : Hp} {s sI : Shared} {B : Heap}
/-- an exception that has landed, tracked -/
theorem inv_track {a : Addr} {o : HO} (J : Inv X pins σ H sI) (I : Inv X pins σ H s) (nI : sI.heap.get? a = none) (na : H a = none) (nL : a ≠ X.env.locals) (new : ObjOk X.prog X.w (upd H a o) s.heap a o) : Inv X pins σ (upd H a o) s := by
  refine ⟨I.ok, I.os, I.bare, ⟨I.base.keep, I.base.slot, fun b ob e n hx => ?_, I.base.there, fun b xs e => ?_, fun b ob u e => ?_, fun b ps e => ?_⟩, I.loc, I.cell, ?_, fun y c e => ?_, fun p hp => ?_, fun b u e => ?_, I.len⟩
  · rw [upd_ne (fun z => by
      subst z
      obtain ⟨o', e'⟩ := J.base.there _ _ e hx
      rw [nI] at e'; cases e')]
    exact I.base.free b ob e n hx
  · have z := I.base.tups b xs e
    rw [upd_ne (ne_of_none z na)]; exact z
  · have z := I.base.frzs b ob u e
    rw [upd_ne (ne_of_none z na)]; exact z
  · obtain ⟨m, z⟩ := I.base.tbls b ps e
    exact ⟨m, by rw [upd_ne (ne_of_none z na)]; exact z⟩
  · rw [upd_ne (fun z => nL z.symm)]; exact I.free
  · obtain ⟨v, z⟩ := J.cell y c e
    rw [upd_ne (fun q => by
      subst q
      obtain ⟨o', e', _⟩ := z
      rw [nI] at e'; cases e')]
    exact I.freeC y c e
  · obtain ⟨e1, e2, e3, e4, e5⟩ := I.pin p hp
    refine ⟨e1, ?_, e3, e4, e5⟩
    rw [upd_ne (fun q => by
      have z := (J.pin p hp).1
      rw [q, nI] at z; cases z)]
    exact e2
  · by_cases hb : b = a
    · subst hb
      rw [upd_same] at e
      cases e
      exact new
    · rw [upd_ne hb] at e
      exact (I.hok b u e).stay (fun c v _ q => q) (fun c q => by rw [upd_ne (ne_of_none q na)]; exact q) fun c xs q => by rw [upd_ne (ne_of_none q na)]; exact q
theorem inv_suiteK (I : Inv X pins σ H s) (a : Addr) : Inv (X.suite a (X.pn ++ pins)) [] σ H s where
  ok := I.ok.suite _ _
  os := I.os
  bare := I.bare
  base := I.base
  loc := I.loc
  cell := I.cell
  free := I.free
  freeC := I.freeC
  pin := fun p hp => I.pin p (by simpa using hp)
  hok := I.hok
  len := I.len
theorem inv_unsuiteK {a : Addr} {pn' : List (Addr × Obj)} (I : Inv (X.suite a (X.pn ++ pins)) pn' σ H s) (ok : X.Ok) : Inv X pins σ H s where
  ok := ok
  os := I.os
  bare := I.bare
  base := I.base
  loc := I.loc
  cell := I.cell
  free := I.free
  freeC := I.freeC
  pin := fun p hp => I.pin p (List.mem_append.mpr (.inl hp))
  hok := I.hok
  len := I.len
end
/-- an exception that came down from a try's body: B its ground, sI the state ahead of it, t the state now -/
structure Down (X : Cx) (pins : List (Addr × Obj)) (σ : L2.St) (H : Hp) (cls : Value) (d : Option Addr) (a : Addr) (B : Heap) (sI t : Shared) : Prop where
  inv : Inv X pins σ H sI
  gr : ∀ b o, sI.heap.get? b = some o → b ∉ frs X.stack → B.get? b = some o
  up : sI.heap.UpToSlots t.heap
  fl : HandSPX.FlyingZ B (X.env :: X.outer) a (Zc cls d) t.heap
  na : H a = none
  so : t.os = sI.os
  ag : AllBare t.gens
section
variable {X : Cx} {pins : List (Addr × Obj)} {σ : L2.St} {H : Hp} {cls : Value} {d : Option Addr} {a : Addr} {B : Heap} {sI t : Shared}
theorem Down.here (z : Down X pins σ H cls d a B sI t) : Inv X pins σ H t := z.inv.landed z.gr z.fl.1 z.up z.so z.ag
theorem Down.again (z : Down X pins σ H cls d a B sI t) {h : Heap} (f : HandSPX.FlyingZ B (X.env :: X.outer) a (Zc cls d) h) (u : t.heap.UpToSlots h) : Down X pins σ H cls d a B sI { t with heap := h } :=
  ⟨z.inv, z.gr, z.up.trans u, f, z.na, z.so, z.ag⟩
theorem Down.apart (z : Down X pins σ H cls d a B sI t) : a ∉ frs (X.env :: X.outer) := fun hm => by
  obtain ⟨oe, vs, he, _, hd⟩ := z.fl.there
  obtain ⟨_, o2, e2, no⟩ := z.fl.2.2.1.mem hm
  exact no vs (by rw [he] at e2; cases e2; exact hd)
theorem Down.nloc (z : Down X pins σ H cls d a B sI t) (hf : X.env.frame = some X.env.locals) : a ≠ X.env.locals := fun q => by
  refine z.apart ?_
  rw [q]
  exact List.mem_filterMap.mpr ⟨X.env, .head _, hf⟩
theorem Down.new (z : Down X pins σ H cls d a B sI t) (hs : X.stack = X.env :: X.outer) : sI.heap.get? a = none := by
  have n := z.apart
  rw [← hs] at n
  have nB : B.get? a = none := z.fl.2.1
  by_cases q : sI.heap.get? a = none
  · exact q
  · obtain ⟨o, e⟩ := Option.ne_none_iff_exists'.mp q
    rw [z.gr a o e n] at nB
    cases nB
theorem Down.kept (z : Down X pins σ H cls d a B sI t) (hs : X.stack = X.env :: X.outer) (hf : X.env.frame = some X.env.locals) : Inv X pins σ (upd H a (ExK cls d a)) t := by
  obtain ⟨oe, vs, he, hz, hd⟩ := z.fl.there
  exact inv_track z.inv z.here (z.new hs) z.na (z.nloc hf) (exK_ok he hz hd)
/-- the class of a clause, asked of it -/
theorem Down.asks {x : Str} {c : Value} {b : Bool} {np : Pos} {Q : Bool → Shared → Prop} {E : Value → Shared → Prop} (z : Down X pins σ H cls d a B sI t) (hc : Names X x c) (hb : PySem.W.exmOne X.K cls c = some b) (q : Q b t) :
    wpAny (model X.prog X.w) (X.A.mark (some (.ref a))) (eval (.Name x np) X.env) (fun v s1 => wpAny (model X.prog X.w) (X.A.mark (some (.ref a))) (excMatches (.ref a) v) Q E s1) E t := by
  obtain ⟨oe, vs, he, hz, hd⟩ := z.fl.there
  have ty : PySem.W.Looks (model X.prog X.w) t.heap (typeOf (.ref a)) cls := by
    intro A Q E s k q
    exact wpAny_typeOf_ref (k _ _ he) (hz.1 ▸ q)
  have m := (PySem.W.exm_one (M := model X.prog X.w) z.here.kIn ty hb).here (A := X.A.mark (some (.ref a))) (E := E) q
  have S := inv_suiteK z.here a
  obtain ⟨g, nd, h | ⟨h, v, nn⟩⟩ := hc
  · exact ld_glob S g h m nd
  · exact ld_blt S g h v m nn nd
end
/-- where a suite ends, its name gone -/
def offAt (i : Nat) (D : Ends) : Ends where
  nx := fun σ H => D.nx (σ.set i none) H
  rt := D.rt
  bk := fun σ H => D.bk (σ.set i none) H
  ct := fun σ H => D.ct (σ.set i none) H
/-- the clauses of a try: except x as n (its slot), or except x -/
inductive HK (X : Cx) : List ExceptHandler → List (Value × Option Nat × (Addr → Value → Option Addr → TS)) → Prop
  | nil : HK X [] []
  | named {x n : Str} {c : Value} {i : Nat} {ts : Addr → Value → Option Addr → TS} {b0 : Stmt} {suite : List Stmt} {np pos : Pos} {hds : List ExceptHandler} {l : List (Value × Option Nat × (Addr → Value → Option Addr → TS))}
      (hc : Names X x c) (hi : X.N[i]? = some n) (hk : X.env.kindOf n = some .local) (su : ∀ (a : Addr) (cls : Value) (d : Option Addr) (pn : List (Addr × Obj)), PSs (X.suite a pn) (b0 :: suite) (ts a cls d)) (r : HK X hds l) :
      HK X (.ExceptHandler (some (.Name x np)) (some n) (b0 :: suite) pos :: hds) ((c, some i, ts) :: l)
  | bare {x : Str} {c : Value} {ts : Addr → Value → Option Addr → TS} {b0 : Stmt} {suite : List Stmt} {np pos : Pos} {hds : List ExceptHandler} {l : List (Value × Option Nat × (Addr → Value → Option Addr → TS))}
      (hc : Names X x c) (su : ∀ (a : Addr) (cls : Value) (d : Option Addr) (pn : List (Addr × Obj)), PSs (X.suite a pn) (b0 :: suite) (ts a cls d)) (r : HK X hds l) :
      HK X (.ExceptHandler (some (.Name x np)) none (b0 :: suite) pos :: hds) ((c, none, ts) :: l)
/-- what the clauses wish of an exception of the body -/
def wHK (K : PySem.W.Frag) (W : WX) (D : Ends) : List (Value × Option Nat × (Addr → Value → Option Addr → TS)) → WX
  | [] => W
  | (c, some i, ts) :: l => fun cls d σ H => ∃ b, PySem.W.exmOne K cls c = some b ∧ (b = true → ∀ a, H a = none → ts a cls d (offAt i D) (σ.set i (some (.ref a))) (upd H a (ExK cls d a))) ∧ (b = false → wHK K W D l cls d σ H)
  | (c, none, ts) :: l => fun cls d σ H => ∃ b, PySem.W.exmOne K cls c = some b ∧ (b = true → ∀ a, H a = none → ts a cls d D σ (upd H a (ExK cls d a))) ∧ (b = false → wHK K W D l cls d σ H)
section
variable {X : Cx} {W : WX} {D : Ends} {hds : List ExceptHandler} {l : List (Value × Option Nat × (Addr → Value → Option Addr → TS))}
theorem handledK (hs : X.stack = X.env :: X.outer) (hf : X.env.frame = some X.env.locals) (hN : X.N.Nodup) (tk : Takes X W) (hh : HK X hds l) :
    ∀ {pins : List (Addr × Obj)} {σ : L2.St} {H : Hp} {cls : Value} {d : Option Addr} {a : Addr} {B : Heap} {sI t : Shared}, Down X pins σ H cls d a B sI t → wHK X.K W D l cls d σ H →
      wpAny (model X.prog X.w) X.A (handleBy (.ref a) X.env hds) (SP X pins D) X.xe t := by
  induction hh with
  | nil =>
    intro pins σ H cls d a B sI t z w
    have go : wpAny (model X.prog X.w) X.A (setFlight (.ref a) X.env.frame) (fun _ s4 => wpAny (model X.prog X.w) X.A (throw (.ref a) : Sem Flow) (SP X pins D) X.xe s4) X.xe t := by
      rw [hf]
      refine HandSPX.setFlight_upZ z.fl fun h hh u => ?_
      refine wpAny_throw (tk _ _ ?_)
      exact ⟨a, B, sI, pins, σ, H, cls, d, rfl, z.inv, z.gr, z.up.trans u, .inr (.inr (hs ▸ hh)), z.na, z.so, z.ag, w⟩
    obtain ⟨_, _, _, oe, vs, T, _, _, he, _, hd, h1, _⟩ := id z.fl
    apply wpAny_handleBy_nil
    unfold PySem.passOn
    apply wpAny_bind
    apply wpAny_field he hd h1
    rw [if_neg (by simp)]
    first
      | exact wpAny_bind (wpAny_pure (wpAny_bind go))
      | exact wpAny_bind go
  | @named x n c i ts b0 suite np pos hds l hc hi hk su r ih =>
    intro pins σ H cls d a B sI t z w
    obtain ⟨b, hb, yes, no⟩ := w
    refine wpAny_handleBy_cons (codeAny_handlers_test (z.asks hc hb ?_)) fun q => by cases q
    cases b with
    | false => exact ih z (no rfl)
    | true =>
      refine codeAny_handlers_suite_as (HandSPX.lands_againZ z.fl fun h f u => ?_)
      have S := inv_suiteK ((z.again f u).kept hs hf) a
      refine store_ok (X := X.suite a (X.pn ++ pins)) (v := .ref a) S hN hi (.inl hk) rfl (fun s5 S5 => ?_) (.inr hk)
      refine wpAny_mono ((su a cls d (X.pn ++ pins)).run [] s5 _ _ _ S5 (yes rfl a z.na)) (fun fl s6 e6 => ?_) fun _ _ q => q.elim
      cases fl with
      | next => obtain ⟨σ6, H6, S6, q6⟩ := e6; exact gone_ok (inv_unsuiteK S6 z.inv.ok) hN hi hk fun s7 J7 => ⟨_, _, J7, q6⟩
      | brk => obtain ⟨σ6, H6, S6, q6⟩ := e6; exact gone_ok (inv_unsuiteK S6 z.inv.ok) hN hi hk fun s7 J7 => ⟨_, _, J7, q6⟩
      | cont => obtain ⟨σ6, H6, S6, q6⟩ := e6; exact gone_ok (inv_unsuiteK S6 z.inv.ok) hN hi hk fun s7 J7 => ⟨_, _, J7, q6⟩
      | ret u => obtain ⟨v6, σ6, H6, S6, r6, q6⟩ := e6; exact gone_ok (inv_unsuiteK S6 z.inv.ok) hN hi hk fun s7 J7 => ⟨_, _, _, J7, r6, q6⟩
  | @bare x c ts b0 suite np pos hds l hc su r ih =>
    intro pins σ H cls d a B sI t z w
    obtain ⟨b, hb, yes, no⟩ := w
    refine wpAny_handleBy_cons (codeAny_handlers_test (z.asks hc hb ?_)) fun q => by cases q
    cases b with
    | false => exact ih z (no rfl)
    | true =>
      refine codeAny_handlers_suite (HandSPX.lands_againZ z.fl fun h f u => ?_)
      have S := inv_suiteK ((z.again f u).kept hs hf) a
      refine wpAny_mono ((su a cls d (X.pn ++ pins)).run [] _ _ _ _ S (yes rfl a z.na)) (fun fl s6 e6 => ?_) fun _ _ q => q.elim
      cases fl with
      | next => obtain ⟨σ6, H6, S6, q6⟩ := e6; exact ⟨_, _, inv_unsuiteK S6 z.inv.ok, q6⟩
      | brk => obtain ⟨σ6, H6, S6, q6⟩ := e6; exact ⟨_, _, inv_unsuiteK S6 z.inv.ok, q6⟩
      | cont => obtain ⟨σ6, H6, S6, q6⟩ := e6; exact ⟨_, _, inv_unsuiteK S6 z.inv.ok, q6⟩
      | ret u => obtain ⟨v6, σ6, H6, S6, r6, q6⟩ := e6; exact ⟨_, _, _, inv_unsuiteK S6 z.inv.ok, r6, q6⟩
/-- try: body, any clauses; what is caught stays known behind the suite -/
theorem ps_tryK {body : List Stmt} {h0 : ExceptHandler} {pos : Pos} {tb : WX → TS} (hs : X.stack = X.env :: X.outer) (hf : X.env.frame = some X.env.locals) (hN : X.N.Nodup) (tk : Takes X W) (hh : HK X (h0 :: hds) l)
    (hb : ∀ (V : WX) (pn : List (Addr × Obj)) (xe : Value → Shared → Prop), Takes (X.tr pn xe) V → PassesOwn (model X.prog X.w) X.A X.env xe → PSs (X.tr pn xe) body (tb V)) :
    PS X (.Try body (h0 :: hds) [] [] pos) (fun D σ H => tb (wHK X.K W D l) D σ H) := by
  constructor
  intro pins s σ H D I h
  have fr : X.A.frames = some (X.env :: X.outer) := hs ▸ I.ok.frames
  apply wpAny_Try_except
  let xe : Value → Shared → Prop := fun e s1 => wpAny (model X.prog X.w) X.A (noteFrame e X.env) (fun _ s2 => wpAny (model X.prog X.w) X.A (setFlight e none) (fun _ s3 =>
    wpAny (model X.prog X.w) X.A (handleBy e X.env (h0 :: hds)) (SP X pins D) X.xe s3) X.xe s2) X.xe s1
  have T : Takes (X.tr (X.pn ++ pins) xe) (wHK X.K W D l) := fun u t y => by
    obtain ⟨a, B, sI, _, σ1, H1, cls, d, rfl, J, gr, up, sky, na, so, ag, w⟩ := y
    have sky1 : Sky B (X.env :: X.outer) a (Zc cls d) X.env.locals t.heap := hs ▸ sky
    exact Sky.land Zc.steady fr hf sky1 fun h3 f3 u3 => handledK hs hf hN tk hh ⟨J.ofTry I.ok, gr, up.trans u3, f3, na, so, ag⟩ w
  refine wpAny_mono ((hb (wHK X.K W D l) (X.pn ++ pins) xe T PassesOwn.looking).run [] s σ H D (I.toTry _) h) (fun f s1 e => ?_) fun _ _ q => q
  cases f with
  | next => obtain ⟨σ1, H1, J, q⟩ := e; exact wpAny_execs_nil ⟨σ1, H1, J.ofTry I.ok, q⟩
  | brk => obtain ⟨σ1, H1, J, q⟩ := e; exact ⟨σ1, H1, J.ofTry I.ok, q⟩
  | cont => obtain ⟨σ1, H1, J, q⟩ := e; exact ⟨σ1, H1, J.ofTry I.ok, q⟩
  | ret u => obtain ⟨v, σ1, H1, J, r, q⟩ := e; exact ⟨v, σ1, H1, J.ofTry I.ok, r, q⟩
end
/-- e.f of a kept exception -/
def tXk (C : Addr) (f : Str) (te : TE) : TE := fun σ H Q => te σ H fun x H1 => ∃ (a dd : Addr) (fs : List (Str × V)) (v : V), x = .ref a ∧ H1 a = some (ExK (.ref C) (some dd) a) ∧ H1 dd = some (.xd fs) ∧ fs.lookup f = some v ∧ Q v H1
theorem pe_xk {X : Cx} {C : Addr} {e : Expr} {te : TE} {pos : Pos} {n : Str} (T : XfC X.K C) (hno : PySem.W.findIn X.K (.ref C) n = some none) (he : PE X e te) (hb : attributeBase e n X.env (eval e X.env) = eval e X.env := by rfl) :
    PE X (.Attribute e n pos) (tXk C n te) := by
  constructor
  intro pins s σ H Q I h
  apply attr_of hb
  refine thn (he.run pins s σ H _ I h) ?_
  rintro u s1 ⟨x, H1, I1, rx, a, dd, fs, v, rfl, ek, ea, l, q⟩
  cases rx
  obtain ⟨oe, vs, there, ⟨zc, zd⟩, fv⟩ := exK_at I1.hok ek
  obtain ⟨mA, ns, rel⟩ : ∃ mA, s1.heap.Ns1 dd mA ∧ ∀ g, RelO (fs.lookup g) (mA g) := I1.hok dd _ ea
  obtain ⟨od, look, found⟩ := lookIn_ns ns
  have rv := rel n
  rw [l] at rv
  obtain ⟨u, mu, ru⟩ := RelO.some_of rv
  have no : PySem.W.notCls oe = true := by unfold PySem.W.notCls; rw [fv] <;> rfl
  have at_ : PySem.W.InstAt s1.heap a oe C (some od) := ⟨there, zc, no, by rw [zd]; exact look⟩
  have own := PySem.W.findObj_own (K := X.K) (C := C) (od := od) (name := n) (v := u) T.hdC hno rfl ((found n).trans (congrArg some mu))
  exact HandSPX.exc_get I1.kIn at_ T.ga T.gg T.exC own (handed_of ru) ⟨v, H1, I1.tok _, ru, q⟩
/-- a method called where an exception of it is awaited, by the slots as they stand -/
def tMethS (C : Addr) (m : Str) (sp : Sp) (E : L2.St → XK) (ta : TE) (t : TA) : TE := fun σ H Q => ta σ H fun x H1 => ∃ a dx fs, x = .ref a ∧ H1 a = some (.ins C dx fs) ∧ fs.lookup m = none ∧ t σ H1 fun vs H2 => sp (.ref a :: vs) H2 Q (E σ)
theorem pe_methS {X : Cx} {CX : CXT} {k : Nat} {f C : Addr} {fd : FuncData} {ps : List Str} {sp : Sp} {E : L2.St → XK} {m : Str} {pos apos : Pos} {e o : Expr} {es : List Expr} {ta : TE} {t : TA} {pl : Sem Bool} (he : PE X o ta) (c : Cls X.K C) (hm : Meth X.K C m f)
    (F : FnOk X.prog X.w X.K X.mg X.base CX k f fd ps sp) (hr : Room k X.A) (hb : Binds X.K fd ps []) (hx : ∀ σ, PassesAt CX X σ (E σ)) (ha : PA X (e :: es) t) (hst : starEach (e :: es) X.env = (false, eval e X.env) :: starEach es X.env := by rfl)
    (hpl : (backTo pos (starEach es X.env)).any (·.1) = false := by rfl)
    (ht : eval (.Call (.Attribute o m apos) (e :: es) [] pos) X.env = (do let ov ← eval o X.env; standAt apos.atName; let (f, first) ← holding [ov] (getMethod ov m pl); callWith pos f first (backTo pos (starEach (e :: es) X.env)) (backToKw pos (keywordEach [] X.env))) := by rfl) :
    PE X (.Call (.Attribute o m apos) (e :: es) [] pos) (tMethS C m sp E ta t) := by
  constructor
  intro pins s σ H Q I h
  refine PySem.W.methodCall_KW (pl := pl) (thn (he.run pins s σ H _ I h) ?_) ht
  rintro u s1 ⟨x, H1, I1, rx, a, dx, fs, rfl, ea, l, q⟩
  cases rx
  apply getmeth_ok I1 ea c hm l
  refine PySem.W.callWith_K (first := [.ref a]) (h₀ := X.base) I.ok.mod.kin hm.kp (thn (ha.run pos pins s1 σ H1 _ I1 q) ?_) hst hpl
  rintro us s2 ⟨vs, H2, I2, r, q2⟩
  exact ⟨I2.kIn, run_fnS (us := .ref a :: us) (vs := .ref a :: vs) F hr hb (hx σ) I2 (.cons rfl r) q2⟩
end
section
open PySem PySem.Spec PyProof.Rows L2
/-- isinstance(e, c), e a kept exception of an own class D with a dict -/
def rIsK (K : PySem.W.Frag) : List V → Hp → VK → Prop := fun xs H Q => ∃ (x D dd : Addr) (fs : List (Str × V)) (c : V) (cv : Value) (b : Bool), xs = [.ref x, c] ∧ ExcC K D ∧ H x = some (ExK (.ref D) (some dd) x) ∧ H dd = some (.xd fs) ∧ (∀ u, RelV c u → u = cv) ∧ PySem.W.kitOne K (.ref D) cv = some b ∧ Q (.bl b) H
theorem call_isK {X : Cx} : CallR X (.builtin "isinstance") (rIsK X.K) := by
  intro pins s σ H xs us Q I r h
  obtain ⟨x, D, dd, fs, c, cv, b, rfl, Z, ek, ed, hcv, e, q⟩ := h
  obtain ⟨oe, vs, there, ⟨zc, zd⟩, fv⟩ := exK_at I.hok ek
  obtain ⟨mA, ns, _⟩ : ∃ mA, s.heap.Ns1 dd mA ∧ ∀ g, RelO (fs.lookup g) (mA g) := I.hok dd _ ed
  obtain ⟨od, look, _⟩ := lookIn_ns ns
  have no : PySem.W.notCls oe = true := by unfold PySem.W.notCls; rw [fv] <;> rfl
  have at_ : PySem.W.InstAt s.heap x oe D (some od) := ⟨there, zc, no, by rw [zd]; exact look⟩
  have hcl : (PySem.W.clsIn X.K D).isSome = true := by
    obtain ⟨cd, hc, _⟩ := PySem.W.any_some Z.hd
    rw [hc]; rfl
  match us, r with
  | [_, u], .cons rx (.cons rc .nil) =>
    cases rx
    cases hcv _ rc
    exact PySem.W.kia_one (PySem.W.kitx_exc hcl Z.hg Z.hk Z.hs Z.ha Z.hn Z.ht Z.hm) I.kIn at_ e (fun z => nomatch z) fun tk => ⟨.bl b, H, I.kept (t' := tk) fun _ _ z => z, rfl, q⟩
end
namespace XB
open PySem PySem.Spec PyProof.Rows PySem.Builtin PySem.Builtin.ObjectAttr
/-- what is asked of a built-in error class that own ones stand under: B the one whose __new__ makes them, bm the line of the one they stand under -/
structure Facts (B newId initId : String) (bm : List Value) : Prop where
  base : ∃ bmB, ExcBaseFacts B newId initId bmB
  hB : bm.contains (.type B) = true
  hA : bm.contains (.type "AttributeError") = false
  hN : bm.contains (.type "NameError") = false
  free : ∀ self : Value, refuseLoop self "__setattr__" bm = pure ()
  thing : bm.contains (.type "object") = true
theorem lookupError : Facts "LookupError" "LookupError.__new__" "LookupError.__init__" [.type "LookupError", .type "Exception", .type "BaseException", .type "object"] := ⟨⟨_, PySem.F.excBase_LookupError⟩, by decide +kernel, by decide +kernel, by decide +kernel, fun _ => by kernel_rfl, by decide +kernel⟩
theorem runtimeError : Facts "RuntimeError" "RuntimeError.__new__" "RuntimeError.__init__" [.type "RuntimeError", .type "Exception", .type "BaseException", .type "object"] := ⟨⟨_, PySem.F.excBase_RuntimeError⟩, by decide +kernel, by decide +kernel, by decide +kernel, fun _ => by kernel_rfl, by decide +kernel⟩
theorem indexError : Facts "IndexError" "IndexError.__new__" "IndexError.__init__" [.type "IndexError", .type "LookupError", .type "Exception", .type "BaseException", .type "object"] := ⟨⟨_, PySem.F.excBase_IndexError⟩, by decide +kernel, by decide +kernel, by decide +kernel, fun _ => by kernel_rfl, by decide +kernel⟩
theorem valueError : Facts "ValueError" "ValueError.__new__" "ValueError.__init__" [.type "ValueError", .type "Exception", .type "BaseException", .type "object"] := ⟨⟨_, PySem.F.excBase_ValueError⟩, by decide +kernel, by decide +kernel, by decide +kernel, fun _ => by kernel_rfl, by decide +kernel⟩
/-- under an own class that stands there -/
theorem Facts.under {W : Addr} {B newId initId : String} {bm : List Value} (T : Facts B newId initId bm) : Facts B newId initId (.ref W :: bm) :=
  ⟨T.base, by rw [List.contains_cons, T.hB, Bool.or_true], by rw [List.contains_cons, T.hA]; rfl, by rw [List.contains_cons, T.hN]; rfl, fun self => by rw [refuseLoop_ref]; exact T.free self, by rw [List.contains_cons, T.thing, Bool.or_true]⟩
/-- a KeyError has no __new__ of its own -/
theorem keyError : Facts "LookupError" "LookupError.__new__" "LookupError.__init__" [.type "KeyError", .type "LookupError", .type "Exception", .type "BaseException", .type "object"] := ⟨⟨_, PySem.F.excBase_LookupError⟩, by decide +kernel, by decide +kernel, by decide +kernel, fun _ => by kernel_rfl, by decide +kernel⟩
section
variable {prog : Program} {w : World} {A : Around} {E : Value → Shared → Prop} {R : Result → Shared → Prop} {h : Heap} {g : Array GenState} {d : Drawn} {t : Nat} {os : OsState}
variable {nm q : Str} {C N : Addr} {bs bm : List Value} {hdct : Bool} {sn : List Str} {sub : List Value} {ab : Bool} {col : Option Bool} {dd : Option Addr} {k0 k1 k2 k3 k5 : Option Value} {B newId initId : String}
/-- the new one is laid by __new__ -/
theorem mk_new (T : Facts B newId initId bm) {rest : List Value} (hC : h.get? C = some (excClassObj nm q C N bs bm hdct sn sub ab col dd k0 k1 k2 k3 k5 newId)) (few : rest.length ≤ sizeLine)
    (go : R (.ok (.ret (.ref (h.objs.size + 1)))) ⟨(h.push (W.kdv_tup rest)).push (PySem.HandSPX.excO C h.objs.size), g, d, t, os⟩) : codeAny (model prog w) A (.builtin newId ⟨.ref C :: rest, []⟩) R ⟨h, g, d, t, os⟩ := by
  obtain ⟨bmB, F⟩ := T.base
  have e1 : (Value.ref C :: bm).contains (.type B) = true := by rw [List.contains_cons, T.hB, Bool.or_true]
  have e2 : (Value.ref C :: bm).contains (.type "AttributeError") = false := by rw [List.contains_cons, T.hA]; rfl
  have e3 : (Value.ref C :: bm).contains (.type "NameError") = false := by rw [List.contains_cons, T.hN]; rfl
  have e4 := F.ends
  refine codeAny_builtinAt F.entry ?_
  unfold Builtin.«BaseException.__new__»
  refine PySem.wpAt_bind (?_ : PySem.wpAt _ _ _ (stack >>= _) _ _ _)
  refine PySem.wpAt_bind (PySem.wpAt_stack fun _ _ => PySem.wpAt_of_wpAny ?_)
  wp_walk
  refine PySem.wpAt_of_wpAny (?_)
  rw [F.owner]
  repeat (first | (with_reducible refine wpAny_madeHere_exc F.canon hC ?_) | (with_reducible refine wpAny_loadPart_at hC ?_) | (with_reducible refine wpAny_isSubtype_exc hC ?_; (first | rw [e1] | rw [e2] | rw [e3])) | wp_step)
  show R _ _
  rw [Heap.size_push]
  exact go
theorem chk_new (T : Facts B newId initId bm) {rest : List Value} {Q : Unit → Shared → Prop} (hC : h.get? C = some (excClassObj nm q C N bs bm hdct sn sub ab col dd k0 k1 k2 k3 k5 newId)) (go : Q () ⟨h, g, d, t, os⟩) :
    wpAny (model prog w) A (checkBuiltinCall newId ⟨.ref C :: rest, []⟩) Q E ⟨h, g, d, t, os⟩ := by
  obtain ⟨bmB, F⟩ := T.base
  have e1 : (Value.ref C :: bm).contains (.type B) = true := by rw [List.contains_cons, T.hB, Bool.or_true]
  have e4 := F.noStar
  simp only [checkBuiltinCall, F.newRow, F.newSplit, F.newKind]
  repeat (first | refine wpAny_loadPart_at hC ?_ | (refine wpAny_isSubtype_exc hC ?_; (rw [e1])) | refine wpAny_madeBy_exc hC ?_ | refine wpAny_staticBase_exc hC ?_ | (simp only [bne_self_eq_false, Bool.false_eq_true, if_false]) | wp_step)
  exact go
theorem call_typ (T : Facts B newId initId bm) {rest : List Value} {fI : Addr} {Q : Fin → Shared → Prop} (hC : h.get? C = some (excClassObj nm q C N bs bm hdct sn sub ab col dd k0 k1 k2 k3 k5 newId)) (few : rest.length ≤ sizeLine)
    (hi : W.Looks (model prog w) h (typeLookup (.ref C) "__init__") (some (.ref fI))) (hb : ∀ self, W.Looks (model prog w) h (bindSpecial (.ref fI) self) (.ref fI, [self]))
    (go : codeAny (model prog w) A (.call (.ref fI) ⟨.ref (h.objs.size + 1) :: rest, []⟩) (fun r s' => match r with | .ok (.ret v) => v = .none ∧ Q (.done (.ret (.ref (h.objs.size + 1)))) s' | .ok _ => False | .error e => E e s') ⟨(h.push (W.kdv_tup rest)).push (PySem.HandSPX.excO C h.objs.size), g, d, t, os⟩) :
    wpAny (model prog w) A (Builtin.«type.__call__» ⟨.ref C :: rest, []⟩) Q E ⟨h, g, d, t, os⟩ := by
  obtain ⟨bmB, F⟩ := T.base
  repeat (first | (with_reducible refine wpAny_loadPart_at hC ?_) | (with_reducible refine wpAny_madeBy_exc hC ?_) | wp_step)
  refine codeAny_call_builtin_code (Code.quiet_builtin _ F.quiet) (chk_new T hC (mk_new T hC few ?_))
  show wpAny _ _ _ _ _ _
  have up : ∀ b o, h.get? b = some o → ((h.push (W.kdv_tup rest)).push (PySem.HandSPX.excO C h.objs.size)).get? b = some o := fun _ _ z => Heap.get?_push_of_some _ (Heap.get?_push_of_some _ z)
  have hC1 := up _ _ hC
  have at1 : ((h.push (W.kdv_tup rest)).push (PySem.HandSPX.excO C h.objs.size)).get? (h.objs.size + 1) = some (PySem.HandSPX.excO C h.objs.size) := by heap_get
  have e1 : (Value.ref C :: bm).contains (.ref C) = true := by simp
  have i1 := hi.keeps up
  have b1 := (hb (.ref (h.objs.size + 1))).keeps up
  unfold isInstance
  repeat (first | (with_reducible refine wpAny_loadPart_at at1 ?_) | (with_reducible refine wpAny_isSubtype_exc hC1 ?_; (rw [e1])) | wp_step)
  refine (i1.at ?_ : wpAny _ _ (typeLookup (.ref C) _) _ _ _)
  refine wpAny_holding (wpAny_bind (b1.at (wpAny_bind (wpAny_call (codeAny_mono go fun r s' z => ?_)))))
  rcases r with e | (v | _ | _ | _) <;> first | exact z.elim | exact z | skip
  obtain ⟨rfl, z⟩ := z
  first | exact wpAny_pure (wpAny_pure z) | (wp_walk; exact z)
theorem call_cls (T : Facts B newId initId bm) {rest : List Value} {fI : Addr} (hC : h.get? C = some (excClassObj nm q C N bs bm hdct sn sub ab col dd k0 k1 k2 k3 k5 newId))
    (hi : W.Looks (model prog w) h (typeLookup (.ref C) "__init__") (some (.ref fI))) (hb : ∀ self, W.Looks (model prog w) h (bindSpecial (.ref fI) self) (.ref fI, [self])) (few : rest.length ≤ sizeLine)
    (go : codeAny (model prog w) (A.under (.builtin "type.__call__" ⟨.ref C :: rest, []⟩)) (.call (.ref fI) ⟨.ref (h.objs.size + 1) :: rest, []⟩) (W.InitBack (h.objs.size + 1) R) ⟨(h.push (W.kdv_tup rest)).push (PySem.HandSPX.excO C h.objs.size), g, d, t, os⟩) :
    codeAny (model prog w) A (.call (.ref C) ⟨rest, []⟩) R ⟨h, g, d, t, os⟩ := by
  have z1 := tc_lookup
  have z2 := tc_bind (.ref C)
  have z3 : (⟨h, g, d, t, os⟩ : Shared).TypeIs (.ref C) "type" := ⟨_, hC, rfl⟩
  refine codeAny_of_tree (?_ : wpAny _ _ (callAny (.ref C) _) _ _ _)
  repeat (any_goals (first | assumption | (with_reducible refine wpAny_loadPart_at hC ?_) | wp_step))
  refine ⟨rfl, codeAny_call_builtin_at (Code.quiet_builtin _ (by decide +kernel)) entry_typeCall (wpAny_check_type_call_sub hC (call_typ T hC few hi hb ?_))⟩
  refine codeAny_mono go fun r s' z => ?_
  rcases r with e | (v | _ | _ | _) <;> exact z
end
/-- the first field of a new error, whatever built-in class its own class stands under -/
theorem first_field {prog : Program} {w : World} {A : Around} {R : Result → Shared → Prop} {h : Heap} {g : Array GenState} {d : Drawn} {t : Nat} {os : OsState} {K : W.Frag} {name : Str} {tk : Tok} {v : Value} {x C : Addr} {fv : Array Value} {cd : ClassData}
    (X : K.In h) (hx : h.get? x = some { cls := .ref C, data := .fields fv }) (hcd : W.clsIn K C = some cd) (some_ : cd.mro.isEmpty = false) (thing : cd.mro.contains (.type "object") = true) (free : ∀ self : Value, refuseLoop self "__setattr__" cd.mro = pure ())
    (own : cd.hasDict = true) (no : W.findIn K (.ref C) name = some none)
    (q : ∀ h' tk' dx, (∀ b o, b ≠ x → h.get? b = some o → h'.get? b = some o) → h.objs.size ≤ dx → dx ≠ x → h'.get? x = some { cls := .ref C, dict := some dx, data := .fields fv } → h'.Ns1 dx (fun y => if y = name then some v else none) → R (.ok (.ret .none)) ⟨h', g, d, tk', os⟩) :
    codeAny (model prog w) A (.call (.builtin "object.__setattr__") ⟨[.ref x, .str name tk, v], []⟩) R ⟨h, g, d, t, os⟩ := by
  have at_ : W.InstAt h x { cls := .ref C, data := .fields fv } C none := ⟨hx, rfl, rfl, trivial⟩
  have apart : x ≠ h.objs.size := Nat.ne_of_lt (Heap.lt_size hx)
  have class_ : W.Looks (model prog w) h (classData C) cd := W.looks_clsIn X hcd
  have line_ : W.Looks (model prog w) h (mroOf (.ref C)) cd.mro := class_.andThen .now
  have under : W.Looks (model prog w) h (isInstance (.ref x) (.type "object")) true := at_.type.andThen (W.looks_mroIn X (by unfold W.mroIn; rw [hcd, Option.bind_some, if_neg (by rw [some_]; decide), thing]))
  have st := PySem.F.store_object
  refine codeAny_call_builtin st.slot.plain st.entry (@W.check_slot (model prog w) _ _ ⟨h, g, d, t, os⟩ "object.__setattr__" "object" "__setattr__" (.ref x) [.str name tk, v] [] _ st.kind st.split under (st.args (.ref x) (.str name tk) v) ?_)
  have none_ : W.Looks (model prog w) h (storeTaker? none) none := .now
  rw [W.osa_eq, refuse_eq]
  refine wpAny_bind (wpAny_bind (at_.type.at (wpAny_bind (line_.at ?_))))
  rw [free]
  refine wpAny_pure ?_
  refine wpAny_bind (at_.type.at (wpAny_bind ((W.looks_findIn X no).at (wpAny_bind (none_.at ?_)))))
  show wpAny _ _ (storeInOwnDict (.ref x) (.ref C) (.str name tk) name v false) _ _ _
  cases cd
  cases own
  unfold storeInOwnDict ownDictForStores
  repeat (first | with_reducible refine PySem.HandSPX.store_in_new ?_ ?_ | with_reducible refine wpAny_loadPart_at hx ?_ | with_reducible refine class_.at ?_ | wp_step)
  · exact ⟨_, #[], _, (Heap.get?_update_ne _ _ _ _ apart.symm).trans (Heap.get?_push_at rfl rfl), rfl, fun e he => absurd he (by simp), fun _ => rfl⟩
  · intro h' tk' new only
    have hx1 : (h.push { cls := .type "dict", data := .dict #[] }).get? x = some { cls := .ref C, data := .fields fv } := Heap.get?_push_of_some _ hx
    exact q h' tk' h.objs.size (fun b o nb ob => (only.2 b (Nat.ne_of_lt (Heap.lt_size ob))).trans ((Heap.get?_update_ne _ _ _ _ nb).trans (Heap.get?_push_of_some _ ob))) (Nat.le_refl _) apart.symm ((only.2 x apart).trans (Heap.get?_update_self _ hx1 rfl)) new

open L2
/-- what the written part says of an own error class that stands straight under a built-in one -/
structure Own (K : PySem.W.Frag) (C : Addr) (B newId initId : String) (bm : List Value) : Prop where
  fx : Facts B newId initId bm
  cls : ∃ nm q N bs sn sub ab col dd k0 k1 k2 k3 k5, K.lookup C = some (excClassObj nm q C N bs bm true sn sub ab col dd k0 k1 k2 k3 k5 newId)
  sa : PySem.W.findIn K (.ref C) "__setattr__" = some (some (.builtin "object.__setattr__"))
  exC : PySem.W.subIn K (.ref C) (.type "BaseException") = some true
  tyC : PySem.W.typeIn K (.ref C) = some (.type "type")
  kC : PySem.W.keepIn K (.ref C) = true
section
variable {X : Cx} {pins : List (Addr × Obj)} {σ : L2.St} {H : Hp} {s : Shared} {a C : Addr} {f : Str} {y : V} {u : Value} {Q : Unit → Shared → Prop} {E : Value → Shared → Prop} {A : Around} {B newId initId : String} {bm : List Value}
/-- self.f = y of a new error that has no field yet -/
theorem put_first (T : Own X.K C B newId initId bm) (I : Inv X pins σ H s) (e : H a = some (exo a C none)) (no : PySem.W.findIn X.K (.ref C) f = some none) (ry : RelV y u)
    (q : ∀ dx s', H dx = none → dx ≠ a → Inv X pins σ (upd (upd H dx (exd dx [(f, y)])) a (exo a C (some dx))) s' → Q () s') : wpAny (model X.prog X.w) A (setAttr (.ref a) f u) Q E s := by
  obtain ⟨nm, qn, N, bs, sn, sub, ab, col, dd, k0, k1, k2, k3, k5, hC⟩ := T.cls
  have cl : PySem.W.clsIn X.K C = some { name := nm, bases := bs, mro := .ref C :: bm, ns := N, qualname := qn, hasDict := true, slotNames := sn, subclasses := sub, abstract := ab, collection := col, hasDel := false } := by
    unfold PySem.W.clsIn
    rw [hC] <;> rfl
  obtain ⟨t1, there⟩ := exo_at I.hok e
  obtain ⟨h, g, d, t, os⟩ := s
  refine PySem.W.set_plain I.kIn (ox := { cls := .ref C, dict := none, data := .fields #[.ref t1, .none, .none, .none, .bool false, .none] }) (od := none) ⟨there, rfl, rfl, trivial⟩ T.sa ?_
  refine first_field I.kIn there cl rfl (by show (Value.ref C :: bm).contains _ = true; rw [List.contains_cons, T.fx.thing, Bool.or_true]) (fun self => by show refuseLoop self _ (.ref C :: bm) = _; rw [refuseLoop_ref]; exact T.fx.free self) rfl no ?_
  intro h' tk' dx keep new na here ns
  have fresh : H dx = none := I.hok.fresh new
  have off : ∀ {b : Addr} {o : Obj}, h.get? b = some o → b ≠ dx := fun z => Nat.ne_of_lt (Nat.lt_of_lt_of_le (Heap.lt_size z) new)
  have other : ∀ {b : Addr}, H b = none → b ≠ a := fun n z => by
    rw [z, e] at n
    cases n
  have two : ∀ {b : Addr}, b ≠ a → b ≠ dx → (upd (upd H dx (exd dx [(f, y)])) a (exo a C (some dx))) b = H b := fun n1 n2 => by rw [upd_ne n1, upd_ne n2]
  refine q dx _ fresh na (I.un (t' := tk') ⟨fun b o z n _ _ => keep b o (other n) z, fun b o z n _ _ => ⟨o.slots, keep b o (other n) z⟩, fun b o z n _ => by rw [two (other n) (off z)]; exact n, fun b o z _ => ?_,
    fun b xs z => by rw [two (at_ne e z exo_tup) (ne_of_none z fresh)]; exact z, fun b o v z => by rw [two (at_ne e z exo_frz) (ne_of_none z fresh)]; exact z, fun b ps z => ⟨#[], by rw [two (at_ne e z exo_tbl) (ne_of_none z fresh), z]; simp⟩⟩ fun b o z => ?_)
  · by_cases c : b = a
    · exact ⟨_, by rw [c]; exact here⟩
    · exact ⟨o, keep b o c z⟩
  · by_cases c : b = a
    · subst c
      rw [upd_same] at z
      cases z
      exact exo_ok here
    · by_cases c2 : b = dx
      · subst c2
        rw [upd_ne c, upd_same] at z
        cases z
        exact exd_ok ns (relO_put (fs := []) ry fun g => True.intro)
      · rw [two c c2] at z
        refine (I.hok b o z).stay (fun b' v hb z' => keep b' v ?_ z') (fun b' hb => by rw [two (at_ne e hb exo_own) (ne_of_none hb fresh)]; exact hb) (fun b' xs hb => by rw [two (at_ne e hb exo_tup) (ne_of_none hb fresh)]; exact hb)
        rcases hb with hb | hb
        · rw [hb]
          exact c
        · exact at_ne e hb exo_own
end
/-- self.f = e in the own __init__, the first one -/
def tPut (K : PySem.W.Frag) (C : Addr) (f : Str) (to te : TE) : TS := fun D σ H => te σ H fun y H1 => to σ H1 fun x H2 => ∃ a : Addr, x = .ref a ∧ H2 a = some (exo a C none) ∧ ∀ dx, H2 dx = none → dx ≠ a → D.nx σ (upd (upd H2 dx (exd dx [(f, y)])) a (exo a C (some dx)))
section
variable {X : Cx} {C : Addr} {B newId initId : String} {bm : List Value} {o e : Expr} {es : List Expr} {to te : TE} {ta : TA} {f : Str} {p p' pos : Pos}
theorem ps_put (T : Own X.K C B newId initId bm) (no : PySem.W.findIn X.K (.ref C) f = some none) (ho : PE X o to) (he : PE X e te) (hs : swapsWith e (some (.Attribute o f p')) pos.line X.env = pure false := by rfl) : PS X (.Assign [.Attribute o f p'] e pos) (tPut X.K C f to te) := by
  constructor
  intro pins s σ H D I h
  refine plainObj_wpAny_Assign_Attribute (thn (he.run pins s σ H _ I h) ?_) hs
  rintro v s1 ⟨y, H1, I1, r1, q1⟩
  refine thn (ho.run pins s1 σ H1 _ I1 q1) ?_
  rintro u s2 ⟨x, H2, I2, r2, a, rfl, ea, q⟩
  cases r2
  exact put_first T I2 ea no r1 fun dx s' n ne J => ⟨σ, _, J, q dx n ne⟩
/-- C(e, ..) of such a class, to be raised -/
theorem pmk {CX : CXT} {x : Str} {fI : Addr} {k : Nat} {fd : FuncData} {ps : List Str} {sp : Sp} (T : Own X.K C B newId initId bm) (iC : PySem.W.findIn X.K (.ref C) "__init__" = some (some (.ref fI))) (tI : PySem.W.typeIn X.K (.ref fI) = some (.type "function"))
    (F1 : FnOk X.prog X.w X.K X.mg X.base CX k fI fd ps sp) (hr : Room (k + 1) X.A) (hb : Binds X.K fd ps []) (hx : Passes CX X (fun _ _ _ => False)) (hg : Gl X x) (hm : X.mg x = some (.ref C)) (ha : PA X (e :: es) ta)
    (hdb : (x == ("__debug__" : Str)) = false := by decide) (he : starEach (e :: es) X.env = (false, eval e X.env) :: starEach es X.env := by rfl) (hpl : (backTo pos (starEach es X.env)).any (·.1) = false := by rfl) :
    PMk X (.Call (.Name x p) (e :: es) [] pos) (tMkO C sp [] ta) := by
  intro pins s σ H Q I h
  obtain ⟨nm, qn, N, bs, sn, sub, ab, col, dd, k0, k1, k2, k3, k5, hC⟩ := T.cls
  refine wpAny_Call_Name_kw (ld_glob I hg hm ?_ hdb)
  refine PySem.W.callWith_K (h₀ := X.base) I.ok.mod.kin T.kC (thn (ha.run pos pins s σ H _ I h) ?_) he hpl
  rintro us ⟨hp, g, dr, tk, os⟩ ⟨vs, H1, I1, r1, hz, q1⟩
  refine ⟨I1.kIn, ?_⟩
  have new : hp.objs.size ≤ hp.objs.size + 1 := Nat.le_succ _
  have hq := q1 (hp.objs.size + 1) (I1.hok.fresh new)
  have grow : ∀ b o, hp.get? b = some o → ((hp.push (PySem.W.kdv_tup us)).push (PySem.HandSPX.excO C hp.objs.size)).get? b = some o := fun b o z => Heap.get?_push_of_some _ (Heap.get?_push_of_some _ z)
  have there : ((hp.push (PySem.W.kdv_tup us)).push (PySem.HandSPX.excO C hp.objs.size)).get? (hp.objs.size + 1) = some (PySem.HandSPX.excO C hp.objs.size) := by heap_get
  have I2 := I1.laid (t' := tk) (a := hp.objs.size + 1) (o := exo (hp.objs.size + 1) C none) (h' := (hp.push (PySem.W.kdv_tup us)).push (PySem.HandSPX.excO C hp.objs.size)) grow new (exo_ok there)
  rw [List.append_nil] at hq
  have r2 : Vals (V.ref (hp.objs.size + 1) :: vs) (Value.ref (hp.objs.size + 1) :: us) := .cons rfl r1
  have len : (Value.ref (hp.objs.size + 1) :: us ++ []).length = ps.length := by
    have z := r2.length
    rw [F1.len _ _ _ _ hq] at z
    rw [List.append_nil]
    exact z.symm
  have few : us.length ≤ sizeLine := by
    rw [← Paired.length r1, sizeLine_eq]
    omega
  have bd := hb _ (Value.ref (hp.objs.size + 1) :: us) I2.kIn len
  rw [List.append_nil] at bd
  refine wpAny_call (call_cls T.fx (I1.kIn _ _ hC) (PySem.W.looks_findIn I1.kIn iC) (fun self => PySem.W.bind_fn I1.kIn self tI) few
    (codeAny_mono (F1.run _ X.stack _ _ ⟨Value.ref (hp.objs.size + 1) :: us, []⟩ (Value.ref (hp.objs.size + 1) :: us) _ _ (fun _ _ _ => False) (hr.make C us []) (I2.env0.make C us []) bd r2 hq) fun r s' z => ?_))
  cases r with
  | error er => exact hx pins σ _ _ er s' I2 z
  | ok fl =>
    cases fl with
    | ret u =>
      obtain ⟨v, H2, os2, bare2, un2, hok2, rv, ev, d, fs, ea, ed, hd1, q2⟩ := z
      cases ev
      obtain ⟨h2, g2, d2, t2, os'⟩ := s'
      exact ⟨rv, mk_end (raises_own T.exC T.tyC) I1 new grow un2 hok2 os2 bare2 ea ed hd1 q2⟩
    | next => exact z.elim
    | brk => exact z.elim
    | cont => exact z.elim
end
end XB
section
open PySem PySem.Spec PyProof.Rows L2
theorem countP_vals {y : V} : ∀ {ys : List V} {us : List Value}, Vals ys us → ys.all flatV = true → us.countP (eqU y) = ys.countP (fun z => eqV z y)
  | _, _, .nil, _ => rfl
  | z :: ys, u :: us, .cons r t, f => by
    rw [List.all_cons, Bool.and_eq_true] at f
    rw [List.countP_cons, List.countP_cons, countP_vals t f.2, eqU_of r f.1]
/-- xs.count(y) of flat values -/
def rCntF (K : PySem.W.Frag) : V → List V → Hp → VK → Prop := fun x xs H Q => ∃ (a : Addr) (ys : List V) (y : V), x = V.ref a ∧ xs = [y] ∧ SqL K H a ys ∧ flatV y = true ∧ ys.all flatV = true ∧ Q (.int ((ys.countP (fun z => eqV z y) : Nat) : Int)) H
theorem mt_lcountF {X : Cx} : MtR X "list.count" (rCntF X.K) := by
  intro pins s σ H x xs v us Q I rx rxs h
  obtain ⟨a, ys, y, rfl, rfl, hs, fy, fys, q⟩ := h
  cases rx
  obtain ⟨uy, rfl, ry⟩ := rxs.one
  obtain ⟨its, rv, ⟨⟨cls, dd, data, sl⟩, n, ho, hc, hdn, hd⟩, hlen⟩ := I.list hs
  simp only at hc hd
  subst hc hd
  refine call_meets PySem.F.slot_list_count ⟨_, ho, rfl⟩ PySem.F.entry_list_count (PySem.F.args_list_count_2 _ _) (SeqAt.list_countAt a its.toArray n dd sl uy (eqU y)) ⟨ho, (fun u' hu' => mem_eqAt ry fy rv fys u' (by simpa using hu')), ?_⟩
  have ec : its.toArray.toList.countP (eqU y) = ys.countP (fun z => eqV z y) := countP_vals rv fys
  refine ⟨.int ((ys.countP (fun z => eqV z y) : Nat) : Int), H, I.tok _, ⟨s.toks, ?_⟩, q⟩
  show Value.int ((its.toArray.toList.countP (eqU y) : Nat) : Int) s.toks = _
  rw [ec]
end
section
open PySem PySem.Spec PyProof.Rows L2
variable {X : Cx} {CX : CXT} {k : Nat} {f C : Addr} {fd : FuncData} {ps : List Str} {sp : Sp} {E : L2.St → XK} {x m : Str} {p pos apos : Pos} {e o : Expr} {es : List Expr} {ta : TE} {t : TA}
/-- C(..) whose __init__ may raise, where a clause of a try reads slots -/
def tMakeS (C : Addr) (sp : Sp) (E : L2.St → XK) (t : TA) : TE := fun σ H Q => t σ H fun vs H1 => ∀ x dx, H1 x = none → H1 dx = none → dx ≠ x → sp (.ref x :: vs) (upd (upd H1 dx (.own x)) x (.ins C dx [])) (fun v H2 => v = .non ∧ Q (.ref x) H2) (E σ)
theorem run_makeS {pins : List (Addr × Obj)} {σ : L2.St} {H : Hp} {s : Shared} {Q : VK} {us : List Value} {vs : List V} {E : XK} (mq : Mk X.K C f) (F : FnOk X.prog X.w X.K X.mg X.base CX k f fd ps sp) (hr : Room (k + 1) X.A) (hb : Binds X.K fd ps []) (hx : PassesAt CX X σ E) (I : Inv X pins σ H s) (r : Vals vs us)
    (h : ∀ x dx, H x = none → H dx = none → dx ≠ x → sp (.ref x :: vs) (upd (upd H dx (.own x)) x (.ins C dx [])) (fun v H2 => v = .non ∧ Q (.ref x) H2) E) : wpAny (model X.prog X.w) X.A (call (.ref C) us) (EP X pins σ Q) X.xe s := by
  have hq := h (s.heap.objs.size + 1) s.heap.objs.size (I.hok.fresh (Nat.le_succ _)) (I.hok.fresh (Nat.le_refl _)) (Nat.ne_of_lt (Nat.lt_succ_self _))
  have J := Inv.made (C := C) I
  have r2 : Vals (V.ref (s.heap.objs.size + 1) :: vs) (Value.ref (s.heap.objs.size + 1) :: us) := .cons rfl r
  have hl : (Value.ref (s.heap.objs.size + 1) :: us ++ []).length = ps.length := by rw [List.append_nil, ← r2.length]; exact F.len _ _ _ _ hq
  have b := hb _ (Value.ref (s.heap.objs.size + 1) :: us) J.kIn hl
  rw [List.append_nil] at b
  refine wpAny_call (make_map (f := f) I.kIn mq.makes mq.init (beq_iff_eq.mp mq.fn) (codeAny_mono (F.run _ X.stack _ _ ⟨Value.ref (s.heap.objs.size + 1) :: us, []⟩ _ _ _ E (hr.make C us []) (J.env0.make C us []) b r2 hq) fun res s' z => ?_))
  cases res with
  | error er => exact hx pins _ _ er s' J z
  | ok fl =>
    cases fl with
    | ret u =>
      obtain ⟨v, H', I3, rv, rfl, q3⟩ := J.after z
      exact ⟨rv, V.ref (s.heap.objs.size + 1), H', I3, rfl, q3⟩
    | _ => exact z.elim
theorem pe_makeS (mq : Mk X.K C f) (F : FnOk X.prog X.w X.K X.mg X.base CX k f fd ps sp) (hr : Room (k + 1) X.A) (hg : Gl X x) (hm : X.mg x = some (.ref C)) (hb : Binds X.K fd ps []) (hx : ∀ σ, PassesAt CX X σ (E σ)) (ha : PA X (e :: es) t)
    (hdb : (x == ("__debug__" : Str)) = false := by decide) (he : starEach (e :: es) X.env = (false, eval e X.env) :: starEach es X.env := by rfl) (hpl : (backTo pos (starEach es X.env)).any (·.1) = false := by rfl) : PE X (.Call (.Name x p) (e :: es) [] pos) (tMakeS C sp E t) := by
  constructor
  intro pins s σ H Q I h
  refine wpAny_Call_Name_kw (ld_glob I hg hm (PySem.W.callWith_K (h₀ := X.base) I.ok.mod.kin mq.kp (thn (ha.run pos pins s σ H _ I h) ?_) he hpl) hdb)
  rintro us s1 ⟨vs, H1, I1, r, q⟩
  exact ⟨I1.kIn, run_makeS mq F hr hb (hx σ) I1 r q⟩
/-- o.m() that may raise, likewise -/
theorem pe_methS0 {pl : Sem Bool} (he : PE X o ta) (c : Cls X.K C) (hm : Meth X.K C m f) (F : FnOk X.prog X.w X.K X.mg X.base CX k f fd ps sp) (hr : Room k X.A) (hb : Binds X.K fd ps []) (hx : ∀ σ, PassesAt CX X σ (E σ))
    (ht : eval (.Call (.Attribute o m apos) [] [] pos) X.env = (do let ov ← eval o X.env; standAt apos.atName; let (f, first) ← holding [ov] (getMethod ov m pl); callWith pos f first (backTo pos (starEach [] X.env)) (backToKw pos (keywordEach [] X.env))) := by rfl) :
    PE X (.Call (.Attribute o m apos) [] [] pos) (tMethS C m sp E ta tNil) := by
  constructor
  intro pins s σ H Q I h
  refine PySem.W.methodCall_KW (pl := pl) (thn (he.run pins s σ H _ I h) ?_) ht
  rintro u s1 ⟨x, H1, I1, rx, a, dx, fs, rfl, ea, l, q⟩
  cases rx
  refine getmeth_ok I1 ea c hm l (PySem.W.callWith_K0 (first := [.ref a]) I1.kIn hm.kp ?_)
  exact run_fnS (us := [.ref a]) (vs := [.ref a]) F hr hb (hx σ) I1 (.cons rfl .nil) q
end
section
open PySem PySem.Spec PyProof.Rows L2
variable {X : Cx} {pins : List (Addr × Obj)} {σ : L2.St} {H : Hp} {s : Shared}
def leafD : PyData → Bool
  | .none => true
  | .bool _ => true
  | .int _ => true
  | .str _ => true
  | _ => false
theorem An.reads (I : Inv X pins σ H s) {v : V} {d : PyData} {u : Value} (h : An X.K H v d) (r : RelV v u) : ∃ as, Reads s.heap u d as ∧ (d.hasDict = true → sysModules ∉ as) ∧ (leafD d = true → as = []) := by
  cases h with
  | dict e =>
    cases r
    obtain ⟨hz, hS, vs, r, o, es, ep, h1, h2, h3, h4⟩ := (show ObjOk X.prog X.w H s.heap _ (.dK []) from I.hok _ _ e)
    cases r
    have hes : es.toList = [] := by
      have z := h4.2.1
      generalize es.toList = l at z
      cases z
      rfl
    refine ⟨_, Reads.dict (kvs := []) (as := []) (bs := []) h1 h2.1 h3 (by rw [hes]; exact .nil) (by rw [hes]; exact .nil), fun _ z => ?_, fun z => by cases z⟩
    simp at z
    simp [z] at hS
  | dp h =>
    have nd := dp_nodict h
    cases h with
    | non => cases r; exact ⟨_, .none, (fun z => by cases z), fun _ => rfl⟩
    | bl b => cases r; exact ⟨_, .bool b, (fun z => by cases z), fun _ => rfl⟩
    | int i => obtain ⟨t, rfl⟩ := r; exact ⟨_, .int i t, (fun z => by cases z), fun _ => rfl⟩
    | str x => obtain ⟨t, rfl⟩ := r; exact ⟨_, .str x t, (fun z => by cases z), fun _ => rfl⟩
    | lst h hs =>
      obtain ⟨as, rd⟩ := Dp.reads I _ _ _ (.lst h hs) r
      exact ⟨as, rd, (fun z => by rw [nd] at z; cases z), fun z => by cases z⟩
    | tup h hs =>
      obtain ⟨as, rd⟩ := Dp.reads I _ _ _ (.tup h hs) r
      exact ⟨as, rd, (fun z => by rw [nd] at z; cases z), fun z => by cases z⟩
/-- two things that can stand in one tuple that is shown -/
def Beside (d e : PyData) : Prop := (d.hasDict = true → e.hasDict = true ∨ leafD e = true) ∧ (e.hasDict = true → d.hasDict = true ∨ leafD d = true)
/-- repr of a tuple of two -/
theorem call_reprP (gd : X.A.guards = some []) (hu : X.A.units + 66 < cLine) : CallR X (.builtin "repr") (fun xs H Q => ∃ (p : Addr) (v w : V) (d e : PyData), xs = [.ref p] ∧ SqT X.K H p [v, w] ∧ An X.K H v d ∧ An X.K H w e ∧ Beside d e ∧ (PyData.tuple [d, e]).showable = true ∧ (PyData.tuple [d, e]).depth ≤ 64 ∧ (PyData.tuple [d, e]).shown.length ≤ sizeLine ∧ Q (.str (PyData.tuple [d, e]).shown) H) := by
  intro pins s σ H xs us Q I r h
  obtain ⟨p, v, w, d, e, rfl, hs, hv, hw, hb, sh, dp, sz, q⟩ := h
  rw [Vals.ref1 r]
  obtain ⟨its, rv, ⟨o, ho, hc, n, hd⟩, _⟩ := I.tuple hs
  cases rv with
  | cons r1 rv =>
  cases rv with
  | cons r2 rv =>
  cases rv
  obtain ⟨as, a1, a2, a3⟩ := hv.reads I r1
  obtain ⟨bs, b1, b2, b3⟩ := hw.reads I r2
  have rd : Reads s.heap (.ref p) (.tuple [d, e]) (as ++ (bs ++ [])) := Reads.tuple ho hc hd (.cons a1 (.cons b1 .nil))
  refine repr_of_reads' rd sh (fun z m => ?_) gd (by omega) (fun _ _ z => z) (fun h' u tk z => ⟨.str _, H, I.kept z, ⟨_, rfl⟩, q⟩) sz
  simp only [PyData.hasDict, PyData.hasDictAll, Bool.or_false, Bool.or_eq_true] at z
  rw [List.append_nil] at m
  have key : (d.hasDict = true ∨ leafD d = true) ∧ (e.hasDict = true ∨ leafD e = true) := by
    rcases z with z | z
    · exact ⟨.inl z, hb.1 z⟩
    · exact ⟨hb.2 z, .inl z⟩
  rcases List.mem_append.mp m with m | m
  · rcases key.1 with k | k
    · exact a2 k m
    · rw [a3 k] at m
      cases m
  · rcases key.2 with k | k
    · exact b2 k m
    · rw [b3 k] at m
      cases m
end
abbrev s_IWaitError : Stmt := inClass (PySem.Challenge.pw_stampedwait_k08_clocks_refused.main.body.getD 2 (.Pass ⟨0, 0, 0, 0⟩)) 0
theorem sc_IWaitError : FnScope ["self", "text"] ["self", "text"] (defScope s_IWaitError) := ⟨rfl, rfl, rfl, by decide +kernel, rfl, by decide +kernel, by decide +kernel⟩
abbrev s_INoBounds : Stmt := inClass (PySem.Challenge.pw_stampedwait_k08_clocks_refused.main.body.getD 3 (.Pass ⟨0, 0, 0, 0⟩)) 0
theorem sc_INoBounds : FnScope ["self", "low", "high"] ["self", "low", "high"] (defScope s_INoBounds) := ⟨rfl, rfl, rfl, by decide +kernel, rfl, by decide +kernel, by decide +kernel⟩
abbrev s_IUnset : Stmt := inClass (PySem.Challenge.pw_stampedwait_k08_clocks_refused.main.body.getD 7 (.Pass ⟨0, 0, 0, 0⟩)) 0
theorem sc_IUnset : FnScope ["self", "text"] ["self", "text"] (defScope s_IUnset) := ⟨rfl, rfl, rfl, by decide +kernel, rfl, by decide +kernel, by decide +kernel⟩

def top (i : Nat) : Stmt := PySem.Challenge.pw_stampedwait_k08_clocks_refused.main.body.getD i (.Pass ⟨0, 0, 0, 0⟩)
abbrev s_is_whole : Stmt := top 11
abbrev s_is_count : Stmt := top 12
abbrev s_is_from_to : Stmt := top 13
abbrev s_common_divisor : Stmt := top 14
abbrev s_is_share : Stmt := top 15
abbrev s_is_drift : Stmt := top 16
abbrev s_refuse_no_count : Stmt := top 17
abbrev s_least_of : Stmt := top 18
abbrev s_most_of : Stmt := top 19
abbrev s_Clock___init__ : Stmt := inClass (top 24) 0
abbrev s_Clock_is_set : Stmt := inClass (top 24) 2
abbrev s_Clock_set_to : Stmt := inClass (top 24) 3
abbrev s_Clock_tick : Stmt := inClass (top 24) 4
abbrev s_Clock_bounds : Stmt := inClass (top 24) 5
abbrev s_Clock_is_past : Stmt := inClass (top 24) 6
abbrev s_Clock_is_ahead : Stmt := inClass (top 24) 7
abbrev s_l_bag : Stmt := top 26
abbrev s_l_out : Stmt := top 27
abbrev s_l_drift : Stmt := top 28
abbrev s_l_kind : Stmt := top 29
abbrev s_l_made : Stmt := top 30
abbrev s_l_set : Stmt := top 31
abbrev s_l_ticked : Stmt := top 32
abbrev s_l_unset : Stmt := top 33
abbrev s_l_no_bounds : Stmt := top 34
abbrev s_law : Stmt := top 35
abbrev s_bounds_behind : Stmt := top 22
abbrev s_set_between : Stmt := top 23
theorem sc_is_whole : FnScope ["thing"] ["thing"] (defScope s_is_whole) := ⟨rfl, rfl, rfl, by decide +kernel, rfl, by decide +kernel, by decide +kernel⟩
theorem sc_is_count : FnScope ["thing"] ["thing"] (defScope s_is_count) := ⟨rfl, rfl, rfl, by decide +kernel, rfl, by decide +kernel, by decide +kernel⟩
theorem sc_is_from_to : FnScope ["thing", "least", "most"] ["thing", "least", "most"] (defScope s_is_from_to) := ⟨rfl, rfl, rfl, by decide +kernel, rfl, by decide +kernel, by decide +kernel⟩
theorem sc_common_divisor : FnScope ["first", "second"] ["first", "second"] (defScope s_common_divisor) := ⟨rfl, rfl, rfl, by decide +kernel, rfl, by decide +kernel, by decide +kernel⟩
theorem sc_is_share : FnScope ["thing", "top", "bottom"] ["thing"] (defScope s_is_share) := ⟨rfl, rfl, rfl, by decide +kernel, rfl, by decide +kernel, by decide +kernel⟩
theorem sc_is_drift : FnScope ["thing"] ["thing"] (defScope s_is_drift) := ⟨rfl, rfl, rfl, by decide +kernel, rfl, by decide +kernel, by decide +kernel⟩
theorem sc_refuse_no_count : FnScope ["thing"] ["thing"] (defScope s_refuse_no_count) := ⟨rfl, rfl, rfl, by decide +kernel, rfl, by decide +kernel, by decide +kernel⟩
theorem sc_least_of : FnScope ["ticks", "drift", "top", "bottom"] ["ticks", "drift"] (defScope s_least_of) := ⟨rfl, rfl, rfl, by decide +kernel, rfl, by decide +kernel, by decide +kernel⟩
theorem sc_most_of : FnScope ["ticks", "drift", "top", "bottom"] ["ticks", "drift"] (defScope s_most_of) := ⟨rfl, rfl, rfl, by decide +kernel, rfl, by decide +kernel, by decide +kernel⟩
theorem sc_Clock___init__ : FnScope ["self", "drift"] ["self", "drift"] (defScope s_Clock___init__) := ⟨rfl, rfl, rfl, by decide +kernel, rfl, by decide +kernel, by decide +kernel⟩
theorem sc_Clock_is_set : FnScope ["self"] ["self"] (defScope s_Clock_is_set) := ⟨rfl, rfl, rfl, by decide +kernel, rfl, by decide +kernel, by decide +kernel⟩
theorem sc_Clock_set_to : FnScope ["self", "low", "high", "told"] ["self", "low", "high"] (defScope s_Clock_set_to) := ⟨rfl, rfl, rfl, by decide +kernel, rfl, by decide +kernel, by decide +kernel⟩
theorem sc_Clock_tick : FnScope ["self", "many"] ["self", "many"] (defScope s_Clock_tick) := ⟨rfl, rfl, rfl, by decide +kernel, rfl, by decide +kernel, by decide +kernel⟩
theorem sc_Clock_bounds : FnScope ["self"] ["self"] (defScope s_Clock_bounds) := ⟨rfl, rfl, rfl, by decide +kernel, rfl, by decide +kernel, by decide +kernel⟩
theorem sc_Clock_is_past : FnScope ["self", "time"] ["self", "time"] (defScope s_Clock_is_past) := ⟨rfl, rfl, rfl, by decide +kernel, rfl, by decide +kernel, by decide +kernel⟩
theorem sc_Clock_is_ahead : FnScope ["self", "time"] ["self", "time"] (defScope s_Clock_is_ahead) := ⟨rfl, rfl, rfl, by decide +kernel, rfl, by decide +kernel, by decide +kernel⟩
theorem sc_l_bag : FnScope ["_law_script", "_law_k", "_law_cell", "_law_great"] ["_law_script", "_law_k"] (defScope s_l_bag) := ⟨rfl, rfl, rfl, by decide +kernel, rfl, by decide +kernel, by decide +kernel⟩
theorem sc_l_out : FnScope ["_law_bag_here", "_law_many", "_law_found"] ["_law_bag_here", "_law_many"] (defScope s_l_out) := ⟨rfl, rfl, rfl, by decide +kernel, rfl, by decide +kernel, by decide +kernel⟩
theorem sc_l_drift : FnScope ["_law_bag_here", "_law_bottom", "_law_top", "_law_one", "_law_other"] ["_law_bag_here"] (defScope s_l_drift) := ⟨rfl, rfl, rfl, by decide +kernel, rfl, by decide +kernel, by decide +kernel⟩
theorem sc_l_kind : FnScope ["_law_e", "_law_kinds"] ["_law_e"] (defScope s_l_kind) := ⟨rfl, rfl, rfl, by decide +kernel, rfl, by decide +kernel, by decide +kernel⟩
theorem sc_l_made : FnScope ["_law_thing", "_law_kept", "_law_e"] ["_law_thing"] (defScope s_l_made) := ⟨rfl, rfl, rfl, by decide +kernel, rfl, by decide +kernel, by decide +kernel⟩
theorem sc_l_set : FnScope ["_law_clock", "_law_low", "_law_high", "_law_kept", "_law_e"] ["_law_clock", "_law_low", "_law_high"] (defScope s_l_set) := ⟨rfl, rfl, rfl, by decide +kernel, rfl, by decide +kernel, by decide +kernel⟩
theorem sc_l_ticked : FnScope ["_law_clock", "_law_thing", "_law_kept", "_law_e"] ["_law_clock", "_law_thing"] (defScope s_l_ticked) := ⟨rfl, rfl, rfl, by decide +kernel, rfl, by decide +kernel, by decide +kernel⟩
theorem sc_l_unset : FnScope ["_law_way", "_law_clock", "_law_kept", "_law_e"] ["_law_way", "_law_clock"] (defScope s_l_unset) := ⟨rfl, rfl, rfl, by decide +kernel, rfl, by decide +kernel, by decide +kernel⟩
theorem sc_l_no_bounds : FnScope ["_law_bag_here", "_law_low", "_law_high", "_law_some", "_law_odd"] ["_law_bag_here", "_law_low", "_law_high"] (defScope s_l_no_bounds) := ⟨rfl, rfl, rfl, by decide +kernel, rfl, by decide +kernel, by decide +kernel⟩
theorem sc_law : FnScope ["_law_script", "_law_drifts", "_law_k", "_law_bag_here", "_law_clock", "_law_low", "_law_high", "_law_one", "_law_other", "_law_was", "_law_odd", "_law_way"] ["_law_script"] (defScope s_law) := ⟨rfl, rfl, rfl, by decide +kernel, rfl, by decide +kernel, by decide +kernel⟩
theorem sc_bounds_behind : FnScope ["stands", "counted", "drift"] ["stands", "counted", "drift"] (defScope s_bounds_behind) := ⟨rfl, rfl, rfl, by decide +kernel, rfl, by decide +kernel, by decide +kernel⟩
theorem sc_set_between : FnScope ["told", "low", "high", "least", "most"] ["told", "low", "high"] (defScope s_set_between) := ⟨rfl, rfl, rfl, by decide +kernel, rfl, by decide +kernel, by decide +kernel⟩
/-- what the top has written -/
structure Txt (K : PySem.W.Frag) (mg : Str → Option Value) (a : Nat → Addr) (d : Nat → FuncData) : Prop where
  g_is_whole : mg "is_whole" = some (.ref (a 0))
  F_is_whole : Fun K "is_whole" "is_whole" s_is_whole (a 0) (d 0)
  b_is_whole : Binds K (d 0) ["thing"] []
  g_is_count : mg "is_count" = some (.ref (a 1))
  F_is_count : Fun K "is_count" "is_count" s_is_count (a 1) (d 1)
  b_is_count : Binds K (d 1) ["thing"] []
  g_is_from_to : mg "is_from_to" = some (.ref (a 2))
  F_is_from_to : Fun K "is_from_to" "is_from_to" s_is_from_to (a 2) (d 2)
  b_is_from_to : Binds K (d 2) ["thing", "least", "most"] []
  g_common_divisor : mg "common_divisor" = some (.ref (a 3))
  F_common_divisor : Fun K "common_divisor" "common_divisor" s_common_divisor (a 3) (d 3)
  b_common_divisor : Binds K (d 3) ["first", "second"] []
  g_is_share : mg "is_share" = some (.ref (a 4))
  F_is_share : Fun K "is_share" "is_share" s_is_share (a 4) (d 4)
  b_is_share : Binds K (d 4) ["thing"] []
  g_is_drift : mg "is_drift" = some (.ref (a 5))
  F_is_drift : Fun K "is_drift" "is_drift" s_is_drift (a 5) (d 5)
  b_is_drift : Binds K (d 5) ["thing"] []
  g_refuse_no_count : mg "refuse_no_count" = some (.ref (a 6))
  F_refuse_no_count : Fun K "refuse_no_count" "refuse_no_count" s_refuse_no_count (a 6) (d 6)
  b_refuse_no_count : Binds K (d 6) ["thing"] []
  g_least_of : mg "least_of" = some (.ref (a 7))
  F_least_of : Fun K "least_of" "least_of" s_least_of (a 7) (d 7)
  b_least_of : Binds K (d 7) ["ticks", "drift"] []
  g_most_of : mg "most_of" = some (.ref (a 8))
  F_most_of : Fun K "most_of" "most_of" s_most_of (a 8) (d 8)
  b_most_of : Binds K (d 8) ["ticks", "drift"] []
  F_Clock___init__ : FunD K "__init__" "Clock.__init__" (defArgs s_Clock___init__) (defBody s_Clock___init__) (defScope s_Clock___init__) [.ref (a 31)] [] (a 9) (d 9)
  c_Clock___init__ : ∃ ds, Vals [.ref (a 31)] ds ∧ Binds K (d 9) ["self", "drift"] ds
  b_Clock___init__ : Binds K (d 9) ["self", "drift"] []
  m_Clock___init__ : Mk K (a 28) (a 9)
  F_Clock_is_set : Fun K "is_set" "Clock.is_set" s_Clock_is_set (a 10) (d 10)
  b_Clock_is_set : Binds K (d 10) ["self"] []
  m_Clock_is_set : Meth K (a 28) "is_set" (a 10)
  F_Clock_set_to : Fun K "set_to" "Clock.set_to" s_Clock_set_to (a 11) (d 11)
  b_Clock_set_to : Binds K (d 11) ["self", "low", "high"] []
  m_Clock_set_to : Meth K (a 28) "set_to" (a 11)
  F_Clock_tick : FunD K "tick" "Clock.tick" (defArgs s_Clock_tick) (defBody s_Clock_tick) (defScope s_Clock_tick) [.int 1] [] (a 12) (d 12)
  c_Clock_tick : ∃ ds, Vals [.int 1] ds ∧ Binds K (d 12) ["self", "many"] ds
  b_Clock_tick : Binds K (d 12) ["self", "many"] []
  m_Clock_tick : Meth K (a 28) "tick" (a 12)
  F_Clock_bounds : Fun K "bounds" "Clock.bounds" s_Clock_bounds (a 13) (d 13)
  b_Clock_bounds : Binds K (d 13) ["self"] []
  m_Clock_bounds : Meth K (a 28) "bounds" (a 13)
  F_Clock_is_past : Fun K "is_past" "Clock.is_past" s_Clock_is_past (a 14) (d 14)
  b_Clock_is_past : Binds K (d 14) ["self", "time"] []
  m_Clock_is_past : Meth K (a 28) "is_past" (a 14)
  F_Clock_is_ahead : Fun K "is_ahead" "Clock.is_ahead" s_Clock_is_ahead (a 15) (d 15)
  b_Clock_is_ahead : Binds K (d 15) ["self", "time"] []
  m_Clock_is_ahead : Meth K (a 28) "is_ahead" (a 15)
  g_l_bag : mg "_law_bag" = some (.ref (a 16))
  F_l_bag : Fun K "_law_bag" "_law_bag" s_l_bag (a 16) (d 16)
  b_l_bag : Binds K (d 16) ["_law_script", "_law_k"] []
  g_l_out : mg "_law_out" = some (.ref (a 17))
  F_l_out : Fun K "_law_out" "_law_out" s_l_out (a 17) (d 17)
  b_l_out : Binds K (d 17) ["_law_bag_here", "_law_many"] []
  g_l_drift : mg "_law_drift" = some (.ref (a 18))
  F_l_drift : Fun K "_law_drift" "_law_drift" s_l_drift (a 18) (d 18)
  b_l_drift : Binds K (d 18) ["_law_bag_here"] []
  g_l_kind : mg "_law_kind" = some (.ref (a 19))
  F_l_kind : Fun K "_law_kind" "_law_kind" s_l_kind (a 19) (d 19)
  b_l_kind : Binds K (d 19) ["_law_e"] []
  g_l_made : mg "_law_made" = some (.ref (a 20))
  F_l_made : Fun K "_law_made" "_law_made" s_l_made (a 20) (d 20)
  b_l_made : Binds K (d 20) ["_law_thing"] []
  g_l_set : mg "_law_set" = some (.ref (a 21))
  F_l_set : Fun K "_law_set" "_law_set" s_l_set (a 21) (d 21)
  b_l_set : Binds K (d 21) ["_law_clock", "_law_low", "_law_high"] []
  g_l_ticked : mg "_law_ticked" = some (.ref (a 22))
  F_l_ticked : Fun K "_law_ticked" "_law_ticked" s_l_ticked (a 22) (d 22)
  b_l_ticked : Binds K (d 22) ["_law_clock", "_law_thing"] []
  g_l_unset : mg "_law_unset" = some (.ref (a 23))
  F_l_unset : Fun K "_law_unset" "_law_unset" s_l_unset (a 23) (d 23)
  b_l_unset : Binds K (d 23) ["_law_way", "_law_clock"] []
  g_l_no_bounds : mg "_law_no_bounds" = some (.ref (a 24))
  F_l_no_bounds : Fun K "_law_no_bounds" "_law_no_bounds" s_l_no_bounds (a 24) (d 24)
  b_l_no_bounds : Binds K (d 24) ["_law_bag_here", "_law_low", "_law_high"] []
  g_law : mg "law" = some (.ref (a 25))
  F_law : Fun K "law" "law" s_law (a 25) (d 25)
  b_law : Binds K (d 25) ["_law_script"] []
  g_bounds_behind : mg "bounds_behind" = some (.ref (a 26))
  F_bounds_behind : Fun K "bounds_behind" "bounds_behind" s_bounds_behind (a 26) (d 26)
  b_bounds_behind : Binds K (d 26) ["stands", "counted", "drift"] []
  g_set_between : mg "set_between" = some (.ref (a 27))
  F_set_between : Fun K "set_between" "set_between" s_set_between (a 27) (d 27)
  b_set_between : Binds K (d 27) ["told", "low", "high"] []
  g_Clock : mg "Clock" = some (.ref (a 28))
  cl : Cls K (a 28)
  n_most_drift : NoAttr K (a 28) "most_drift"
  n_stands : NoAttr K (a 28) "stands"
  n_counted : NoAttr K (a 28) "counted"
  g_WHOLE : mg "WHOLE" = some (.ref (a 29))
  k_WHOLE : ∀ H : Hp, SqT K H (a 29) [V.int 1, V.int 1]
  g_MOST_BOTTOM : ∃ t, mg "MOST_BOTTOM" = some (.int 1000 t)
  g_DRIFT : mg "DRIFT" = some (.ref (a 31))
  k_DRIFT : ∀ H : Hp, SqT K H (a 31) [V.int 1, V.int 100]
  z_max : mg "max" = none
  z_min : mg "min" = none
  z_len : mg "len" = none
  z_int : mg "int" = none
  z_range : mg "range" = none
  z_isinstance : mg "isinstance" = none
  z_bool : mg "bool" = none
  z_tuple : mg "tuple" = none
  z_all : mg "all" = none
  z_repr : mg "repr" = none
  z_ValueError : mg "ValueError" = none
  z_RuntimeError : mg "RuntimeError" = none
  gE_WaitError : mg "WaitError" = some (.ref (a 100))
  gE_NoDrift : mg "NoDrift" = some (.ref (a 101))
  gE_NoBounds : mg "NoBounds" = some (.ref (a 102))
  gE_NoNumber : mg "NoNumber" = some (.ref (a 103))
  gE_Unset : mg "Unset" = some (.ref (a 104))
  gE_NoShare : mg "NoShare" = some (.ref (a 105))
  xo_NoDrift : XB.Own K (a 101) "ValueError" "ValueError.__new__" "ValueError.__init__" [.ref (a 100), .type "ValueError", .type "Exception", .type "BaseException", .type "object"]
  ie_NoDrift : PySem.W.findIn K (.ref (a 101)) "__init__" = some (some (.ref (a 150)))
  ne_NoDrift_text : PySem.W.findIn K (.ref (a 101)) "text" = some none
  xf_NoDrift : XfC K (a 101)
  xc_NoDrift : ExcC K (a 101)
  xo_NoBounds : XB.Own K (a 102) "ValueError" "ValueError.__new__" "ValueError.__init__" [.ref (a 100), .type "ValueError", .type "Exception", .type "BaseException", .type "object"]
  ie_NoBounds : PySem.W.findIn K (.ref (a 102)) "__init__" = some (some (.ref (a 151)))
  ne_NoBounds_low : PySem.W.findIn K (.ref (a 102)) "low" = some none
  ne_NoBounds_high : PySem.W.findIn K (.ref (a 102)) "high" = some none
  oe_NoBounds : OexC K (a 102)
  xf_NoBounds : XfC K (a 102)
  xc_NoBounds : ExcC K (a 102)
  xo_NoNumber : XB.Own K (a 103) "ValueError" "ValueError.__new__" "ValueError.__init__" [.ref (a 100), .type "ValueError", .type "Exception", .type "BaseException", .type "object"]
  ie_NoNumber : PySem.W.findIn K (.ref (a 103)) "__init__" = some (some (.ref (a 150)))
  ne_NoNumber_text : PySem.W.findIn K (.ref (a 103)) "text" = some none
  xf_NoNumber : XfC K (a 103)
  xc_NoNumber : ExcC K (a 103)
  xo_Unset : XB.Own K (a 104) "RuntimeError" "RuntimeError.__new__" "RuntimeError.__init__" [.type "RuntimeError", .type "Exception", .type "BaseException", .type "object"]
  ie_Unset : PySem.W.findIn K (.ref (a 104)) "__init__" = some (some (.ref (a 152)))
  ne_Unset_text : PySem.W.findIn K (.ref (a 104)) "text" = some none
  xf_Unset : XfC K (a 104)
  xc_Unset : ExcC K (a 104)
  te_WaitError : PySem.W.typeIn K (.ref (a 150)) = some (.type "function")
  F_IWaitError : FunD K "__init__" "WaitError.__init__" (defArgs s_IWaitError) (defBody s_IWaitError) (defScope s_IWaitError) [.str ""] [] (a 150) (d 150)
  b_IWaitError : Binds K (d 150) ["self", "text"] []
  te_NoBounds : PySem.W.typeIn K (.ref (a 151)) = some (.type "function")
  F_INoBounds : Fun K "__init__" "NoBounds.__init__" s_INoBounds (a 151) (d 151)
  b_INoBounds : Binds K (d 151) ["self", "low", "high"] []
  te_Unset : PySem.W.typeIn K (.ref (a 152)) = some (.type "function")
  F_IUnset : Fun K "__init__" "Unset.__init__" s_IUnset (a 152) (d 152)
  b_IUnset : Binds K (d 152) ["self", "text"] []
  ex_NoDrift_WaitError : PySem.W.exmOne K (.ref (a 101)) (.ref (a 100)) = some true
  ex_NoNumber_WaitError : PySem.W.exmOne K (.ref (a 103)) (.ref (a 100)) = some true
  ex_NoBounds_NoBounds : PySem.W.exmOne K (.ref (a 102)) (.ref (a 102)) = some true
  ex_Unset_Unset : PySem.W.exmOne K (.ref (a 104)) (.ref (a 104)) = some true
  ki_NoDrift_NoDrift : PySem.W.kitOne K (.ref (a 101)) (.ref (a 101)) = some true
  ki_NoDrift_NoBounds : PySem.W.kitOne K (.ref (a 101)) (.ref (a 102)) = some false
  ki_NoDrift_NoNumber : PySem.W.kitOne K (.ref (a 101)) (.ref (a 103)) = some false
  ki_NoDrift_NoShare : PySem.W.kitOne K (.ref (a 101)) (.ref (a 105)) = some false
  ki_NoDrift_ValueError : PySem.W.kitOne K (.ref (a 101)) (.type "ValueError") = some true
  ki_NoBounds_NoDrift : PySem.W.kitOne K (.ref (a 102)) (.ref (a 101)) = some false
  ki_NoBounds_NoBounds : PySem.W.kitOne K (.ref (a 102)) (.ref (a 102)) = some true
  ki_NoBounds_NoNumber : PySem.W.kitOne K (.ref (a 102)) (.ref (a 103)) = some false
  ki_NoBounds_NoShare : PySem.W.kitOne K (.ref (a 102)) (.ref (a 105)) = some false
  ki_NoBounds_ValueError : PySem.W.kitOne K (.ref (a 102)) (.type "ValueError") = some true
  ki_NoNumber_NoDrift : PySem.W.kitOne K (.ref (a 103)) (.ref (a 101)) = some false
  ki_NoNumber_NoBounds : PySem.W.kitOne K (.ref (a 103)) (.ref (a 102)) = some false
  ki_NoNumber_NoNumber : PySem.W.kitOne K (.ref (a 103)) (.ref (a 103)) = some true
  ki_NoNumber_NoShare : PySem.W.kitOne K (.ref (a 103)) (.ref (a 105)) = some false
  ki_NoNumber_ValueError : PySem.W.kitOne K (.ref (a 103)) (.type "ValueError") = some true
  ki_Unset_RuntimeError : PySem.W.kitOne K (.ref (a 104)) (.type "RuntimeError") = some true
  ki_Unset_ValueError : PySem.W.kitOne K (.ref (a 104)) (.type "ValueError") = some false

theorem bl_of {Q : VK} {H : Hp} {c : Prop} [Decidable c] (h : c) (q : Q (.bl true) H) : Q (.bl (decide c)) H := by
  rw [decide_eq_true h]
  exact q
theorem bl_no {Q : VK} {H : Hp} {c : Prop} [Decidable c] (h : ¬ c) (q : Q (.bl false) H) : Q (.bl (decide c)) H := by
  rw [decide_eq_false h]
  exact q
theorem iteDT {c A B : Prop} [Decidable c] (h : c) (a : A) : if decide c = true then A else B := by
  rw [if_pos (decide_eq_true h)]
  exact a
theorem iteDF {c A B : Prop} [Decidable c] (h : ¬ c) (b : B) : if decide c = true then A else B := by
  rw [decide_eq_false h]
  exact iteF b
theorem iteND {c A B : Prop} [Decidable c] (h : ¬ c) (a : A) : if (!decide c) = true then A else B := by
  rw [decide_eq_false h]
  exact iteT a
theorem iteBT {c : Bool} {A B : Prop} (h : c = true) (a : A) : if c = true then A else B := by
  rw [if_pos h]
  exact a
theorem iteBF {c : Bool} {A B : Prop} (h : c = false) (b : B) : if c = true then A else B := by
  rw [h]
  exact iteF b
theorem len3 : 3 ≤ sizeLine := by decide
theorem len2 : 2 ≤ sizeLine := by decide
theorem len1 : 1 ≤ sizeLine := by decide
theorem m64 {i : Int} (a : -18446744073709551616 < i) (b : i < 18446744073709551616) : -(2 ^ 64) < i ∧ i < 2 ^ 64 := by
  have e : (2 : Int) ^ 64 = 18446744073709551616 := by decide
  rw [e]
  exact ⟨a, b⟩
theorem divW {i j : Int} (h : 0 < j) (hb : j ≤ 1000000000000000000000000000000) : CDivW i j := wide_div (b := 200) h (by
  have e : (j.natAbs : Int) = j := by omega
  have q : (j.natAbs : Int) < ((2 ^ 200 : Nat) : Int) := by rw [e]; exact Int.lt_of_le_of_lt hb (by decide)
  exact Int.ofNat_lt.mp q) (by decide) (by decide)
/-! ### heaps -/
/-- all that was tracked but x stands -/
def Fr (x : Addr) (H H' : Hp) : Prop := ∀ b o, b ≠ x → H b = some o → H' b = some o
theorem Fr.refl (x : Addr) (H : Hp) : Fr x H H := fun _ _ _ e => e
theorem Fr.trans {x : Addr} {H H1 H2 : Hp} (a : Fr x H H1) (b : Fr x H1 H2) : Fr x H H2 := fun c o n e => b c o n (a c o n e)
theorem fr_same {x : Addr} {H H' : Hp} (s : Same H H') : Fr x H H' := fun b o _ e => s b o e
theorem Fr.new {x p : Addr} {H H1 : Hp} {o : HO} (k : Fr x H H1) (hp : H1 p = none) : Fr x H (upd H1 p o) := fun b u n e => by
  rw [upd_ne (ne_of_none (k b u n e) hp)]
  exact k b u n e
theorem Fr.put {x : Addr} {H H1 : Hp} {o : HO} (k : Fr x H H1) : Fr x H (upd H1 x o) := fun b u n e => by
  rw [upd_ne n]
  exact k b u n e
theorem Fr.over {x : Addr} {H0 H H1 : Hp} (a : Same H0 H) (hx : H0 x = none) (k : Fr x H H1) : Same H0 H1 := fun b o e => k b o (ne_of_none e hx) (a b o e)
theorem same_new {H0 H : Hp} {p : Addr} {o : HO} (a : Same H0 H) (hp : H p = none) : Same H0 (upd H p o) := fun b u e => by
  rw [upd_ne (ne_of_none (a b u e) hp)]
  exact a b u e
/-- a thing that may be changed -/
def Mut : HO → Prop
  | .lst _ => True
  | .ins _ _ _ => True
  | _ => False
theorem Fr.tup {x p : Addr} {H H' : Hp} {o : HO} {xs : List V} (k : Fr x H H') (hx : H x = some o) (m : Mut o) (hp : H p = some (.tup xs)) : H' p = some (.tup xs) :=
  k p _ (ne_of hp hx (by intro e; subst e; exact m)) hp
theorem Fr.sqt {K : PySem.W.Frag} {x p : Addr} {H H' : Hp} {o : HO} {xs : List V} (k : Fr x H H') (hx : H x = some o) (m : Mut o) (h : SqT K H p xs) : SqT K H' p xs := by
  rcases h with (h | ⟨u, h⟩) | h
  · exact .inl (.inl (k p _ (ne_of h hx (by intro e; subst e; exact m)) h))
  · exact .inl (.inr ⟨u, k p _ (ne_of h hx (by intro e; subst e; exact m)) h⟩)
  · exact .inr h
theorem same_sqt {K : PySem.W.Frag} {p : Addr} {H H' : Hp} {xs : List V} (k : Same H H') (h : SqT K H p xs) : SqT K H' p xs := by
  rcases h with (h | ⟨u, h⟩) | h
  · exact .inl (.inl (k p _ h))
  · exact .inl (.inr ⟨u, k p _ h⟩)
  · exact .inr h
theorem sqt_ty {K : PySem.W.Frag} {H : Hp} {p : Addr} {xs : List V} (h : SqT K H p xs) : TyX K H (.ref p) (.type "tuple") := by
  rcases h with (h | ⟨u, h⟩) | ⟨o, its, n, h1, h2, _⟩
  · exact .base (.tup h)
  · exact .fTuple h
  · exact .kTuple h1 h2
/-! ### draws -/
def BagAt (H : Hp) (s : Addr) : Prop := ∃ a b : Int, H s = some (.lst [.int a, .int b]) ∧ 0 ≤ b ∧ b < 2147483647
theorem BagAt.ex {H : Hp} {s : Addr} (h : BagAt H s) : ∃ o, H s = some o ∧ Mut o := by
  obtain ⟨a, b, e, _⟩ := h
  exact ⟨_, e, trivial⟩
theorem BagAt.same {H H' : Hp} {s : Addr} (h : BagAt H s) (k : Same H H') : BagAt H' s := by
  obtain ⟨a, b, e, r⟩ := h
  exact ⟨a, b, k _ _ e, r⟩
theorem BagAt.new {H : Hp} {s p : Addr} {o : HO} (h : BagAt H s) (hp : H p = none) : BagAt (upd H p o) s := h.same (same_new (Same.refl H) hp)
theorem BagAt.ne_new {H : Hp} {s p : Addr} (h : BagAt H s) (hp : H p = none) : p ≠ s := by
  obtain ⟨a, b, e, _⟩ := h
  exact (ne_of_none e hp).symm
theorem BagAt.fr {H H' : Hp} {s x : Addr} (h : BagAt H s) (k : Fr x H H') (ne : s ≠ x) : BagAt H' s := by
  obtain ⟨a, b, e, r⟩ := h
  exact ⟨a, b, k _ _ ne e, r⟩
theorem BagAt.some_ {H : Hp} {s : Addr} (h : BagAt H s) : ∃ o, H s = some o := by
  obtain ⟨a, b, e, _⟩ := h
  exact ⟨_, e⟩
theorem BagAt.ne_none {H : Hp} {s p : Addr} (h : BagAt H s) (hp : H p = none) : s ≠ p := (h.ne_new hp).symm
theorem same_make {H : Hp} {x dx : Addr} {o1 o2 : HO} (nx : H x = none) (ndx : H dx = none) : Same H (upd (upd H dx o1) x o2) := fun b o e => by
  rw [upd_ne (ne_of_none e nx), upd_ne (ne_of_none e ndx)]
  exact e
def spBag (K : PySem.W.Frag) : Sp := fun vs H Q _ => ∃ (l : Addr) (ns : List Int) (k : Int), vs = [.ref l, .int k] ∧ SqL K H l (ns.map V.int) ∧ 0 ≤ k ∧ k ≤ 100 ∧ ∀ (p : Addr) (H' : Hp), H p = none → Same H H' → BagAt H' p → Q (.ref p) H'
def spOut : Sp := fun vs H Q _ => ∃ (s : Addr) (m : Int), vs = [.ref s, .int m] ∧ BagAt H s ∧ 0 < m ∧ m ≤ 1000000000000000000000000000000 ∧ ∀ (r : Int) (H' : Hp), 0 ≤ r → r < m → Fr s H H' → BagAt H' s → Q (.int r) H'
def DrOk (K : PySem.W.Frag) (H : Hp) (p : Addr) (t b : Int) : Prop := SqT K H p [.int t, .int b] ∧ 0 ≤ t ∧ t < b ∧ b ≤ 1000 ∧ Int.gcd t b = 1
theorem DrOk.same {K : PySem.W.Frag} {H H' : Hp} {p : Addr} {t b : Int} (h : DrOk K H p t b) (k : Same H H') : DrOk K H' p t b := ⟨same_sqt k h.1, h.2⟩
theorem DrOk.fr {K : PySem.W.Frag} {H H' : Hp} {p x : Addr} {o : HO} {t b : Int} (h : DrOk K H p t b) (k : Fr x H H') (hx : H x = some o) (m : Mut o) : DrOk K H' p t b := ⟨k.sqt hx m h.1, h.2⟩
theorem DrOk.bag {K : PySem.W.Frag} {H H' : Hp} {p s : Addr} {t b : Int} (h : DrOk K H p t b) (k : Fr s H H') (bs : BagAt H s) : DrOk K H' p t b := by
  obtain ⟨o, e, m⟩ := bs.ex
  exact h.fr k e m
def spLDrift (K : PySem.W.Frag) : Sp := fun vs H Q _ => ∃ s : Addr, vs = [.ref s] ∧ BagAt H s ∧ ∀ (t b : Int) (p : Addr) (H' : Hp), Fr s H H' → BagAt H' s → DrOk K H' p t b → H' p = some (.tup [.int t, .int b]) → Q (.ref p) H'
/-! ### numbers -/
theorem pos_of_mul {g x l : Int} (hg : 0 < g) (hl : 0 < l) (e : l = g * x) : 0 < x := by
  rcases Int.lt_or_le 0 x with h | h
  · exact h
  · have := Int.mul_nonpos_of_nonneg_of_nonpos (Int.le_of_lt hg) h
    omega
theorem nn_of_mul {g x l : Int} (hg : 0 < g) (hl : 0 ≤ l) (e : l = g * x) : 0 ≤ x := by
  rcases Int.lt_or_le x 0 with h | h
  · have := Int.mul_neg_of_pos_of_neg hg h
    omega
  · exact h
theorem le_of_gmul {g x l : Int} (hg : 0 < g) (hx : 0 ≤ x) (e : l = g * x) : x ≤ l := by
  have := Int.mul_le_mul_of_nonneg_right (show 1 ≤ g by omega) hx
  omega
theorem le_cancel {g x y : Int} (hg : 0 < g) (h : g * x ≤ g * y) : x ≤ y := Int.le_of_mul_le_mul_left h hg
theorem lt_cancel {g x y : Int} (hg : 0 < g) (h : g * x < g * y) : x < y := Int.lt_of_mul_lt_mul_left h (Int.le_of_lt hg)
theorem gcd_turn {h t : Int} (h0 : 0 ≤ h) (t0 : 0 < t) : Int.gcd t (h % t) = Int.gcd h t := by
  obtain ⟨a, rfl⟩ := Int.eq_ofNat_of_zero_le h0
  obtain ⟨b, rfl⟩ := Int.eq_ofNat_of_zero_le (Int.le_of_lt t0)
  show Nat.gcd b (a % b) = Nat.gcd a b
  rw [Nat.gcd_comm a b, Nat.gcd_rec b a, Nat.gcd_comm]
theorem low_end {u l h : Int} (u0 : 0 ≤ u) (l0 : 0 < l) (h0 : 0 ≤ h) (e : Int.gcd h 0 = Int.gcd u l) : 0 < h ∧ u = h * (u / h) ∧ l = h * (l / h) ∧ Int.gcd (u / h) (l / h) = 1 ∧ h ≤ l := by
  have e1 : (h : Int) = (Int.gcd u l : Nat) := by
    have : Int.gcd h 0 = h.natAbs := Int.gcd_zero_right h
    rw [this] at e
    omega
  have hp : 0 < Int.gcd u l := Int.gcd_pos_of_ne_zero_right u (by omega)
  have d1 : h ∣ u := by rw [e1]; exact Int.gcd_dvd_left u l
  have d2 : h ∣ l := by rw [e1]; exact Int.gcd_dvd_right u l
  have hp' : 0 < h := by omega
  refine ⟨hp', (Int.mul_ediv_cancel' d1).symm, (Int.mul_ediv_cancel' d2).symm, ?_, Int.le_of_dvd l0 d2⟩
  rw [e1]
  exact Int.gcd_ediv_gcd_ediv_gcd hp
def leastP (n t b : Int) : Int := -(-n * b / (b + t))
def mostP (n t b : Int) : Int := ((n + 1) * b - 1) / (b - t)
theorem least_le {n t b p : Int} (t0 : 0 ≤ t) (tb : t < b) (h : n * b ≤ p * (b + t)) : leastP n t b ≤ p := by
  unfold leastP
  have q4 : -p ≤ -n * b / (b + t) := (Int.le_ediv_iff_mul_le (by omega)).mpr (by
    have z1 : -p * (b + t) = -(p * (b + t)) := by grind
    have z2 : -n * b = -(n * b) := by grind
    rw [z1, z2]
    omega)
  omega
theorem least_ge {n t b : Int} (t0 : 0 ≤ t) (tb : t < b) : n * b ≤ leastP n t b * (b + t) := by
  unfold leastP
  have q := Int.ediv_mul_le (-n * b) (show b + t ≠ 0 by omega)
  have z2 : -n * b = -(n * b) := by grind
  have z3 : -(-n * b / (b + t)) * (b + t) = -(-n * b / (b + t) * (b + t)) := by grind
  rw [z3]
  omega
theorem le_most {n t b p : Int} (t0 : 0 ≤ t) (tb : t < b) (h : p * (b - t) < (n + 1) * b) : p ≤ mostP n t b := by
  unfold mostP
  exact (Int.le_ediv_iff_mul_le (by omega)).mpr (by omega)
theorem most_lt {n t b : Int} (t0 : 0 ≤ t) (tb : t < b) : mostP n t b * (b - t) < (n + 1) * b := by
  unfold mostP
  have q := Int.ediv_mul_le ((n + 1) * b - 1) (show b - t ≠ 0 by omega)
  omega
theorem least_mono {n m t b : Int} (t0 : 0 ≤ t) (tb : t < b) (h : n ≤ m) : leastP n t b ≤ leastP m t b :=
  least_le t0 tb (Int.le_trans (Int.mul_le_mul_of_nonneg_right h (by omega)) (least_ge t0 tb))
theorem most_mono {n m t b : Int} (t0 : 0 ≤ t) (tb : t < b) (h : n ≤ m) : mostP n t b ≤ mostP m t b :=
  le_most t0 tb (Int.lt_of_lt_of_le (most_lt t0 tb) (Int.mul_le_mul_of_nonneg_right (by omega) (by omega)))
theorem least_nn {n t b : Int} (t0 : 0 ≤ t) (tb : t < b) (h : 0 ≤ n) : 0 ≤ leastP n t b := by
  have q := least_ge (n := n) t0 tb
  have z : 0 ≤ n * b := Int.mul_nonneg h (by omega)
  rcases Int.lt_or_le (leastP n t b) 0 with c | c
  · have := Int.mul_neg_of_neg_of_pos c (show 0 < b + t by omega)
    omega
  · exact c
theorem least_zero {t b : Int} (t0 : 0 ≤ t) (tb : t < b) : leastP 0 t b = 0 := by
  have h1 := least_le (n := 0) (p := 0) t0 tb (by simp)
  have h2 := least_nn (n := 0) t0 tb (by decide)
  omega
theorem most_nn {n t b : Int} (t0 : 0 ≤ t) (tb : t < b) (h : 0 ≤ n) : n ≤ mostP n t b :=
  le_most t0 tb (by
    have z1 : n * (b - t) ≤ n * b := Int.mul_le_mul_of_nonneg_left (by omega) h
    have z2 : (n + 1) * b = n * b + b := by grind
    omega)
theorem least_le_n {n t b : Int} (t0 : 0 ≤ t) (tb : t < b) (h : 0 ≤ n) : leastP n t b ≤ n :=
  least_le t0 tb (Int.mul_le_mul_of_nonneg_left (by omega) h)
/-! ### promises of times -/
def spWhole : Sp := fun vs H Q _ => ∃ n : Int, vs = [.int n] ∧ Q (.bl true) H
def spCount : Sp := fun vs H Q _ => ∃ n : Int, vs = [.int n] ∧ 0 ≤ n ∧ Q (.bl true) H
def spRef : Sp := fun vs H Q _ => ∃ n : Int, vs = [.int n] ∧ 0 ≤ n ∧ Q .non H
def spLeast (K : PySem.W.Frag) : Sp := fun vs H Q _ => ∃ (n t b : Int) (p : Addr), vs = [.int n, .ref p] ∧ 0 ≤ n ∧ DrOk K H p t b ∧ Q (.int (leastP n t b)) H
def spMost (K : PySem.W.Frag) : Sp := fun vs H Q _ => ∃ (n t b : Int) (p : Addr), vs = [.int n, .ref p] ∧ 0 ≤ n ∧ DrOk K H p t b ∧ Q (.int (mostP n t b)) H
def spRow (K : PySem.W.Frag) : Sp := fun vs H Q _ => ∃ (p : Addr) (t b : Int), vs = [.ref p, .int 2, .int 2] ∧ SqT K H p [.int t, .int b] ∧ ∀ H', Same H H' → Q (.bl true) H'
def spFromTo : Sp := fun vs H Q _ => ∃ n lo hi : Int, vs = [.int n, .int lo, .int hi] ∧ lo ≤ n ∧ n ≤ hi ∧ Q (.bl true) H
def spCd : Sp := fun vs H Q _ => ∃ (x y : Int), vs = [.int x, .int y] ∧ 0 ≤ x ∧ 0 ≤ y ∧ Q (.int (Int.gcd x y)) H
def spShare (K : PySem.W.Frag) : Sp := fun vs H Q _ => ∃ (p : Addr) (t b : Int), vs = [.ref p] ∧ DrOk K H p t b ∧ ∀ H', Same H H' → Q (.bl true) H'
theorem two_at {t b : Int} {i : Nat} {x : V} (h : [V.int t, V.int b][i]? = some x) : ∃ n : Int, x = .int n := by
  match i, h with
  | 0, h => exact ⟨t, (Option.some.inj h).symm⟩
  | 1, h => exact ⟨b, (Option.some.inj h).symm⟩
  | n + 2, h => simp at h
/-! ### a clock -/
theorem ne_cs : ¬ (("counted" : Str) = "stands") := by decide +kernel
theorem ne_cm : ¬ (("counted" : Str) = "most_drift") := by decide +kernel
theorem ne_sc : ¬ (("stands" : Str) = "counted") := by decide +kernel
theorem ne_sm : ¬ (("stands" : Str) = "most_drift") := by decide +kernel
theorem ne_mc : ¬ (("most_drift" : Str) = "counted") := by decide +kernel
theorem ne_ms : ¬ (("most_drift" : Str) = "stands") := by decide +kernel
def cf (dr : V) (sv : V) (n : Int) : List (Str × V) := putF "counted" (.int n) (putF "stands" sv (putF "most_drift" dr []))
theorem cf_eq (dr sv : V) (n : Int) : cf dr sv n = ([("most_drift", dr), ("stands", sv), ("counted", V.int n)] : List (Str × V)) := by
  unfold cf
  simp only [putF, if_neg ne_ms, if_neg ne_mc, if_neg ne_sc]
theorem cf_len (dr sv : V) (n : Int) : (cf dr sv n).length < 1000 := by
  rw [cf_eq]
  show 3 < 1000
  decide
theorem cf_m (dr sv : V) (n : Int) : (cf dr sv n).lookup ("most_drift" : Str) = some dr := by
  unfold cf
  rw [lookup_putF, if_neg ne_mc, lookup_putF, if_neg ne_ms, lookup_putF, if_pos rfl]
theorem cf_s (dr sv : V) (n : Int) : (cf dr sv n).lookup ("stands" : Str) = some sv := by
  unfold cf
  rw [lookup_putF, if_neg ne_sc, lookup_putF, if_pos rfl]
theorem cf_c (dr sv : V) (n : Int) : (cf dr sv n).lookup ("counted" : Str) = some (.int n) := by
  unfold cf
  rw [lookup_putF, if_pos rfl]
theorem cf_no (dr sv : V) (n : Int) {m : Str} (h1 : ¬ m = "counted") (h2 : ¬ m = "stands") (h3 : ¬ m = "most_drift") : (cf dr sv n).lookup m = none := by
  unfold cf
  rw [lookup_putF, if_neg h1, lookup_putF, if_neg h2, lookup_putF, if_neg h3]
  all_goals rfl
theorem cf_put_s (dr sv sv' : V) (n : Int) : putF "stands" sv' (cf dr sv n) = cf dr sv' n := by
  rw [cf_eq, cf_eq]
  simp only [putF, if_neg ne_ms, if_pos]
theorem cf_put_c (dr sv : V) (n n' : Int) : putF "counted" (.int n') (cf dr sv n) = cf dr sv n' := by
  rw [cf_eq, cf_eq]
  simp only [putF, if_neg ne_mc, if_neg ne_sc, if_pos]
def SvAt (K : PySem.W.Frag) (H : Hp) (sv : V) : Option (Int × Int) → Prop
  | none => sv = .non
  | some z => ∃ p, sv = .ref p ∧ SqT K H p [.int z.1, .int z.2]
/-- a clock at c: its drift's tuple at dr, what it stands set to, its count -/
structure CkAt (K : PySem.W.Frag) (C : Addr) (H : Hp) (c dr : Addr) (t b : Int) (st : Option (Int × Int)) (n : Int) : Prop where
  at_ : ∃ (dx : Addr) (sv : V), H c = some (.ins C dx (cf (.ref dr) sv n)) ∧ SvAt K H sv st
  dr_ : DrOk K H dr t b
  nn : 0 ≤ n
theorem CkAt.ex {K : PySem.W.Frag} {C : Addr} {H : Hp} {c dr : Addr} {t b : Int} {st : Option (Int × Int)} {n : Int} (h : CkAt K C H c dr t b st n) : ∃ o, H c = some o ∧ Mut o := by
  obtain ⟨dx, sv, e, _⟩ := h.at_
  exact ⟨_, e, trivial⟩
theorem SvAt.fr {K : PySem.W.Frag} {H H' : Hp} {x : Addr} {o : HO} {sv : V} {st : Option (Int × Int)} (h : SvAt K H sv st) (k : Fr x H H') (hx : H x = some o) (m : Mut o) : SvAt K H' sv st := by
  cases st with
  | none => exact h
  | some z =>
    obtain ⟨p, e, q⟩ := h
    exact ⟨p, e, k.sqt hx m q⟩
/-- a clock stays where another changeable thing is changed -/
theorem CkAt.fr {K : PySem.W.Frag} {C : Addr} {H H' : Hp} {c dr x : Addr} {o : HO} {t b : Int} {st : Option (Int × Int)} {n : Int} (h : CkAt K C H c dr t b st n) (k : Fr x H H') (hx : H x = some o) (m : Mut o) (ne : c ≠ x) : CkAt K C H' c dr t b st n := by
  obtain ⟨⟨dx, sv, e, q⟩, d, nn⟩ := h
  exact ⟨⟨dx, sv, k _ _ ne e, q.fr k hx m⟩, d.fr k hx m, nn⟩
theorem CkAt.same {K : PySem.W.Frag} {C : Addr} {H H' : Hp} {c dr : Addr} {t b : Int} {st : Option (Int × Int)} {n : Int} (h : CkAt K C H c dr t b st n) (k : Same H H') : CkAt K C H' c dr t b st n := by
  obtain ⟨⟨dx, sv, e, q⟩, d, nn⟩ := h
  refine ⟨⟨dx, sv, k _ _ e, ?_⟩, d.same k, nn⟩
  cases st with
  | none => exact q
  | some z =>
    obtain ⟨p, e, q⟩ := q
    exact ⟨p, e, same_sqt k q⟩
theorem CkAt.bag {K : PySem.W.Frag} {C : Addr} {H H' : Hp} {c dr s : Addr} {t b : Int} {st : Option (Int × Int)} {n : Int} (h : CkAt K C H c dr t b st n) (k : Fr s H H') (bs : BagAt H s) : CkAt K C H' c dr t b st n := by
  obtain ⟨dx, sv, e, _⟩ := h.at_
  obtain ⟨x, y, e2, _⟩ := bs
  exact h.fr k e2 trivial (ne_of e e2 (by intro z; cases z))
theorem BagAt.ck {K : PySem.W.Frag} {C : Addr} {H H' : Hp} {c dr s : Addr} {t b : Int} {st : Option (Int × Int)} {n : Int} (bs : BagAt H s) (k : Fr c H H') (h : CkAt K C H c dr t b st n) : BagAt H' s := by
  obtain ⟨dx, sv, e, _⟩ := h.at_
  obtain ⟨x, y, e2, r⟩ := bs
  exact ⟨x, y, k _ _ (ne_of e2 e (by intro z; cases z)) e2, r⟩
theorem CkAt.ne_bag {K : PySem.W.Frag} {C : Addr} {H : Hp} {c dr s : Addr} {t b : Int} {st : Option (Int × Int)} {n : Int} (h : CkAt K C H c dr t b st n) (bs : BagAt H s) : c ≠ s := by
  obtain ⟨dx, sv, e, _⟩ := h.at_
  obtain ⟨x, y, e2, _⟩ := bs
  exact ne_of e e2 (by intro z; cases z)
/-! ### promises of Clock -/
/-- what bounds_behind tells -/
def bbQ (H : Hp) (Q : VK) (n t b : Int) : Option (Int × Int) → Prop
  | none => Q .non H
  | some z => ∀ p, H p = none → Q (.ref p) (upd H p (.tup [.int (z.1 + leastP n t b), .int (z.2 + mostP n t b)]))
def spBB (K : PySem.W.Frag) : Sp := fun vs H Q _ => ∃ (sv : V) (st : Option (Int × Int)) (n : Int) (dr : Addr) (t b : Int), vs = [sv, .int n, .ref dr] ∧ SvAt K H sv st ∧ 0 ≤ n ∧ DrOk K H dr t b ∧ bbQ H Q n t b st
def btwL (low : Int) : Option (Int × Int) → Int
  | none => low
  | some z => if z.1 > low then z.1 else low
def btwH (high : Int) : Option (Int × Int) → Int
  | none => high
  | some z => if z.2 < high then z.2 else high
def spSB (K : PySem.W.Frag) : Sp := fun vs H Q _ => ∃ (tv : V) (st : Option (Int × Int)) (low high : Int), vs = [tv, .int low, .int high] ∧ SvAt K H tv st ∧ low ≤ high ∧ btwL low st ≤ btwH high st ∧ ∀ p, H p = none → Q (.ref p) (upd H p (.tup [.int (btwL low st), .int (btwH high st)]))
def spInit (K : PySem.W.Frag) (C : Addr) : Sp := fun vs H Q _ => ∃ (x dr dx : Addr) (t b : Int), vs = [.ref x, .ref dr] ∧ H x = some (.ins C dx []) ∧ DrOk K H dr t b ∧ ∀ H', Fr x H H' → CkAt K C H' x dr t b none 0 → Q .non H'
def spIsSet (K : PySem.W.Frag) (C : Addr) : Sp := fun vs H Q _ => ∃ (c dr : Addr) (t b : Int) (st : Option (Int × Int)) (n : Int), vs = [.ref c] ∧ CkAt K C H c dr t b st n ∧ Q (.bl st.isSome) H
def spBounds (K : PySem.W.Frag) (C : Addr) : Sp := fun vs H Q _ => ∃ (c dr : Addr) (t b lo hi n : Int), vs = [.ref c] ∧ CkAt K C H c dr t b (some (lo, hi)) n ∧ ∀ p, H p = none → Q (.ref p) (upd H p (.tup [.int (lo + leastP n t b), .int (hi + mostP n t b)]))
def spTick (K : PySem.W.Frag) (C : Addr) : Sp := fun vs H Q _ => ∃ (c dr : Addr) (t b : Int) (st : Option (Int × Int)) (n m : Int), vs = [.ref c, .int m] ∧ CkAt K C H c dr t b st n ∧ 0 ≤ m ∧ ∀ H', Fr c H H' → CkAt K C H' c dr t b st (n + m) → Q .non H'
def setLow (low : Int) (st : Option (Int × Int)) (t b n : Int) : Int := match st with
  | none => low
  | some z => if z.1 + leastP n t b > low then z.1 + leastP n t b else low
def setHigh (high : Int) (st : Option (Int × Int)) (t b n : Int) : Int := match st with
  | none => high
  | some z => if z.2 + mostP n t b < high then z.2 + mostP n t b else high
def spSet (K : PySem.W.Frag) (C : Addr) : Sp := fun vs H Q _ => ∃ (c dr : Addr) (t b : Int) (st : Option (Int × Int)) (n low high : Int), vs = [.ref c, .int low, .int high] ∧ CkAt K C H c dr t b st n ∧ low ≤ high ∧ setLow low st t b n ≤ setHigh high st t b n ∧
  ∀ H', Fr c H H' → CkAt K C H' c dr t b (some (setLow low st t b n, setHigh high st t b n)) 0 → Q .non H'
def spPast (K : PySem.W.Frag) (C : Addr) : Sp := fun vs H Q _ => ∃ (c dr : Addr) (t b lo hi n m : Int), vs = [.ref c, .int m] ∧ CkAt K C H c dr t b (some (lo, hi)) n ∧ ∀ H', Same H H' → Q (.bl (decide (m < lo + leastP n t b))) H'
def spAhead (K : PySem.W.Frag) (C : Addr) : Sp := fun vs H Q _ => ∃ (c dr : Addr) (t b lo hi n m : Int), vs = [.ref c, .int m] ∧ CkAt K C H c dr t b (some (lo, hi)) n ∧ ∀ H', Same H H' → Q (.bl (decide (hi + mostP n t b < m))) H'
def spLaw (K : PySem.W.Frag) : Sp := fun vs H Q _ => ∃ (a : Addr) (ns : List Int), vs = [.ref a] ∧ SqL K H a (ns.map V.int) ∧ ns.length ≤ 63 ∧ ∀ H', Q (.bl true) H'

/-! ### errors -/
theorem exm_of {K : PySem.W.Frag} {S D : Addr} {b : Bool} (h1 : PySem.W.subIn K (.ref D) (.type "BaseException") = some true) (h2 : PySem.W.isClsIn K D = true) (h3 : PySem.W.typeIn K (.ref D) = some (.type "type")) (h4 : PySem.W.subIn K (.ref S) (.ref D) = some b) : PySem.W.exmOne K (.ref S) (.ref D) = some b := by
  have h5 : (PySem.W.clsIn K D).isSome = true := h2
  unfold PySem.W.exmOne PySem.W.kitCls
  simp [h1, h3, h4, h5]
theorem kit_of {K : PySem.W.Frag} {S D : Addr} {b : Bool} (h0 : PySem.W.subIn K (.ref D) (.ref D) = some true) (h2 : PySem.W.isClsIn K D = true) (h3 : PySem.W.typeIn K (.ref D) = some (.type "type")) (h4 : PySem.W.subIn K (.ref S) (.ref D) = some b) : PySem.W.kitOne K (.ref S) (.ref D) = some b := by
  have h5 : (PySem.W.clsIn K D).isSome = true := h2
  unfold PySem.W.kitOne PySem.W.kitCls
  by_cases e : S = D
  · subst e
    rw [h0] at h4
    cases h4
    simp
  · have e2 : ((Value.ref S) == (Value.ref D)) = false := by
      rw [beq_eq_false_iff_ne]
      intro z
      exact e (Value.ref.inj z)
    simp [e2, h3, h4, h5]
theorem kit_blt {K : PySem.W.Frag} {S : Addr} {T : String} {b : Bool} (h1 : PySem.W.kitMeta T = true) (h4 : PySem.W.subIn K (.ref S) (.type T) = some b) : PySem.W.kitOne K (.ref S) (.type T) = some b := by
  unfold PySem.W.kitOne PySem.W.kitCls
  simp [h1, h4]
theorem same_err3 {H H2 : Hp} {x dx : Addr} {o1 o4 : HO} (hx : H x = none) (hd : H dx = none) (k : ∀ b, b ≠ x → b ≠ dx → H2 b = upd H x o1 b) : Same H (upd (del H2 x) dx o4) := fun b o e => by
  have n1 : b ≠ x := ne_of_none e hx
  have n2 : b ≠ dx := ne_of_none e hd
  rw [upd_ne n2, del_ne n1, k b n1 n2, upd_ne n1]
  exact e
/-- an own __init__ of one field -/
def spI1 (C : Addr) (f : Str) : Sp := fun vs H Q _ => ∃ (x : Addr) (y : V), vs = [.ref x, y] ∧ H x = some (exo x C none) ∧ ∀ (dx : Addr) (H' : Hp), H dx = none → dx ≠ x → H' x = some (exo x C (some dx)) → H' dx = some (exd dx [(f, y)]) → (∀ b, b ≠ x → b ≠ dx → H' b = H b) → Q .non H'
/-- an own __init__ of two fields -/
def spI2 (C : Addr) (f g : Str) : Sp := fun vs H Q _ => ∃ (x : Addr) (y z : V), vs = [.ref x, y, z] ∧ H x = some (exo x C none) ∧ ∀ (dx : Addr) (H' : Hp), H dx = none → dx ≠ x → H' x = some (exo x C (some dx)) → H' dx = some (exd dx [(g, z), (f, y)]) → (∀ b, b ≠ x → b ≠ dx → H' b = H b) → Q .non H'
def Out2 (E : XK) (C : Addr) (f g : Str) (y z : V) (H : Hp) : Prop := ∀ (dx : Addr) (H' : Hp), Same H H' → H' dx = some (.xd [(g, z), (f, y)]) → E (.ref C) (some dx) H'
theorem xd_one (f : Str) (y : V) : ([(f, y)] : List (Str × V)).lookup f = some y := by
  have e2 : (f == f) = true := by simp
  simp [List.lookup, e2]
/-- an error is let out: of the class C, its one field f the value y -/
def Out (E : XK) (C : Addr) (f : Str) (y : V) (H : Hp) : Prop := ∀ (dx : Addr) (H' : Hp), Same H H' → H' dx = some (.xd [(f, y)]) → E (.ref C) (some dx) H'
theorem Out.up {E : XK} {C : Addr} {f : Str} {y : V} {H H1 : Hp} (h : Out E C f y H) (k : Same H H1) : Out E C f y H1 := fun dx H' s e => h dx H' (k.trans s) e
/-- two promises of one def: one that lets nothing out, and one that may -/
theorem fn_or {P : Program} {w : World} {K : PySem.W.Frag} {mg : Str → Option Value} {base : Heap} {CX : CXT} {k : Nat} {f : Addr} {fd : FuncData} {ps : List Str} {s1 s2 : Sp} (F1 : FnOk P w K mg base CX0 k f fd ps s1) (F2 : FnOk P w K mg base CX k f fd ps s2) :
    FnOk P w K mg base CX k f fd ps (fun vs H Q E => s1 vs H Q E ∨ s2 vs H Q E) := by
  refine ⟨fun vs H Q E h => ?_, fun A outer s H args us vs Q E hr he hb hv hs => ?_⟩
  · rcases h with h | h
    · exact F1.len _ _ _ _ h
    · exact F2.len _ _ _ _ h
  · rcases hs with h | h
    · refine PySem.codeAny_mono (F1.run A outer s H args us vs Q E hr he hb hv h) fun r s' z => ?_
      cases r with
      | error e => exact z.elim
      | ok fl => cases fl <;> exact z
    · exact F2.run A outer s H args us vs Q E hr he hb hv h
theorem fn_up {P : Program} {w : World} {K : PySem.W.Frag} {mg : Str → Option Value} {base : Heap} {CX : CXT} {k j : Nat} {f : Addr} {fd : FuncData} {ps : List Str} {s1 : Sp} (F1 : FnOk P w K mg base CX k f fd ps s1) (h : k ≤ j) : FnOk P w K mg base CX j f fd ps s1 :=
  ⟨F1.len, fun A outer s H args us vs Q E hr he hb hv hs => F1.run A outer s H args us vs Q E (hr.mono h) he hb hv hs⟩
theorem fn_weak {P : Program} {w : World} {K : PySem.W.Frag} {mg : Str → Option Value} {base : Heap} {CX : CXT} {k : Nat} {f : Addr} {fd : FuncData} {ps : List Str} {s1 s2 : Sp} (F1 : FnOk P w K mg base CX k f fd ps s1) (h : ∀ vs H Q E, s2 vs H Q E → s1 vs H Q E) : FnOk P w K mg base CX k f fd ps s2 :=
  ⟨fun vs H Q E z => F1.len _ _ _ _ (h _ _ _ _ z), fun A outer s H args us vs Q E hr he hb hv hs => F1.run A outer s H args us vs Q E hr he hb hv (h _ _ _ _ hs)⟩
theorem bq {Q : VK} {H : Hp} {b c : Bool} (e : b = c) (q : Q (.bl b) H) : Q (.bl c) H := e ▸ q
def rowD (d : PyData) (k : Nat) : Bool := match d with
  | .tuple ds => decide (ds.length = k) && ds.all wholeD
  | _ => false
def fromToD (d : PyData) (lo hi : Int) : Bool := match d with
  | .int n => decide (lo ≤ n) && decide (n ≤ hi)
  | _ => false
theorem fromTo_int {d : PyData} {lo hi : Int} (h : fromToD d lo hi = true) : ∃ n, d = .int n ∧ lo ≤ n ∧ n ≤ hi := by
  cases d with
  | int n =>
    simp only [fromToD, Bool.and_eq_true, decide_eq_true_eq] at h
    exact ⟨n, rfl, h⟩
  | _ => cases h
theorem fromTo_no {d : PyData} {lo hi : Int} (h : wholeD d = false) : fromToD d lo hi = false := by
  cases d <;> first | rfl | cases h
def shareD : PyData → Bool
  | .tuple [.int t, .int b] => decide (1 ≤ b) && decide (b ≤ 1000) && decide (0 ≤ t) && decide (t ≤ b) && decide (Int.gcd t b = 1)
  | _ => false
def driftD (d : PyData) : Bool := shareD d && !PyData.eqv d (.tuple [.int 1, .int 1])
theorem whole_int {d : PyData} (h : wholeD d = true) : ∃ i, d = .int i := by
  cases d <;> first | exact ⟨_, rfl⟩ | (exact absurd h (by simp [wholeD]))
theorem row2 {d : PyData} (h : rowD d 2 = true) : ∃ t b, d = .tuple [.int t, .int b] := by
  cases d with
  | tuple ds =>
    simp only [rowD, Bool.and_eq_true, decide_eq_true_eq] at h
    match ds, h with
    | [x, y], ⟨_, h⟩ =>
      simp only [List.all_cons, List.all_nil, Bool.and_true, Bool.and_eq_true] at h
      obtain ⟨t, rfl⟩ := whole_int h.1
      obtain ⟨b, rfl⟩ := whole_int h.2
      exact ⟨t, b, rfl⟩
  | _ => exact absurd h (by simp [rowD])
theorem row2f {d : PyData} (h : rowD d 2 = false) : shareD d = false := by
  unfold shareD
  split
  · exact absurd h (by simp [rowD, wholeD])
  · rfl
theorem sf1 {d0 d1 : PyData} (h : fromToD d1 1 1000 = false) : shareD (.tuple [d0, d1]) = false := by
  cases d1 with
  | int b =>
    cases d0 with
    | int t =>
      simp only [fromToD, Bool.and_eq_false_iff, decide_eq_false_iff_not] at h
      rcases h with h | h <;> simp [shareD, h]
    | _ => rfl
  | _ => cases d0 <;> rfl
theorem sf0 {d0 : PyData} {b : Int} (h : fromToD d0 0 b = false) : shareD (.tuple [d0, .int b]) = false := by
  cases d0 with
  | int t =>
    simp only [fromToD, Bool.and_eq_false_iff, decide_eq_false_iff_not] at h
    rcases h with h | h <;> simp [shareD, h]
  | _ => rfl
theorem take_all {ds : List PyData} {i : Nat} {e : PyData} {f : PyData → Bool} (h : (ds.take i).all f = true) (he : ds[i]? = some e) (hf : f e = true) : (ds.take (i + 1)).all f = true := by
  rw [List.take_add_one, he, List.all_append, h]
  simp [hf]
theorem mem_notall {ds : List PyData} {i : Nat} {e : PyData} {f : PyData → Bool} (he : ds[i]? = some e) (hf : f e = false) : ds.all f = false := by
  rw [← Bool.not_eq_true, List.all_eq_true]
  intro h
  have z := h e (List.mem_of_getElem? he)
  rw [hf] at z
  cases z
theorem notup {d : PyData} (h : isTup d = false) (k : Nat) : rowD d k = false := by
  cases d <;> first | rfl | (exact absurd h (by simp [isTup]))
theorem istup {d : PyData} (h : isTup d = true) : ∃ ds, d = .tuple ds := by
  cases d <;> first | exact ⟨_, rfl⟩ | (exact absurd h (by simp [isTup]))
theorem share_two {d : PyData} (h : shareD d = true) : ∃ t b, d = .tuple [.int t, .int b] := by
  cases e : rowD d 2 with
  | true => exact row2 e
  | false => rw [row2f e] at h; cases h
theorem dpall_two {K : PySem.W.Frag} {H : Hp} {xs : List V} {ds : List PyData} (h : DpAll K H xs ds) (hl : xs.length = 2) : ∃ x0 x1 d0 d1, xs = [x0, x1] ∧ ds = [d0, d1] ∧ Dp K H x0 d0 ∧ Dp K H x1 d1 := by
  cases h with
  | nil => cases hl
  | cons a r =>
    cases r with
    | nil => cases hl
    | cons b r =>
      cases r with
      | nil => exact ⟨_, _, _, _, rfl, rfl, a, b⟩
      | cons c r => simp at hl
def spRowD (K : PySem.W.Frag) : Sp := fun vs H Q _ => ∃ (v : V) (d : PyData) (k : Nat), vs = [v, .int k, .int k] ∧ An K H v d ∧ k ≤ 100 ∧ ∀ H', Same H H' → Q (.bl (rowD d k)) H'
def spFromToD (K : PySem.W.Frag) : Sp := fun vs H Q _ => ∃ (v : V) (d : PyData) (lo hi : Int), vs = [v, .int lo, .int hi] ∧ An K H v d ∧ Q (.bl (fromToD d lo hi)) H
def spShareD (K : PySem.W.Frag) : Sp := fun vs H Q _ => ∃ (v : V) (d : PyData), vs = [v] ∧ An K H v d ∧ ∀ H', Same H H' → Q (.bl (shareD d)) H'
def spDriftD (K : PySem.W.Frag) : Sp := fun vs H Q _ => ∃ (v : V) (d : PyData), vs = [v] ∧ An K H v d ∧ ∀ H', Same H H' → Q (.bl (driftD d)) H'

theorem eqv_two {a b c d : Int} (h1 : a = c) (h2 : b = d) : PyData.eqv (.tuple [.int a, .int b]) (.tuple [.int c, .int d]) = true := by
  subst h1 h2
  simp [PyData.eqv, PyData.eqvAll]
structure Shw (d : PyData) : Prop where
  sh : d.showable = true
  dp : d.depth ≤ 64
  sz : d.shown.length ≤ sizeLine
def countD : PyData → Bool
  | .int n => decide (0 ≤ n)
  | _ => false
theorem count_no {d : PyData} (h : wholeD d = false) : countD d = false := by
  cases d <;> first | rfl | cases h
def spWholeD (K : PySem.W.Frag) : Sp := fun vs H Q _ => ∃ (v : V) (d : PyData), vs = [v] ∧ An K H v d ∧ Q (.bl (wholeD d)) H
def spCountD (K : PySem.W.Frag) : Sp := fun vs H Q _ => ∃ (v : V) (d : PyData), vs = [v] ∧ An K H v d ∧ Q (.bl (countD d)) H
def spRefX (K : PySem.W.Frag) (N : Addr) : Sp := fun vs H _ E => ∃ (v : V) (d : PyData), vs = [v] ∧ An K H v d ∧ countD d = false ∧ Out E N "text" (.str "no whole number from 0 on") H
def spTickX (K : PySem.W.Frag) (N : Addr) : Sp := fun vs H _ E => ∃ (v x : V) (d : PyData), vs = [x, v] ∧ An K H v d ∧ countD d = false ∧ Out E N "text" (.str "no whole number from 0 on") H
def spInitX (K : PySem.W.Frag) (N : Addr) : Sp := fun vs H _ E => ∃ (x v : V) (d : PyData), vs = [x, v] ∧ An K H v d ∧ driftD d = false ∧ Out E N "text" (.str "no drift") H
/-- what are no bounds -/
def BadB (K : PySem.W.Frag) (H : Hp) (lv hv : V) : Prop := (∃ d, An K H lv d ∧ wholeD d = false) ∨ (∃ (n : Int) (d : PyData), lv = .int n ∧ An K H hv d ∧ wholeD d = false) ∨ ∃ n m : Int, lv = .int n ∧ hv = .int m ∧ m < n
theorem BadB.up {K : PySem.W.Frag} {H H' : Hp} {lv hv : V} (h : BadB K H lv hv) (k : Same H H') : BadB K H' lv hv := by
  rcases h with ⟨d, a, b⟩ | ⟨n, d, e, a, b⟩ | h
  · exact .inl ⟨d, a.up k, b⟩
  · exact .inr (.inl ⟨n, d, e, a.up k, b⟩)
  · exact .inr (.inr h)
def spSetX (K : PySem.W.Frag) (N : Addr) : Sp := fun vs H _ E => ∃ (x lv hv : V), vs = [x, lv, hv] ∧ BadB K H lv hv ∧ Out2 E N "low" "high" lv hv H
def spSetCX (K : PySem.W.Frag) (C N : Addr) : Sp := fun vs H _ E => ∃ (c dr : Addr) (t b : Int) (st : Option (Int × Int)) (n : Int) (lv hv : V), vs = [.ref c, lv, hv] ∧ CkAt K C H c dr t b st n ∧ BadB K H lv hv ∧ Out2 E N "low" "high" lv hv H
def spUnsX (K : PySem.W.Frag) (C N : Addr) : Sp := fun vs H _ E => ∃ (c dr : Addr) (t b n : Int), vs = [.ref c] ∧ CkAt K C H c dr t b none n ∧ Out E N "text" (.str "the clock was never set") H
def spUns1X (K : PySem.W.Frag) (C N : Addr) : Sp := fun vs H _ E => ∃ (c dr : Addr) (t b n : Int) (v : V), vs = [.ref c, v] ∧ CkAt K C H c dr t b none n ∧ Out E N "text" (.str "the clock was never set") H
/-- small leaves -/
def lf (d : PyData) : Bool := d.showable && decide (d.depth = 0) && d.leavesShort 200 && decide (d.weight ≤ 200) && d.canLay0
theorem int_len {i : Int} (h : i.natAbs < 2 ^ 110) : (Str.ofString (toString i)).length ≤ 200 := by
  have z := PySem.int_text_length_le (k := 110) (by decide) (PySem.Flt.log2_lt_of (by decide) h)
  rw [ofString_length]
  omega
theorem int_leaf {i : Int} (h : i.natAbs < 2 ^ 110) : lf (.int i) = true := by
  have hl : i.natAbs.log2 < 110 := PySem.Flt.log2_lt_of (by decide) h
  have e1 : (PyData.int i).showable = true := decide_eq_true (by omega)
  have e3 : (PyData.int i).weight ≤ 200 := by
    show Builtin.Int.intBits i ≤ 200
    unfold Builtin.Int.intBits
    split <;> omega
  have e4 : (PyData.int i).leavesShort 200 = true := by
    refine decide_eq_true ?_
    show (Str.ofString (toString i)).length ≤ 200
    exact int_len h
  unfold lf
  rw [e1, e4, decide_eq_true e3]
  rfl
theorem int_leaf2 {i : Int} (h : -1000000000000000000000000000000 ≤ i) (h2 : i ≤ 1000000000000000000000000000000) : lf (.int i) = true := by
  refine int_leaf ?_
  have e : (2 : Nat) ^ 110 = 1298074214633706907132624082305024 := by decide
  rw [e]
  omega
theorem lf_all : ∀ {ds : List PyData}, ds.all lf = true → PyData.showableAll ds = true ∧ PyData.depthAll ds = 0 ∧ PyData.leavesShortAll 200 ds = true ∧ PyData.weightAll ds ≤ 201 * ds.length ∧ PyData.canLayAll0 ds = true
  | [], _ => ⟨rfl, rfl, rfl, by decide, rfl⟩
  | d :: ds, h => by
    simp only [List.all_cons, Bool.and_eq_true] at h
    obtain ⟨h1, h2, h3, h4, h5⟩ := lf_all h.2
    have h0 := h.1
    simp only [lf, Bool.and_eq_true, decide_eq_true_eq] at h0
    obtain ⟨⟨⟨⟨a1, a2⟩, a3⟩, a4⟩, a5⟩ := h0
    refine ⟨?_, ?_, ?_, ?_, ?_⟩
    · simp only [PyData.showableAll, a1, h1, Bool.and_self]
    · simp only [PyData.depthAll, a2, h2, Nat.max_self]
    · simp only [PyData.leavesShortAll, a3, h3, Bool.and_self]
    · simp only [PyData.weightAll, List.length_cons]
      omega
    · simp only [PyData.canLayAll0, a5, h5, Bool.and_self]

/-- small things -/
structure Sm (d : PyData) : Prop where
  sh : d.showable = true
  dp : d.depth ≤ 3
  lv : d.leavesShort 200 = true
  wt : d.weight ≤ 1000
theorem Sm.shw {d : PyData} (h : Sm d) : Shw d := by
  have z := PyData.shown_le 200 (by decide) d h.lv
  have w := h.wt
  have p := h.dp
  refine ⟨h.sh, by omega, ?_⟩
  rw [sizeLine_eq]
  omega
theorem Sm.two {d e : PyData} (h : Sm d) (g : Sm e) : Shw (.tuple [d, e]) := by
  have p := h.dp; have p2 := g.dp; have w := h.wt; have w2 := g.wt
  refine ⟨by simp only [PyData.showable, PyData.showableAll, h.sh, g.sh, Bool.and_self], by simp only [PyData.depth, PyData.depthAll]; omega, ?_⟩
  have z := PyData.shown_le 200 (by decide) (.tuple [d, e]) (by simp only [PyData.leavesShort, PyData.leavesShortAll, h.lv, g.lv, Bool.and_self])
  have y : (PyData.tuple [d, e]).weight ≤ 3000 := by
    simp only [PyData.weight, PyData.weightAll]
    omega
  rw [sizeLine_eq]
  omega
theorem sm_int {i : Int} (h : -1000000000000000000000000000000 ≤ i) (h2 : i ≤ 1000000000000000000000000000000) : Sm (.int i) := by
  have z := int_leaf2 h h2
  simp only [lf, Bool.and_eq_true, decide_eq_true_eq] at z
  obtain ⟨⟨⟨⟨a1, a2⟩, a3⟩, a4⟩, _⟩ := z
  exact ⟨a1, by omega, a3, by omega⟩
theorem sm_ints {ds : List PyData} (h : ds.all lf = true) (hl : ds.length ≤ 3) : Sm (.tuple ds) ∧ Sm (.list ds) := by
  obtain ⟨h1, h2, h3, h4, _⟩ := lf_all h
  exact ⟨⟨by simp only [PyData.showable]; exact h1, by simp only [PyData.depth, h2]; omega, by simp only [PyData.leavesShort]; exact h3, by simp only [PyData.weight]; omega⟩,
    ⟨by simp only [PyData.showable]; exact h1, by simp only [PyData.depth, h2]; omega, by simp only [PyData.leavesShort]; exact h3, by simp only [PyData.weight]; omega⟩⟩
/-- no bounds, and they can be shown -/
structure BadP (K : PySem.W.Frag) (H : Hp) (lv hv : V) : Prop where
  b : BadB K H lv hv
  ex : ∃ d e, An K H lv d ∧ An K H hv e ∧ Beside d e ∧ Shw (.tuple [d, e])
theorem BadP.up {K : PySem.W.Frag} {H H' : Hp} {lv hv : V} (h : BadP K H lv hv) (k : Same H H') : BadP K H' lv hv := by
  obtain ⟨d, e, a, b, c⟩ := h.ex
  exact ⟨h.b.up k, d, e, a.up k, b.up k, c⟩
def spKind (nd nb nn : Addr) : Sp := fun vs H Q _ => ∃ (e D dd : Addr) (fs : List (Str × V)) (z : Str), vs = [.ref e] ∧ H e = some (ExK (.ref D) (some dd) e) ∧ H dd = some (.xd fs) ∧ ((D = nd ∧ z = "drift") ∨ (D = nb ∧ z = "bounds") ∨ (D = nn ∧ z = "number")) ∧ ∀ H', Same H H' → Q (.str z) H'
def spLMade (K : PySem.W.Frag) : Sp := fun vs H Q _ => ∃ (v : V) (d : PyData), vs = [v] ∧ An K H v d ∧ driftD d = false ∧ ∀ H', Same H H' → Q (.str "drift") H'
def spLSet (K : PySem.W.Frag) (C : Addr) : Sp := fun vs H Q _ => ∃ (c dr : Addr) (t b : Int) (st : Option (Int × Int)) (n : Int) (lv hv : V), vs = [.ref c, lv, hv] ∧ CkAt K C H c dr t b st n ∧ BadP K H lv hv ∧ ∀ H', Same H H' → Q (.bl true) H'
def spLTick (K : PySem.W.Frag) (C : Addr) : Sp := fun vs H Q _ => ∃ (c dr : Addr) (t b : Int) (st : Option (Int × Int)) (n : Int) (v : V) (d : PyData), vs = [.ref c, v] ∧ CkAt K C H c dr t b st n ∧ An K H v d ∧ countD d = false ∧ ∀ H', Same H H' → Q (.str "number") H'
def spUnset (K : PySem.W.Frag) (C : Addr) : Sp := fun vs H Q _ => ∃ (c dr : Addr) (t b n i : Int), vs = [.int i, .ref c] ∧ CkAt K C H c dr t b none n ∧ 0 ≤ i ∧ i ≤ 2 ∧ ∀ H', Same H H' → Q (.bl true) H'
def spNoB (K : PySem.W.Frag) : Sp := fun vs H Q _ => ∃ (s : Addr) (low high : Int), vs = [.ref s, .int low, .int high] ∧ BagAt H s ∧ 0 ≤ low ∧ low ≤ high ∧ high ≤ 1000 ∧ ∀ (p : Addr) (x y : V) (H' : Hp), Fr s H H' → BagAt H' s → H' p = some (.tup [x, y]) → (∀ H2, Fr s H' H2 → BadP K H2 x y) → Q (.ref p) H'
theorem at_some {l : List V} {r : Int} (h0 : 0 ≤ r) (h1 : r < l.length) : ∃ v, atI l r = some v := by
  obtain ⟨n, rfl⟩ := Int.eq_ofNat_of_zero_le h0
  have hn : n < l.length := by omega
  exact ⟨l[n], atI_nat (j := n) (List.getElem?_eq_getElem hn)⟩
theorem xd_low (y z : V) : ([("high", z), ("low", y)] : List (Str × V)).lookup ("low" : Str) = some y := by
  have e : (("low" : Str) == "high") = false := by decide +kernel
  have e2 : (("low" : Str) == "low") = true := by decide +kernel
  simp [List.lookup, e, e2]
theorem xd_high (y z : V) : ([("high", z), ("low", y)] : List (Str × V)).lookup ("high" : Str) = some z := by
  have e2 : (("high" : Str) == "high") = true := by decide +kernel
  simp [List.lookup, e2]
theorem bes_int {d : PyData} (n : Int) : Beside d (.int n) := ⟨fun _ => .inr rfl, fun z => by cases z⟩
theorem int_bes {d : PyData} (n : Int) : Beside (.int n) d := ⟨fun z => (by cases z), fun _ => .inr rfl⟩
theorem bes_self (d : PyData) : Beside d d := ⟨fun z => .inl z, fun z => .inl z⟩
/-- of what is no number: a pair with it -/
theorem bad_l {K : PySem.W.Frag} {H : Hp} {v : V} {d : PyData} {n : Int} (a : An K H v d) (w : wholeD d = false) (s : Sm d) (h : 0 ≤ n) (h2 : n ≤ 1001) : BadP K H v (.int n) := ⟨.inl ⟨d, a, w⟩, d, .int n, a, .dp (.int n), bes_int n, s.two (sm_int (by omega) (by omega))⟩
theorem bad_r {K : PySem.W.Frag} {H : Hp} {v : V} {d : PyData} {n : Int} (a : An K H v d) (w : wholeD d = false) (s : Sm d) (h : 0 ≤ n) (h2 : n ≤ 1001) : BadP K H (.int n) v := ⟨.inr (.inl ⟨n, d, rfl, a, w⟩), .int n, d, .dp (.int n), a, int_bes n, (sm_int (by omega) (by omega)).two s⟩
theorem bad_2 {K : PySem.W.Frag} {H : Hp} {v : V} {d : PyData} (a : An K H v d) (w : wholeD d = false) (s : Sm d) : BadP K H v v := ⟨.inl ⟨d, a, w⟩, d, d, a, a, bes_self d, s.two s⟩
theorem bad_n {K : PySem.W.Frag} {H : Hp} {n m : Int} (h : m < n) (h0 : 0 ≤ m) (h1 : n ≤ 1001) : BadP K H (.int n) (.int m) := ⟨.inr (.inr ⟨n, m, rfl, rfl, h⟩), .int n, .int m, .dp (.int n), .dp (.int m), bes_int m, (sm_int (by omega) (by omega)).two (sm_int (by omega) (by omega))⟩

theorem ok_IWaitError {P : Program} {w : World} {K : PySem.W.Frag} {mg : Str → Option Value} {base : Heap} {a : Nat → Addr} {d : Nat → FuncData} (T : Txt K mg a d) {C : Addr} {B newId initId : String} {bm : List Value} (xo : XB.Own K C B newId initId bm) (no : PySem.W.findIn K (.ref C) "text" = some none) : FnOk P w K mg base CX0 1 (a 150) (d 150) ["self", "text"] (spI1 C "text") := by
  refine T.F_IWaitError.ok (CX := CX0) sc_IWaitError (fun vs H Q E h => ?_) (fun cdv A outer s0 H vs Q E hr h => ?_)
  · obtain ⟨x, y, rfl, _⟩ := h
    rfl
  · obtain ⟨x, y, rfl, hx, q⟩ := h
    refine ⟨_, PSs.nox (pss_one (XB.ps_put xo no (pv 0) (pv 1))), ?_⟩
    refine ⟨_, rfl, _, rfl, x, rfl, hx, fun dx n ne => ?_⟩
    exact q dx _ n ne upd_same (by rw [upd_ne ne]; exact upd_same) fun b n1 n2 => by rw [upd_ne n1, upd_ne n2]

theorem ok_INoBounds {P : Program} {w : World} {K : PySem.W.Frag} {mg : Str → Option Value} {base : Heap} {a : Nat → Addr} {d : Nat → FuncData} (T : Txt K mg a d) : FnOk P w K mg base CX0 1 (a 151) (d 151) ["self", "low", "high"] (spI2 (a 102) "low" "high") := by
  refine T.F_INoBounds.ok sc_INoBounds (fun vs H Q E h => ?_) (fun cdv A outer s0 H vs Q E hr h => ?_)
  · obtain ⟨x, y, z, rfl, _⟩ := h
    rfl
  · obtain ⟨x, y, z, rfl, hx, q⟩ := h
    refine ⟨_, pss_cons (ps_ost (pv 0) (pv 1)) (pss_one (ps_ost (pv 0) (pv 2))), ?_⟩
    refine ⟨_, rfl, _, rfl, x, a 102, rfl, T.oe_NoBounds, T.ne_NoBounds_low, .inl ⟨hx, fun dx n ne => ?_⟩⟩
    refine ⟨_, rfl, _, rfl, x, a 102, rfl, T.oe_NoBounds, T.ne_NoBounds_high, .inr ⟨dx, _, upd_same, (by rw [upd_ne ne]; exact upd_same), (by show 1 ≤ 900; decide), ?_⟩⟩
    refine q dx _ n ne (by rw [upd_ne ne.symm]; exact upd_same) upd_same fun b n1 n2 => ?_
    rw [upd_ne n2, upd_ne n1, upd_ne n2]

theorem ok_IUnset {P : Program} {w : World} {K : PySem.W.Frag} {mg : Str → Option Value} {base : Heap} {a : Nat → Addr} {d : Nat → FuncData} (T : Txt K mg a d) {C : Addr} {B newId initId : String} {bm : List Value} (xo : XB.Own K C B newId initId bm) (no : PySem.W.findIn K (.ref C) "text" = some none) : FnOk P w K mg base CX0 1 (a 152) (d 152) ["self", "text"] (spI1 C "text") := by
  refine T.F_IUnset.ok sc_IUnset (fun vs H Q E h => ?_) (fun cdv A outer s0 H vs Q E hr h => ?_)
  · obtain ⟨x, y, rfl, _⟩ := h
    rfl
  · obtain ⟨x, y, rfl, hx, q⟩ := h
    refine ⟨_, (pss_one (XB.ps_put xo no (pv 0) (pv 1))), ?_⟩
    refine ⟨_, rfl, _, rfl, x, rfl, hx, fun dx n ne => ?_⟩
    exact q dx _ n ne upd_same (by rw [upd_ne ne]; exact upd_same) fun b n1 n2 => by rw [upd_ne n1, upd_ne n2]

theorem ok_is_whole {P : Program} {w : World} {K : PySem.W.Frag} {mg : Str → Option Value} {base : Heap} {a : Nat → Addr} {d : Nat → FuncData} (T : Txt K mg a d) : FnOk P w K mg base CX0 1 (a 0) (d 0) ["thing"] spWhole := by
  refine T.F_is_whole.ok sc_is_whole (fun vs H Q E h => ?_) (fun cdv A outer s0 H vs Q E hr h => ?_)
  · obtain ⟨n, rfl, q⟩ := h
    rfl
  · obtain ⟨n, rfl, q⟩ := h
    refine ⟨_, (pss_one (ps_ret (pe_and (pe_callB call_isi (by rfl) T.z_isinstance (by decide +kernel) (pa_cons (pv 0) (pa_cons (pe_bltn (v := .ty "int") (by rfl) T.z_int (by decide +kernel) rfl) pa_nil))) (pe_one (pe_not (pe_callB call_isi (by rfl) T.z_isinstance (by decide +kernel) (pa_cons (pv 0) (pa_cons (pe_bltn (v := .ty "bool") (by rfl) T.z_bool (by decide +kernel) rfl) pa_nil)))))))), ?_⟩
    refine ⟨_, rfl, _, _, .type "int", .type "int", true, rfl, .ty "int", .base (.int n), kit_ty (by decide +kernel), true, rfl, iteT ?_⟩
    refine ⟨_, rfl, _, _, .type "int", .type "bool", false, rfl, .ty "bool", .base (.int n), kit_ty (by decide +kernel), false, rfl, ?_⟩
    exact q

theorem ok_is_count {P : Program} {w : World} {K : PySem.W.Frag} {mg : Str → Option Value} {base : Heap} {a : Nat → Addr} {d : Nat → FuncData} (T : Txt K mg a d) : FnOk P w K mg base CX0 2 (a 1) (d 1) ["thing"] spCount := by
  refine T.F_is_count.ok sc_is_count (fun vs H Q E h => ?_) (fun cdv A outer s0 H vs Q E hr h => ?_)
  · obtain ⟨n, rfl, n0, q⟩ := h
    rfl
  · obtain ⟨n, rfl, n0, q⟩ := h
    refine ⟨_, (pss_one (ps_ret (pe_and (pe_call (ok_is_whole T) (hr.mono (by decide)) (by rfl) T.g_is_whole T.F_is_whole.kp T.b_is_whole .nil pass0 (pa_cons (pv 0) pa_nil)) (pe_one (pe_cmpR op_ge (pv 0) pe_int (nomark _)))))), ?_⟩
    refine ⟨_, rfl, n, rfl, true, rfl, iteT ?_⟩
    exact ⟨_, rfl, n, 0, rfl, rfl, bl_of (Q := Q) n0 q⟩

theorem ok_is_from_to {P : Program} {w : World} {K : PySem.W.Frag} {mg : Str → Option Value} {base : Heap} {a : Nat → Addr} {d : Nat → FuncData} (T : Txt K mg a d) : FnOk P w K mg base CX0 1 (a 2) (d 2) ["thing", "least", "most"] spFromTo := by
  refine T.F_is_from_to.ok sc_is_from_to (fun vs H Q E h => ?_) (fun cdv A outer s0 H vs Q E hr h => ?_)
  · obtain ⟨n, lo, hi, rfl, h1, h2, q⟩ := h
    rfl
  · obtain ⟨n, lo, hi, rfl, h1, h2, q⟩ := h
    refine ⟨_, (pss_one (ps_ret (pe_and (pe_callB call_isi (by rfl) T.z_isinstance (by decide +kernel) (pa_cons (pv 0) (pa_cons (pe_bltn (v := .ty "int") (by rfl) T.z_int (by decide +kernel) rfl) pa_nil))) (pe_and (pe_not (pe_callB call_isi (by rfl) T.z_isinstance (by decide +kernel) (pa_cons (pv 0) (pa_cons (pe_bltn (v := .ty "bool") (by rfl) T.z_bool (by decide +kernel) rfl) pa_nil)))) (pe_one (pe_chain op_le op_le (pv 1) (pv 0) (pv 2))))))), ?_⟩
    refine ⟨_, rfl, _, _, .type "int", .type "int", true, rfl, .ty "int", .base (.int n), kit_ty (by decide +kernel), true, rfl, iteT ?_⟩
    refine ⟨_, rfl, _, _, .type "int", .type "bool", false, rfl, .ty "bool", .base (.int n), kit_ty (by decide +kernel), false, rfl, true, rfl, iteT ?_⟩
    refine ⟨_, rfl, _, rfl, lo, n, rfl, rfl, _, rfl, iteDT h1 ?_⟩
    exact ⟨_, rfl, n, hi, rfl, rfl, bl_of (Q := Q) h2 q⟩

theorem ok_common_divisor {P : Program} {w : World} {K : PySem.W.Frag} {mg : Str → Option Value} {base : Heap} {a : Nat → Addr} {d : Nat → FuncData} (T : Txt K mg a d) : FnOk P w K mg base CX0 1 (a 3) (d 3) ["first", "second"] spCd := by
  refine T.F_common_divisor.ok sc_common_divisor (fun vs H Q E h => ?_) (fun cdv A outer s0 H vs Q E hr h => ?_)
  · obtain ⟨x, y, rfl, x0, y0, q⟩ := h
    rfl
  · obtain ⟨x, y, rfl, x0, y0, q⟩ := h
    refine ⟨_, (pss_cons (ps_while PassesOwn.never (pt_truth (pv 1) (by intro _; rfl)) (pss_one (ps_par (i := 0) (j := 1) (by rfl) sc_common_divisor.nd rfl rfl (by decide) rfl rfl (pa_cons (pv 1) (pa_cons (pe_op op_mod (pv 0) (pv 1)) pa_nil)) (by rfl)))) (pss_one (ps_ret (pv 0)))), ?_⟩
    refine ⟨fun m σ H' => H' = H ∧ ∃ h t : Int, σ = [some (.int h), some (.int t)] ∧ m = t.toNat ∧ 0 ≤ h ∧ 0 ≤ t ∧ Int.gcd h t = Int.gcd x y, ⟨_, rfl, x, y, rfl, rfl, x0, y0, rfl⟩, ?_⟩
    rintro m σ H' ⟨rfl, h, t, rfl, rfl, h0, t0, eg⟩
    refine ⟨_, rfl, _, rfl, ?_⟩
    by_cases hz : t = 0
    · subst hz
      refine iteBF rfl ?_
      have e1 : (Int.gcd x y : Int) = h := by
        rw [← eg, Int.gcd_zero_right]
        omega
      refine ⟨_, rfl, ?_⟩
      rw [e1] at q
      exact q
    · have tp : 0 < t := by omega
      refine iteBT (by simpa using hz) ?_
      refine ⟨_, fun _ _ z => z, ?_⟩
      refine ⟨_, rfl, _, rfl, _, rfl, h, t, rfl, rfl, tp, _, _, rfl, ?_⟩
      have e0 := Int.emod_nonneg h (show t ≠ 0 by omega)
      have e1 := Int.emod_lt_of_pos h tp
      exact ⟨(h % t).toNat, by omega, rfl, t, h % t, rfl, rfl, t0, e0, (gcd_turn h0 tp).trans eg⟩

theorem ok_is_share {P : Program} {w : World} {K : PySem.W.Frag} {mg : Str → Option Value} {base : Heap} {a : Nat → Addr} {d : Nat → FuncData} (T : Txt K mg a d) : FnOk P w K mg base CX0 3 (a 4) (d 4) ["thing"] (spShare K) := by
  refine T.F_is_share.ok sc_is_share (fun vs H Q E h => ?_) (fun cdv A outer s0 H vs Q E hr h => ?_)
  · obtain ⟨p, t, b, rfl, hd, q⟩ := h
    rfl
  · obtain ⟨p, t, b, rfl, hd, q⟩ := h
    refine ⟨_, (pss_cons (ps_if (PW.pt (pw_or (pt_not (pt_truth (pe_callB call_isi (by rfl) T.z_isinstance (by decide +kernel) (pa_cons (pv 0) (pa_cons (pe_bltn (v := .ty "tuple") (by rfl) T.z_tuple (by decide +kernel) rfl) pa_nil))) (by intro _; rfl))) (pw_or1 (pt_cmpR op_ne (pe_callB call_len_seq (by rfl) T.z_len PySem.boot_len (pa_cons (pv 0) pa_nil)) pe_int (nomark _))))) (pss_one (ps_ret pe_bl)) pss_nil) (pss_cons (ps_asg (pv 0) (pg_tup (by rfl) (pgs_cons (pg_name (i := 1) sc_is_share.nd rfl (.inl rfl)) (pgs_cons (pg_name (i := 2) sc_is_share.nd rfl (.inl rfl)) pgs_nil)))) (pss_cons (ps_if (PW.pt (pw_or (pt_not (pt_truth (pe_call (ok_is_from_to T) (hr.mono (by decide)) (by rfl) T.g_is_from_to T.F_is_from_to.kp T.b_is_from_to .nil pass0 (pa_cons (pv 2) (pa_cons pe_int (pa_cons (pe_glob (v := .int 1000) (by rfl) (Exists.choose_spec T.g_MOST_BOTTOM) ⟨_, rfl⟩) pa_nil)))) (by intro _; rfl))) (pw_or1 (pt_not (pt_truth (pe_call (ok_is_from_to T) (hr.mono (by decide)) (by rfl) T.g_is_from_to T.F_is_from_to.kp T.b_is_from_to .nil pass0 (pa_cons (pv 1) (pa_cons pe_int (pa_cons (pv 2) pa_nil)))) (by intro _; rfl)))))) (pss_one (ps_ret pe_bl)) pss_nil) (pss_one (ps_ret (pe_or (pe_cmpR op_eq (pv 1) pe_int (nomark _)) (pe_one (pe_cmpR op_eq (pe_call (ok_common_divisor T) (hr.mono (by decide)) (by rfl) T.g_common_divisor T.F_common_divisor.kp T.b_common_divisor .nil pass0 (pa_cons (pv 1) (pa_cons (pv 2) pa_nil))) pe_int (nomark _))))))))), ?_⟩
    obtain ⟨hS, t0, tb, b1, hg⟩ := hd
    refine ⟨_, rfl, _, _, .type "tuple", .type "tuple", true, rfl, .ty "tuple", sqt_ty hS, kit_ty (by decide +kernel), true, rfl, iteF ?_⟩
    refine ⟨_, rfl, p, _, rfl, .inr hS, rfl, _, rfl, iteNS rfl ?_⟩
    refine ⟨_, rfl, p, _, rfl, hS, rfl, _, _, rfl, _, _, rfl, rfl, ?_⟩
    refine ⟨_, rfl, b, 1, 1000, rfl, by omega, by omega, true, rfl, iteF ?_⟩
    refine ⟨_, rfl, _, rfl, t, 0, b, rfl, by omega, by omega, true, rfl, iteF ?_⟩
    refine ⟨_, rfl, rfl, _, rfl, ?_⟩
    refine ite2 (fun h => ?_) (fun h => ?_)
    · exact q H (Same.refl H)
    refine ⟨_, rfl, _, rfl, t, b, rfl, t0, by omega, rfl, ?_⟩
    have e : (V.int (Int.gcd t b : Nat) = V.int 1) := by rw [hg]; rfl
    exact bl_of (Q := Q) e (q H (Same.refl H))

theorem ok_is_drift {P : Program} {w : World} {K : PySem.W.Frag} {mg : Str → Option Value} {base : Heap} {a : Nat → Addr} {d : Nat → FuncData} (T : Txt K mg a d) : FnOk P w K mg base CX0 4 (a 5) (d 5) ["thing"] (spShare K) := by
  refine T.F_is_drift.ok sc_is_drift (fun vs H Q E h => ?_) (fun cdv A outer s0 H vs Q E hr h => ?_)
  · obtain ⟨p, t, b, rfl, hd, q⟩ := h
    rfl
  · obtain ⟨p, t, b, rfl, hd, q⟩ := h
    refine ⟨_, (pss_one (ps_ret (pe_and (pe_call (ok_is_share T) (hr.mono (by decide)) (by rfl) T.g_is_share T.F_is_share.kp T.b_is_share .nil pass0 (pa_cons (pv 0) pa_nil)) (pe_one (pe_cmpR (op_neD hr.units) (pv 0) (pe_glob (v := .ref (a 29)) (by rfl) T.g_WHOLE rfl) (nomark _)))))), ?_⟩
    refine ⟨_, rfl, p, t, b, rfl, hd, fun H1 s1 => ⟨true, rfl, iteT ?_⟩⟩
    have hS1 := same_sqt s1 hd.1
    refine ⟨_, rfl, .tuple [.int t, .int b], .tuple [.int 1, .int 1], .tup hS1 (.cons (.int _) (.cons (.int _) .nil)), .tup (T.k_WHOLE _) (.cons (.int _) (.cons (.int _) .nil)), rfl, rfl, ?_⟩
    have e : PyData.eqv (.tuple [.int t, .int b]) (.tuple [.int 1, .int 1]) = false := by
      have := hd.2.2.1
      by_cases ht : t = 1
      · have hb : b ≠ 1 := by omega
        simp [PyData.eqv, PyData.eqvAll, hb]
      · simp [PyData.eqv, PyData.eqvAll, ht]
    show Q (V.bl (!PyData.eqv (.tuple [.int t, .int b]) (.tuple [.int 1, .int 1]))) H1
    rw [e]
    exact q H1 s1

theorem ok_refuse_no_count {P : Program} {w : World} {K : PySem.W.Frag} {mg : Str → Option Value} {base : Heap} {a : Nat → Addr} {d : Nat → FuncData} (T : Txt K mg a d) : FnOk P w K mg base CX0 3 (a 6) (d 6) ["thing"] spRef := by
  refine T.F_refuse_no_count.ok sc_refuse_no_count (fun vs H Q E h => ?_) (fun cdv A outer s0 H vs Q E hr h => ?_)
  · obtain ⟨n, rfl, n0, q⟩ := h
    rfl
  · obtain ⟨n, rfl, n0, q⟩ := h
    refine ⟨_, (pss_one (ps_if (pt_not (pt_truth (pe_call (ok_is_count T) (hr.mono (by decide)) (by rfl) T.g_is_count T.F_is_count.kp T.b_is_count .nil pass0 (pa_cons (pv 0) pa_nil)) (by intro _; rfl))) (pss_one ps_never) pss_nil)), ?_⟩
    refine ⟨_, rfl, n, rfl, n0, true, rfl, iteF ?_⟩
    exact q

theorem ok_least_of {P : Program} {w : World} {K : PySem.W.Frag} {mg : Str → Option Value} {base : Heap} {a : Nat → Addr} {d : Nat → FuncData} (T : Txt K mg a d) : FnOk P w K mg base CX0 1 (a 7) (d 7) ["ticks", "drift"] (spLeast K) := by
  refine T.F_least_of.ok sc_least_of (fun vs H Q E h => ?_) (fun cdv A outer s0 H vs Q E hr h => ?_)
  · obtain ⟨n, t, b, p, rfl, n0, ⟨hd, t0, tb, b1, _⟩, q⟩ := h
    rfl
  · obtain ⟨n, t, b, p, rfl, n0, ⟨hd, t0, tb, b1, _⟩, q⟩ := h
    refine ⟨_, (pss_cons (ps_asg (pv 1) (pg_tup (by rfl) (pgs_cons (pg_name (i := 2) sc_least_of.nd rfl (.inl rfl)) (pgs_cons (pg_name (i := 3) sc_least_of.nd rfl (.inl rfl)) pgs_nil)))) (pss_one (ps_ret (pe_un un_neg (pe_op op_fdivW (pe_op op_mul (pe_un un_neg (pv 0)) (pv 3)) (pe_op op_add (pv 3) (pv 2))))))), ?_⟩
    refine ⟨_, rfl, p, _, rfl, hd, rfl, _, _, rfl, _, _, rfl, rfl, ?_⟩
    refine ⟨_, rfl, n, rfl, _, rfl, -n, b, rfl, rfl, .inr (m64 (by omega) (by omega)), _, rfl, _, rfl, b, t, rfl, rfl, _, _, rfl, rfl, divW (by omega) (by omega), _, rfl, ?_⟩
    exact q

theorem ok_most_of {P : Program} {w : World} {K : PySem.W.Frag} {mg : Str → Option Value} {base : Heap} {a : Nat → Addr} {d : Nat → FuncData} (T : Txt K mg a d) : FnOk P w K mg base CX0 1 (a 8) (d 8) ["ticks", "drift"] (spMost K) := by
  refine T.F_most_of.ok sc_most_of (fun vs H Q E h => ?_) (fun cdv A outer s0 H vs Q E hr h => ?_)
  · obtain ⟨n, t, b, p, rfl, n0, ⟨hd, t0, tb, b1, _⟩, q⟩ := h
    rfl
  · obtain ⟨n, t, b, p, rfl, n0, ⟨hd, t0, tb, b1, _⟩, q⟩ := h
    refine ⟨_, (pss_cons (ps_asg (pv 1) (pg_tup (by rfl) (pgs_cons (pg_name (i := 2) sc_most_of.nd rfl (.inl rfl)) (pgs_cons (pg_name (i := 3) sc_most_of.nd rfl (.inl rfl)) pgs_nil)))) (pss_one (ps_ret (pe_op op_fdivW (pe_op op_sub (pe_op op_mul (pe_op op_add (pv 0) pe_int) (pv 3)) pe_int) (pe_op op_sub (pv 3) (pv 2)))))), ?_⟩
    refine ⟨_, rfl, p, _, rfl, hd, rfl, _, _, rfl, _, _, rfl, rfl, ?_⟩
    refine ⟨_, rfl, n, 1, rfl, rfl, _, rfl, _, b, rfl, rfl, .inr (m64 (by omega) (by omega)), _, 1, rfl, rfl, _, rfl, _, rfl, b, t, rfl, rfl, _, _, rfl, rfl, divW (by omega) (by omega), ?_⟩
    exact q

theorem ok_bounds_behind {P : Program} {w : World} {K : PySem.W.Frag} {mg : Str → Option Value} {base : Heap} {a : Nat → Addr} {d : Nat → FuncData} (T : Txt K mg a d) : FnOk P w K mg base CX0 2 (a 26) (d 26) ["stands", "counted", "drift"] (spBB K) := by
  refine T.F_bounds_behind.ok sc_bounds_behind (fun vs H Q E h => ?_) (fun cdv A outer s0 H vs Q E hr h => ?_)
  · obtain ⟨sv, st, n, dr, t, b, rfl, hs, n0, hd, q⟩ := h
    rfl
  · obtain ⟨sv, st, n, dr, t, b, rfl, hs, n0, hd, q⟩ := h
    refine ⟨_, (pss_cons (ps_if (pt_cmpR op_isN (pv 0) pe_non (nomark _)) (pss_one (ps_ret pe_non)) pss_nil) (pss_one (ps_ret (pe_tup (pa_cons (pe_op op_add (pe_ix ix_tup (pv 0) pe_int (fun _ _ => rfl)) (pe_call (ok_least_of T) (hr.mono (by decide)) (by rfl) T.g_least_of T.F_least_of.kp T.b_least_of .nil pass0 (pa_cons (pv 1) (pa_cons (pv 2) pa_nil)))) (pa_cons (pe_op op_add (pe_ix ix_tup (pv 0) pe_int (fun _ _ => rfl)) (pe_call (ok_most_of T) (hr.mono (by decide)) (by rfl) T.g_most_of T.F_most_of.kp T.b_most_of .nil pass0 (pa_cons (pv 1) (pa_cons (pv 2) pa_nil)))) pa_nil)))))), ?_⟩
    cases st with
    | none =>
      have e : sv = V.non := hs
      subst e
      refine ⟨_, rfl, rfl, _, rfl, iteT ?_⟩
      exact q
    | some z =>
      obtain ⟨sp, e, hs⟩ := hs
      subst e
      refine ⟨_, rfl, rfl, _, rfl, iteF ?_⟩
      refine ⟨_, rfl, sp, _, 0, _, rfl, rfl, hs, rfl, _, rfl, _, rfl, n, t, b, dr, rfl, n0, hd, _, _, rfl, rfl, ?_⟩
      refine ⟨_, rfl, sp, _, 1, _, rfl, rfl, hs, rfl, _, rfl, _, rfl, n, t, b, dr, rfl, n0, hd, _, _, rfl, rfl, len2, fun p np => ?_⟩
      exact q p np

theorem ok_set_between {P : Program} {w : World} {K : PySem.W.Frag} {mg : Str → Option Value} {base : Heap} {a : Nat → Addr} {d : Nat → FuncData} (T : Txt K mg a d) : FnOk P w K mg base CX0 2 (a 27) (d 27) ["told", "low", "high"] (spSB K) := by
  refine T.F_set_between.ok sc_set_between (fun vs H Q E h => ?_) (fun cdv A outer s0 H vs Q E hr h => ?_)
  · obtain ⟨tv, st, low, high, rfl, hs, hlh, hle, q⟩ := h
    rfl
  · obtain ⟨tv, st, low, high, rfl, hs, hlh, hle, q⟩ := h
    refine ⟨_, (pss_cons (ps_if (PW.pt (pw_or (pt_not (pt_truth (pe_call (ok_is_whole T) (hr.mono (by decide)) (by rfl) T.g_is_whole T.F_is_whole.kp T.b_is_whole .nil pass0 (pa_cons (pv 1) pa_nil)) (by intro _; rfl))) (pw_or (pt_not (pt_truth (pe_call (ok_is_whole T) (hr.mono (by decide)) (by rfl) T.g_is_whole T.F_is_whole.kp T.b_is_whole .nil pass0 (pa_cons (pv 2) pa_nil)) (by intro _; rfl))) (pw_or1 (pt_cmpR op_gt (pv 1) (pv 2) (nomark _)))))) (pss_one ps_never) pss_nil) (pss_cons (ps_if (pt_cmpR op_isN (pv 0) pe_non (nomark _)) (pss_one (ps_ret (pe_tup (pa_cons (pv 1) (pa_cons (pv 2) pa_nil))))) pss_nil) (pss_cons (ps_set (i := 3) sc_set_between.nd rfl (Or.inl rfl) (pe_callB (call_max2 rfl) (by rfl) T.z_max (by decide +kernel) (pa_cons (pv 1) (pa_cons (pe_ix ix_tup (pv 0) pe_int (fun _ _ => rfl)) pa_nil)))) (pss_cons (ps_set (i := 4) sc_set_between.nd rfl (Or.inl rfl) (pe_callB (call_min2 rfl) (by rfl) T.z_min (by decide +kernel) (pa_cons (pv 2) (pa_cons (pe_ix ix_tup (pv 0) pe_int (fun _ _ => rfl)) pa_nil)))) (pss_cons (ps_if (pt_cmpR op_gt (pv 3) (pv 4) (nomark _)) (pss_one ps_never) pss_nil) (pss_one (ps_ret (pe_tup (pa_cons (pv 3) (pa_cons (pv 4) pa_nil)))))))))), ?_⟩
    refine ⟨_, rfl, low, rfl, true, rfl, iteF ?_⟩
    refine ⟨_, rfl, high, rfl, true, rfl, iteF ?_⟩
    refine ⟨_, rfl, _, rfl, low, high, rfl, rfl, _, rfl, iteDF (by omega) ?_⟩
    cases st with
    | none =>
      have e : tv = V.non := hs
      subst e
      refine ⟨_, rfl, rfl, _, rfl, iteT ?_⟩
      exact ⟨_, rfl, _, rfl, len2, fun p np => q p np⟩
    | some z =>
      obtain ⟨sp, e, hs⟩ := hs
      subst e
      refine ⟨_, rfl, rfl, _, rfl, iteF ?_⟩
      refine ⟨_, rfl, _, rfl, sp, _, 0, _, rfl, rfl, hs, rfl, low, _, rfl, ?_⟩
      refine ⟨_, rfl, _, rfl, sp, _, 1, _, rfl, rfl, hs, rfl, high, _, rfl, ?_⟩
      refine ⟨_, rfl, _, rfl, _, _, rfl, rfl, _, rfl, iteDF (Int.not_lt.mpr hle) ?_⟩
      exact ⟨_, rfl, _, rfl, len2, fun p np => q p np⟩

theorem ok_Clock___init__ {P : Program} {w : World} {K : PySem.W.Frag} {mg : Str → Option Value} {base : Heap} {a : Nat → Addr} {d : Nat → FuncData} (T : Txt K mg a d) : FnOk P w K mg base CX0 5 (a 9) (d 9) ["self", "drift"] (spInit K (a 28)) := by
  refine T.F_Clock___init__.ok (CX := CX0) sc_Clock___init__ (fun vs H Q E h => ?_) (fun cdv A outer s0 H vs Q E hr h => ?_)
  · obtain ⟨x, dr, dx, t, b, rfl, hx, hd, q⟩ := h
    rfl
  · obtain ⟨x, dr, dx, t, b, rfl, hx, hd, q⟩ := h
    refine ⟨_, PSs.nox (pss_cons (ps_if (pt_not (pt_truth (pe_call (ok_is_drift T) (hr.mono (by decide)) (by rfl) T.g_is_drift T.F_is_drift.kp T.b_is_drift .nil pass0 (pa_cons (pv 1) pa_nil)) (by intro _; rfl))) (pss_one ps_never) pss_nil) (pss_cons (ps_fld (pv 0) (pv 1) rfl) (pss_cons (ps_fld (pv 0) pe_non rfl) (pss_one (ps_fld (pv 0) pe_int rfl))))), ?_⟩
    refine ⟨_, rfl, dr, t, b, rfl, hd, fun H1 s1 => ⟨true, rfl, iteF ?_⟩⟩
    refine ⟨_, rfl, _, rfl, x, _, dx, _, rfl, s1 _ _ hx, T.cl, T.n_most_drift, (by decide), ?_⟩
    refine ⟨_, rfl, x, _, dx, _, rfl, upd_same, T.cl, T.n_stands, (by show 1 < 1000; decide), ?_⟩
    refine ⟨_, rfl, x, _, dx, _, rfl, upd_same, T.cl, T.n_counted, (by simp only [putF, if_neg ne_ms]; show 2 < 1000; decide), ?_⟩
    have f1 : ∀ o1 o2 o3, Fr x H (upd (upd (upd H1 x o1) x o2) x o3) := fun _ _ _ => (((fr_same s1).put).put).put
    exact q _ (f1 _ _ _) ⟨⟨dx, .non, upd_same, rfl⟩, hd.fr (f1 _ _ _) hx trivial, Int.le_refl 0⟩

theorem ok_Clock_is_set {P : Program} {w : World} {K : PySem.W.Frag} {mg : Str → Option Value} {base : Heap} {a : Nat → Addr} {d : Nat → FuncData} (T : Txt K mg a d) : FnOk P w K mg base CX0 1 (a 10) (d 10) ["self"] (spIsSet K (a 28)) := by
  refine T.F_Clock_is_set.ok sc_Clock_is_set (fun vs H Q E h => ?_) (fun cdv A outer s0 H vs Q E hr h => ?_)
  · obtain ⟨c, dr, t, b, st, n, rfl, ⟨⟨dx, sv, hc, hs⟩, hd, nn⟩, q⟩ := h
    rfl
  · obtain ⟨c, dr, t, b, st, n, rfl, ⟨⟨dx, sv, hc, hs⟩, hd, nn⟩, q⟩ := h
    refine ⟨_, (pss_one (ps_ret (pe_cmpR op_notN (pe_fld (pv 0) rfl) pe_non (nomark _)))), ?_⟩
    refine ⟨_, rfl, c, _, dx, _, _, rfl, hc, T.cl, T.n_stands, cf_s _ _ _, rfl, ?_⟩
    cases st with
    | none =>
      have e : sv = V.non := hs
      subst e
      exact q
    | some z =>
      obtain ⟨p, e, _⟩ := hs
      subst e
      exact q

theorem ok_Clock_bounds {P : Program} {w : World} {K : PySem.W.Frag} {mg : Str → Option Value} {base : Heap} {a : Nat → Addr} {d : Nat → FuncData} (T : Txt K mg a d) : FnOk P w K mg base CX0 5 (a 13) (d 13) ["self"] (spBounds K (a 28)) := by
  refine T.F_Clock_bounds.ok sc_Clock_bounds (fun vs H Q E h => ?_) (fun cdv A outer s0 H vs Q E hr h => ?_)
  · obtain ⟨c, dr, t, b, lo, hi, n, rfl, hk, q⟩ := h
    rfl
  · obtain ⟨c, dr, t, b, lo, hi, n, rfl, hk, q⟩ := h
    obtain ⟨⟨dx, sv, hc, hs⟩, hd, nn⟩ := id hk
    obtain ⟨sp, rfl, hs'⟩ := id hs
    refine ⟨_, (pss_cons (ps_if (pt_cmpR op_isN (pe_fld (pv 0) rfl) pe_non (nomark _)) (pss_one ps_never) pss_nil) (pss_one (ps_ret (pe_call (ok_bounds_behind T) (hr.mono (by decide)) (by rfl) T.g_bounds_behind T.F_bounds_behind.kp T.b_bounds_behind .nil pass0 (pa_cons (pe_fld (pv 0) rfl) (pa_cons (pe_fld (pv 0) rfl) (pa_cons (pe_fld (pv 0) rfl) pa_nil))))))), ?_⟩
    refine ⟨_, rfl, c, _, dx, _, _, rfl, hc, T.cl, T.n_stands, cf_s _ _ _, rfl, _, rfl, iteF ?_⟩
    refine ⟨_, rfl, c, _, dx, _, _, rfl, hc, T.cl, T.n_stands, cf_s _ _ _, _, rfl, c, _, dx, _, _, rfl, hc, T.cl, T.n_counted, cf_c _ _ _, _, rfl, c, _, dx, _, _, rfl, hc, T.cl, T.n_most_drift, cf_m _ _ _, ?_⟩
    exact ⟨_, some (lo, hi), n, dr, t, b, rfl, hs, nn, hd, fun p np => q p np⟩

theorem ok_Clock_set_to {P : Program} {w : World} {K : PySem.W.Frag} {mg : Str → Option Value} {base : Heap} {a : Nat → Addr} {d : Nat → FuncData} (T : Txt K mg a d) : FnOk P w K mg base CX0 6 (a 11) (d 11) ["self", "low", "high"] (spSet K (a 28)) := by
  refine T.F_Clock_set_to.ok sc_Clock_set_to (fun vs H Q E h => ?_) (fun cdv A outer s0 H vs Q E hr h => ?_)
  · obtain ⟨c, dr, t, b, st, n, low, high, rfl, hk, hlh, hle, q⟩ := h
    rfl
  · obtain ⟨c, dr, t, b, st, n, low, high, rfl, hk, hlh, hle, q⟩ := h
    refine ⟨_, (pss_cons (ps_set (i := 3) sc_Clock_set_to.nd rfl (Or.inl rfl) (pe_call (ok_bounds_behind T) (hr.mono (by decide)) (by rfl) T.g_bounds_behind T.F_bounds_behind.kp T.b_bounds_behind .nil pass0 (pa_cons (pe_fld (pv 0) rfl) (pa_cons (pe_fld (pv 0) rfl) (pa_cons (pe_fld (pv 0) rfl) pa_nil))))) (pss_cons (ps_fld (pv 0) (pe_call (ok_set_between T) (hr.mono (by decide)) (by rfl) T.g_set_between T.F_set_between.kp T.b_set_between .nil pass0 (pa_cons (pv 3) (pa_cons (pv 1) (pa_cons (pv 2) pa_nil)))) rfl) (pss_one (ps_fld (pv 0) pe_int rfl)))), ?_⟩
    obtain ⟨⟨dx, sv, hc, hs⟩, hd, nn⟩ := id hk
    refine ⟨_, rfl, c, _, dx, _, _, rfl, hc, T.cl, T.n_stands, cf_s _ _ _, _, rfl, c, _, dx, _, _, rfl, hc, T.cl, T.n_counted, cf_c _ _ _, _, rfl, c, _, dx, _, _, rfl, hc, T.cl, T.n_most_drift, cf_m _ _ _, ?_⟩
    refine ⟨_, st, n, dr, t, b, rfl, hs, nn, hd, ?_⟩
    cases st with
    | none =>
      refine ⟨_, rfl, _, rfl, _, rfl, _, none, low, high, rfl, rfl, hlh, hle, fun p np => ?_⟩
      have npc : c ≠ p := ne_of_none hc np
      refine ⟨_, rfl, c, _, dx, _, rfl, (by rw [upd_ne npc]; exact hc), T.cl, T.n_stands, cf_len _ _ _, ?_⟩
      refine ⟨_, rfl, c, _, dx, _, rfl, upd_same, T.cl, T.n_counted, (by rw [cf_put_s]; exact cf_len _ _ _), ?_⟩
      rw [cf_put_s, cf_put_c]
      have f1 : Fr c H (upd (upd (upd H p (.tup [.int low, .int high])) c (.ins (a 28) dx (cf (.ref dr) (.ref p) n))) c (.ins (a 28) dx (cf (.ref dr) (.ref p) 0))) := (((Fr.refl c H).new np).put).put
      exact q _ f1 ⟨⟨dx, .ref p, upd_same, p, rfl, SqT.of (by rw [upd_ne npc.symm, upd_ne npc.symm]; exact upd_same)⟩, hd.fr f1 hc trivial, Int.le_refl 0⟩
    | some z =>
      obtain ⟨lo, hi⟩ := z
      intro p1 np1
      refine ⟨_, rfl, _, rfl, _, rfl, _, some (lo + leastP n t b, hi + mostP n t b), low, high, rfl, ⟨p1, rfl, SqT.of upd_same⟩, hlh, hle, fun p np => ?_⟩
      have hc1 : upd H p1 (.tup [.int (lo + leastP n t b), .int (hi + mostP n t b)]) c = some (.ins (a 28) dx (cf (.ref dr) sv n)) := by
        rw [upd_ne (ne_of_none hc np1)]
        exact hc
      have npc : c ≠ p := ne_of_none hc1 np
      refine ⟨_, rfl, c, _, dx, _, rfl, (by rw [upd_ne npc]; exact hc1), T.cl, T.n_stands, cf_len _ _ _, ?_⟩
      refine ⟨_, rfl, c, _, dx, _, rfl, upd_same, T.cl, T.n_counted, (by rw [cf_put_s]; exact cf_len _ _ _), ?_⟩
      rw [cf_put_s, cf_put_c]
      have f1 : Fr c H (upd (upd (upd (upd H p1 (.tup [.int (lo + leastP n t b), .int (hi + mostP n t b)])) p (.tup [.int (setLow low (some (lo, hi)) t b n), .int (setHigh high (some (lo, hi)) t b n)])) c (.ins (a 28) dx (cf (.ref dr) (.ref p) n))) c (.ins (a 28) dx (cf (.ref dr) (.ref p) 0))) := ((((Fr.refl c H).new np1).new np).put).put
      exact q _ f1 ⟨⟨dx, .ref p, upd_same, p, rfl, SqT.of (by rw [upd_ne npc.symm, upd_ne npc.symm]; exact upd_same)⟩, hd.fr f1 hc trivial, Int.le_refl 0⟩

theorem ok_Clock_tick {P : Program} {w : World} {K : PySem.W.Frag} {mg : Str → Option Value} {base : Heap} {a : Nat → Addr} {d : Nat → FuncData} (T : Txt K mg a d) : FnOk P w K mg base CX0 4 (a 12) (d 12) ["self", "many"] (spTick K (a 28)) := by
  refine T.F_Clock_tick.ok (CX := CX0) sc_Clock_tick (fun vs H Q E h => ?_) (fun cdv A outer s0 H vs Q E hr h => ?_)
  · obtain ⟨c, dr, t, b, st, n, m, rfl, hk, m0, q⟩ := h
    rfl
  · obtain ⟨c, dr, t, b, st, n, m, rfl, hk, m0, q⟩ := h
    obtain ⟨⟨dx, sv, hc, hs⟩, hd, nn⟩ := id hk
    refine ⟨_, PSs.nox (pss_cons (ps_expr (pe_call (ok_refuse_no_count T) (hr.mono (by decide)) (by rfl) T.g_refuse_no_count T.F_refuse_no_count.kp T.b_refuse_no_count .nil pass0 (pa_cons (pv 1) pa_nil))) (pss_one (ps_fldaug (pv 0) (pv 1) in_add))), ?_⟩
    refine ⟨_, rfl, m, rfl, m0, ?_⟩
    refine ⟨_, rfl, c, _, dx, _, _, rfl, hc, T.cl, T.n_counted, cf_c _ _ _, _, rfl, n, m, rfl, rfl, dx, _, hc, cf_len _ _ _, ?_⟩
    rw [cf_put_c]
    have f1 : Fr c H (upd H c (.ins (a 28) dx (cf (.ref dr) sv (n + m)))) := (Fr.refl c H).put
    exact q _ f1 ⟨⟨dx, sv, upd_same, hs.fr f1 hc trivial⟩, hd.fr f1 hc trivial, by omega⟩

theorem ok_l_bag {P : Program} {w : World} {K : PySem.W.Frag} {mg : Str → Option Value} {base : Heap} {a : Nat → Addr} {d : Nat → FuncData} (T : Txt K mg a d) : FnOk P w K mg base CX0 1 (a 16) (d 16) ["_law_script", "_law_k"] (spBag K) := by
  refine T.F_l_bag.ok sc_l_bag (fun vs H Q E h => ?_) (fun cdv A outer s0 H vs Q E hr h => ?_)
  · obtain ⟨l, ns, k, rfl, hS, hk0, hk1, q⟩ := h
    rfl
  · obtain ⟨l, ns, k, rfl, hS, hk0, hk1, q⟩ := h
    obtain ⟨k, rfl⟩ := Int.eq_ofNat_of_zero_le hk0
    refine ⟨_, (pss_cons (ps_set (i := 2) sc_l_bag.nd rfl (Or.inl rfl) pe_int) (pss_cons (ps_if (pt_cmpR op_lt (pv 1) (pe_callB call_len_seq (by rfl) T.z_len PySem.boot_len (pa_cons (pv 0) pa_nil)) (nomark _)) (pss_one (ps_set (i := 2) sc_l_bag.nd rfl (Or.inl rfl) (pe_ix ix_list (pv 0) (pv 1) (fun _ _ => rfl)))) pss_nil) (pss_cons (ps_set (i := 3) sc_l_bag.nd rfl (Or.inl rfl) pe_int) (pss_cons (ps_if (pt_cmpR op_ge (pv 2) (pe_op op_pow pe_int pe_int) (nomark _)) (pss_one (ps_set (i := 3) sc_l_bag.nd rfl (Or.inl rfl) (pv 2))) pss_nil) (pss_one (ps_ret (pe_lst (pa_cons (pv 3) (pa_cons (pe_op op_mod (pe_op op_pow (pe_op op_add (pe_op op_add (pe_op op_mod (pv 2) pe_int) (pe_op op_mul pe_int (pv 1))) pe_int) pe_int) pe_int) pa_nil))))))))), ?_⟩
    have fin : ∀ cell great : Int, ∀ p4, H p4 = none → BagAt (upd H p4 (.lst [.int great, .int ((cell % 998244353 + 7368787 * (k : Int) + 41) ^ (3 : Int).toNat % 2147483629)])) p4 := fun cell great p4 n4 =>
      ⟨_, _, upd_same, Int.emod_nonneg _ (by decide), Int.lt_trans (Int.emod_lt_of_pos _ (by decide)) (by decide)⟩
    have pw : ∀ cell : Int, (cell % 998244353 + 7368787 * (k : Int) + 41).natAbs < 2 ^ 64 := fun cell => by
      have h1 := Int.emod_nonneg cell (show (998244353 : Int) ≠ 0 by decide)
      have h2 := Int.emod_lt_of_pos cell (show (0 : Int) < 998244353 by decide)
      have e : (2 : Nat) ^ 64 = 18446744073709551616 := by decide
      rw [e]
      omega
    refine ⟨_, rfl, _, rfl, l, _, rfl, .inl hS, _, _, rfl, rfl, _, rfl, ?_⟩
    refine ite2 (fun hlt => ?_) (fun hlt => ?_)
    · have hlt' : k < ns.length := by
        have z := of_decide_eq_true hlt
        rw [List.length_map] at z
        omega
      refine ⟨_, rfl, _, rfl, l, _, _, _, rfl, rfl, hS, atI_nat (j := k) (v := .int ns[k]) (by rw [List.getElem?_map, List.getElem?_eq_getElem hlt']; rfl), ?_⟩
      refine ⟨_, rfl, 10, 18, rfl, rfl, ⟨by decide, by decide, by decide⟩, _, _, rfl, rfl, _, rfl, ?_⟩
      refine ite2 (fun _ => ?_) (fun _ => ?_)
      · refine ⟨_, rfl, ?_⟩
        refine ⟨_, rfl, _, rfl, _, _, rfl, rfl, (by show (0 : Int) < 998244353; decide), _, rfl, _, k, rfl, rfl, .inl (m64 (by decide) (by decide)), _, _, rfl, rfl, _, 41, rfl, rfl, _, 3, rfl, rfl, ⟨by decide, by decide, pw _⟩, _, _, rfl, rfl, (by show (0 : Int) < 2147483629; decide), len2, fun p4 n4 => ?_⟩
        exact q p4 _ n4 (same_new (Same.refl H) n4) (fin _ _ p4 n4)
      · refine ⟨_, rfl, _, rfl, _, _, rfl, rfl, (by show (0 : Int) < 998244353; decide), _, rfl, _, k, rfl, rfl, .inl (m64 (by decide) (by decide)), _, _, rfl, rfl, _, 41, rfl, rfl, _, 3, rfl, rfl, ⟨by decide, by decide, pw _⟩, _, _, rfl, rfl, (by show (0 : Int) < 2147483629; decide), len2, fun p4 n4 => ?_⟩
        exact q p4 _ n4 (same_new (Same.refl H) n4) (fin _ _ p4 n4)
    · refine ⟨_, rfl, 10, 18, rfl, rfl, ⟨by decide, by decide, by decide⟩, _, _, rfl, rfl, _, rfl, ?_⟩
      refine iteDF (by decide) ?_
      refine ⟨_, rfl, _, rfl, _, _, rfl, rfl, (by show (0 : Int) < 998244353; decide), _, rfl, _, k, rfl, rfl, .inl (m64 (by decide) (by decide)), _, _, rfl, rfl, _, 41, rfl, rfl, _, 3, rfl, rfl, ⟨by decide, by decide, pw _⟩, _, _, rfl, rfl, (by show (0 : Int) < 2147483629; decide), len2, fun p4 n4 => ?_⟩
      exact q p4 _ n4 (same_new (Same.refl H) n4) (fin _ _ p4 n4)

theorem ok_l_out {P : Program} {w : World} {K : PySem.W.Frag} {mg : Str → Option Value} {base : Heap} {a : Nat → Addr} {d : Nat → FuncData} (T : Txt K mg a d) : FnOk P w K mg base CX0 1 (a 17) (d 17) ["_law_bag_here", "_law_many"] spOut := by
  refine T.F_l_out.ok sc_l_out (fun vs H Q E h => ?_) (fun cdv A outer s0 H vs Q E hr h => ?_)
  · obtain ⟨s, m, rfl, ⟨x, y, hs, y0, y1⟩, m0, m1, q⟩ := h
    rfl
  · obtain ⟨s, m, rfl, ⟨x, y, hs, y0, y1⟩, m0, m1, q⟩ := h
    refine ⟨_, (pss_cons (ps_if (pt_cmpR op_gt (pe_ix ix_list (pv 0) pe_int (fun _ _ => rfl)) pe_int (nomark _)) (pss_cons (ps_set (i := 2) sc_l_out.nd rfl (Or.inl rfl) (pe_op op_mod (pe_ix ix_list (pv 0) pe_int (fun _ _ => rfl)) (pv 1))) (pss_cons (ps_asg (pe_op op_fdivW (pe_ix ix_list (pv 0) pe_int (fun _ _ => rfl)) (pv 1)) (pg_sub (pv 0) pe_int set_list)) (pss_one (ps_ret (pv 2))))) pss_nil) (pss_cons (ps_asg (pe_op op_mod (pe_op op_add (pe_op op_mul (pe_ix ix_list (pv 0) pe_int (fun _ _ => rfl)) pe_int) pe_int) pe_int) (pg_sub (pv 0) pe_int set_list)) (pss_one (ps_ret (pe_op op_mod (pe_op op_fdiv (pe_op op_mod (pe_op op_mul (pe_ix ix_list (pv 0) pe_int (fun _ _ => rfl)) (pe_op op_add (pe_op op_fdiv (pe_ix ix_list (pv 0) pe_int (fun _ _ => rfl)) pe_int) pe_int)) pe_int) pe_int) (pv 1)))))), ?_⟩
    refine ⟨_, rfl, s, _, 0, _, rfl, rfl, SqL.of hs, rfl, x, 0, rfl, rfl, _, rfl, ?_⟩
    refine ite2 (fun _ => ?_) (fun _ => ?_)
    · refine ⟨_, rfl, s, _, 0, _, rfl, rfl, SqL.of hs, rfl, _, rfl, x, m, rfl, rfl, m0, ?_⟩
      refine ⟨_, rfl, s, _, 0, _, rfl, rfl, SqL.of hs, rfl, _, rfl, x, m, rfl, rfl, divW m0 m1, _, rfl, s, _, 0, 0, rfl, rfl, hs, rfl, ?_⟩
      refine ⟨_, rfl, ?_⟩
      exact q _ _ (Int.emod_nonneg _ (by omega)) (Int.emod_lt_of_pos _ m0) (Fr.refl s H).put ⟨_, _, upd_same, y0, y1⟩
    · refine ⟨_, rfl, s, _, 1, _, rfl, rfl, SqL.of hs, rfl, y, 40692, rfl, rfl, .inr (m64 (by decide) (by decide)), _, 12345, rfl, rfl, _, 2147483399, rfl, rfl, (by show (0 : Int) < 2147483399; decide), _, rfl, s, _, 1, 1, rfl, rfl, hs, rfl, ?_⟩
      have e0 : 0 ≤ (y * 40692 + 12345) % 2147483399 := Int.emod_nonneg _ (by decide)
      have e1 : (y * 40692 + 12345) % 2147483399 < 2147483399 := Int.emod_lt_of_pos _ (by decide)
      refine ⟨_, rfl, s, _, 1, _, rfl, rfl, SqL.of upd_same, rfl, _, rfl, s, _, 1, _, rfl, rfl, SqL.of upd_same, rfl, _, 1024, rfl, rfl, ⟨by decide, by decide⟩, _, 7, rfl, rfl, _, _, rfl, rfl, .inl (m64 (by omega) (by omega)), _, 2147483647, rfl, rfl, (by show (0 : Int) < 2147483647; decide), _, 32, rfl, rfl, ⟨by decide, by decide⟩, _, rfl, _, m, rfl, rfl, m0, ?_⟩
      exact q _ _ (Int.emod_nonneg _ (by omega)) (Int.emod_lt_of_pos _ m0) (Fr.refl s H).put ⟨_, _, upd_same, e0, by omega⟩

theorem ok_l_drift {P : Program} {w : World} {K : PySem.W.Frag} {mg : Str → Option Value} {base : Heap} {a : Nat → Addr} {d : Nat → FuncData} (T : Txt K mg a d) : FnOk P w K mg base CX0 2 (a 18) (d 18) ["_law_bag_here"] (spLDrift K) := by
  refine T.F_l_drift.ok sc_l_drift (fun vs H Q E h => ?_) (fun cdv A outer s0 H vs Q E hr h => ?_)
  · obtain ⟨s, rfl, hs, q⟩ := h
    rfl
  · obtain ⟨s, rfl, hs, q⟩ := h
    refine ⟨_, (pss_cons (ps_set (i := 1) sc_l_drift.nd rfl (Or.inl rfl) (pe_op op_add pe_int (pe_call (ok_l_out T) (hr.mono (by decide)) (by rfl) T.g_l_out T.F_l_out.kp T.b_l_out .nil pass0 (pa_cons (pv 0) (pa_cons (pe_ix ix_list (pe_lst (pa_cons pe_int (pa_cons pe_int (pa_cons pe_int (pa_cons pe_int pa_nil))))) (pe_call (ok_l_out T) (hr.mono (by decide)) (by rfl) T.g_l_out T.F_l_out.kp T.b_l_out .nil pass0 (pa_cons (pv 0) (pa_cons pe_int pa_nil))) (fun _ _ => rfl)) pa_nil))))) (pss_cons (ps_set (i := 2) sc_l_drift.nd rfl (Or.inl rfl) (pe_call (ok_l_out T) (hr.mono (by decide)) (by rfl) T.g_l_out T.F_l_out.kp T.b_l_out .nil pass0 (pa_cons (pv 0) (pa_cons (pv 1) pa_nil)))) (pss_cons (ps_set (i := 3) sc_l_drift.nd rfl (Or.inl rfl) (pv 2)) (pss_cons (ps_set (i := 4) sc_l_drift.nd rfl (Or.inl rfl) (pv 1)) (pss_cons (ps_while PassesOwn.never (pt_cmpR op_gt (pv 4) pe_int (nomark _)) (pss_one (ps_par (i := 3) (j := 4) (by rfl) sc_l_drift.nd rfl rfl (by decide) rfl rfl (pa_cons (pv 4) (pa_cons (pe_op op_mod (pv 3) (pv 4)) pa_nil)) (by rfl)))) (pss_one (ps_ret (pe_tup (pa_cons (pe_op op_fdivW (pv 2) (pv 3)) (pa_cons (pe_op op_fdivW (pv 1) (pv 3)) pa_nil)))))))))), ?_⟩
    refine ⟨_, rfl, (by decide : 4 ≤ sizeLine), fun p1 n1 => ?_⟩
    refine ⟨_, rfl, s, 4, rfl, hs.new n1, (by decide), (by decide), fun r1 H1 r10 r11 k1 b1 => ?_⟩
    have g1 : H1 p1 = some (.lst [.int 1, .int 9, .int 100, .int 1000]) := k1 _ _ (hs.ne_new n1) upd_same
    obtain ⟨z, hz, z0, z1⟩ : ∃ z : Int, atI [V.int 1, V.int 9, V.int 100, V.int 1000] r1 = some (V.int z) ∧ 0 < z ∧ z ≤ 1000 := by
      have : r1 = 0 ∨ r1 = 1 ∨ r1 = 2 ∨ r1 = 3 := by omega
      rcases this with rfl | rfl | rfl | rfl
      · exact ⟨1, rfl, by decide, by decide⟩
      · exact ⟨9, rfl, by decide, by decide⟩
      · exact ⟨100, rfl, by decide, by decide⟩
      · exact ⟨1000, rfl, by decide, by decide⟩
    have f1 : Fr s H H1 := ((Fr.refl s H).new n1).trans k1
    refine ⟨p1, _, r1, _, rfl, rfl, SqL.of g1, hz, ?_⟩
    refine ⟨s, z, rfl, b1, z0, by omega, fun r2 H2 r20 r21 k2 b2 => ?_⟩
    have f2 := f1.trans k2
    refine ⟨1, r2, rfl, rfl, ?_⟩
    refine ⟨_, rfl, _, rfl, s, _, rfl, b2, by omega, by omega, fun r3 H3 r30 r31 k3 b3 => ?_⟩
    have f3 := f2.trans k3
    refine ⟨_, rfl, _, rfl, ?_⟩
    refine ⟨fun m σ H' => H' = H3 ∧ ∃ h t : Int, σ = [some (.ref s), some (.int (1 + r2)), some (.int r3), some (.int h), some (.int t)] ∧ m = t.toNat ∧ 0 ≤ h ∧ 0 ≤ t ∧ Int.gcd h t = Int.gcd r3 (1 + r2), ⟨_, rfl, r3, 1 + r2, rfl, rfl, r30, by omega, rfl⟩, ?_⟩
    rintro m σ H' ⟨rfl, h, t, rfl, rfl, h0, t0, eg⟩
    refine ⟨_, rfl, t, 0, rfl, rfl, _, rfl, ?_⟩
    by_cases tp : 0 < t
    · refine iteDT tp ?_
      refine ⟨_, fun _ _ z => z, ?_⟩
      refine ⟨_, rfl, _, rfl, _, rfl, h, t, rfl, rfl, tp, _, _, rfl, ?_⟩
      have e0 := Int.emod_nonneg h (show t ≠ 0 by omega)
      have e1 := Int.emod_lt_of_pos h tp
      exact ⟨(h % t).toNat, by omega, rfl, t, h % t, rfl, rfl, t0, e0, (gcd_turn h0 tp).trans eg⟩
    · refine iteDF tp ?_
      have hz : t = 0 := by omega
      subst hz
      obtain ⟨hp, e1, e2, e3, hl⟩ := low_end r30 (by omega) h0 eg
      refine ⟨_, rfl, _, rfl, r3, h, rfl, rfl, divW hp (by omega), _, rfl, _, rfl, 1 + r2, h, rfl, rfl, divW hp (by omega), len2, fun p np => ?_⟩
      have t0' := nn_of_mul hp r30 e1
      have l0 := pos_of_mul hp (show 0 < 1 + r2 by omega) e2
      have l1 := le_of_gmul hp (Int.le_of_lt l0) e2
      exact q _ _ p _ (f3.new np) (b3.new np) ⟨SqT.of upd_same, t0', lt_cancel hp (by omega), by omega, e3⟩ upd_same

theorem ok_is_wholeD {P : Program} {w : World} {K : PySem.W.Frag} {mg : Str → Option Value} {base : Heap} {a : Nat → Addr} {d : Nat → FuncData} (T : Txt K mg a d) : FnOk P w K mg base CX0 1 (a 0) (d 0) ["thing"] (spWholeD K) := by
  refine T.F_is_whole.ok sc_is_whole (fun vs H Q E h => ?_) (fun cdv A outer s0 H vs Q E hr h => ?_)
  · obtain ⟨v, d', rfl, ha, q⟩ := h
    rfl
  · obtain ⟨v, d', rfl, ha, q⟩ := h
    refine ⟨_, (pss_one (ps_ret (pe_and (pe_callB call_isi (by rfl) T.z_isinstance (by decide +kernel) (pa_cons (pv 0) (pa_cons (pe_bltn (v := .ty "int") (by rfl) T.z_int (by decide +kernel) rfl) pa_nil))) (pe_one (pe_not (pe_callB call_isi (by rfl) T.z_isinstance (by decide +kernel) (pa_cons (pv 0) (pa_cons (pe_bltn (v := .ty "bool") (by rfl) T.z_bool (by decide +kernel) rfl) pa_nil)))))))), ?_⟩
    obtain ⟨t, i, b, c, ty, ei, eb, _, ew, _⟩ := ha.is
    refine ⟨_, rfl, v, .ty "int", t, .type "int", i, rfl, .ty "int", ty, ei, i, rfl, ?_⟩
    cases i with
    | false => exact iteF (bq (Q := Q) ew.symm q)
    | true => exact iteT ⟨_, rfl, v, .ty "bool", t, .type "bool", b, rfl, .ty "bool", ty, eb, b, rfl, bq (Q := Q) ew.symm q⟩

theorem ok_is_countD {P : Program} {w : World} {K : PySem.W.Frag} {mg : Str → Option Value} {base : Heap} {a : Nat → Addr} {d : Nat → FuncData} (T : Txt K mg a d) : FnOk P w K mg base CX0 2 (a 1) (d 1) ["thing"] (spCountD K) := by
  refine T.F_is_count.ok sc_is_count (fun vs H Q E h => ?_) (fun cdv A outer s0 H vs Q E hr h => ?_)
  · obtain ⟨v, d', rfl, ha, q⟩ := h
    rfl
  · obtain ⟨v, d', rfl, ha, q⟩ := h
    refine ⟨_, (pss_one (ps_ret (pe_and (pe_call (ok_is_wholeD T) (hr.mono (by decide)) (by rfl) T.g_is_whole T.F_is_whole.kp T.b_is_whole .nil pass0 (pa_cons (pv 0) pa_nil)) (pe_one (pe_cmpR op_ge (pv 0) pe_int (nomark _)))))), ?_⟩
    refine ⟨_, rfl, v, d', rfl, ha, _, rfl, ?_⟩
    cases e : wholeD d' with
    | false => exact iteF (bq (Q := Q) (count_no e) q)
    | true =>
      obtain ⟨n, rfl⟩ := whole_int e
      have ev : v = .int n := by
        cases ha with
        | dp h => cases h; rfl
      subst ev
      exact iteT ⟨_, rfl, n, 0, rfl, rfl, q⟩

theorem ok_is_from_toD {P : Program} {w : World} {K : PySem.W.Frag} {mg : Str → Option Value} {base : Heap} {a : Nat → Addr} {d : Nat → FuncData} (T : Txt K mg a d) : FnOk P w K mg base CX0 1 (a 2) (d 2) ["thing", "least", "most"] (spFromToD K) := by
  refine T.F_is_from_to.ok sc_is_from_to (fun vs H Q E h => ?_) (fun cdv A outer s0 H vs Q E hr h => ?_)
  · obtain ⟨v, d', lo, hi, rfl, ha, q⟩ := h
    rfl
  · obtain ⟨v, d', lo, hi, rfl, ha, q⟩ := h
    refine ⟨_, (pss_one (ps_ret (pe_and (pe_callB call_isi (by rfl) T.z_isinstance (by decide +kernel) (pa_cons (pv 0) (pa_cons (pe_bltn (v := .ty "int") (by rfl) T.z_int (by decide +kernel) rfl) pa_nil))) (pe_and (pe_not (pe_callB call_isi (by rfl) T.z_isinstance (by decide +kernel) (pa_cons (pv 0) (pa_cons (pe_bltn (v := .ty "bool") (by rfl) T.z_bool (by decide +kernel) rfl) pa_nil)))) (pe_one (pe_chain op_le op_le (pv 1) (pv 0) (pv 2))))))), ?_⟩
    obtain ⟨t, i, b, c, ty, ei, eb, _, ew, _⟩ := ha.is
    refine ⟨_, rfl, v, .ty "int", t, .type "int", i, rfl, .ty "int", ty, ei, i, rfl, ?_⟩
    cases i with
    | false => exact iteF (bq (Q := Q) (fromTo_no ew.symm) q)
    | true =>
      refine iteT ⟨_, rfl, v, .ty "bool", t, .type "bool", b, rfl, .ty "bool", ty, eb, b, rfl, _, rfl, ?_⟩
      cases b with
      | true => exact iteF (bq (Q := Q) (fromTo_no ew.symm) q)
      | false =>
        obtain ⟨n, rfl⟩ := whole_int ew.symm
        have ev : v = .int n := by
          cases ha with
          | dp h => cases h; rfl
        subst ev
        refine iteT ⟨_, rfl, _, rfl, lo, n, rfl, rfl, _, rfl, ?_⟩
        by_cases h1 : lo ≤ n
        · refine iteDT h1 ⟨_, rfl, n, hi, rfl, rfl, bq (Q := Q) ?_ q⟩
          simp only [fromToD, h1, decide_true, Bool.true_and]
        · refine iteDF h1 (bq (Q := Q) ?_ q)
          simp only [fromToD, h1, decide_false, Bool.false_and]

theorem ok_is_shareD {P : Program} {w : World} {K : PySem.W.Frag} {mg : Str → Option Value} {base : Heap} {a : Nat → Addr} {d : Nat → FuncData} (T : Txt K mg a d) : FnOk P w K mg base CX0 3 (a 4) (d 4) ["thing"] (spShareD K) := by
  refine T.F_is_share.ok sc_is_share (fun vs H Q E h => ?_) (fun cdv A outer s0 H vs Q E hr h => ?_)
  · obtain ⟨v, d', rfl, ha, q⟩ := h
    rfl
  · obtain ⟨v, d', rfl, ha, q⟩ := h
    refine ⟨_, (pss_cons (ps_if (PW.pt (pw_or (pt_not (pt_truth (pe_callB call_isi (by rfl) T.z_isinstance (by decide +kernel) (pa_cons (pv 0) (pa_cons (pe_bltn (v := .ty "tuple") (by rfl) T.z_tuple (by decide +kernel) rfl) pa_nil))) (by intro _; rfl))) (pw_or1 (pt_cmpR op_ne (pe_callB call_len_seq (by rfl) T.z_len PySem.boot_len (pa_cons (pv 0) pa_nil)) pe_int (nomark _))))) (pss_one (ps_ret pe_bl)) pss_nil) (pss_cons (ps_asg (pv 0) (pg_tup (by rfl) (pgs_cons (pg_name (i := 1) sc_is_share.nd rfl (.inl rfl)) (pgs_cons (pg_name (i := 2) sc_is_share.nd rfl (.inl rfl)) pgs_nil)))) (pss_cons (ps_if (PW.pt (pw_or (pt_not (pt_truth (pe_call (ok_is_from_toD T) (hr.mono (by decide)) (by rfl) T.g_is_from_to T.F_is_from_to.kp T.b_is_from_to .nil pass0 (pa_cons (pv 2) (pa_cons pe_int (pa_cons (pe_glob (v := .int 1000) (by rfl) (Exists.choose_spec T.g_MOST_BOTTOM) ⟨_, rfl⟩) pa_nil)))) (by intro _; rfl))) (pw_or1 (pt_not (pt_truth (pe_call (ok_is_from_toD T) (hr.mono (by decide)) (by rfl) T.g_is_from_to T.F_is_from_to.kp T.b_is_from_to .nil pass0 (pa_cons (pv 1) (pa_cons pe_int (pa_cons (pv 2) pa_nil)))) (by intro _; rfl)))))) (pss_one (ps_ret pe_bl)) pss_nil) (pss_one (ps_ret (pe_or (pe_cmpR op_eq (pv 1) pe_int (nomark _)) (pe_one (pe_cmpR op_eq (pe_call (ok_common_divisor T) (hr.mono (by decide)) (by rfl) T.g_common_divisor T.F_common_divisor.kp T.b_common_divisor .nil pass0 (pa_cons (pv 1) (pa_cons (pv 2) pa_nil))) pe_int (nomark _))))))))), ?_⟩
    obtain ⟨t, _, _, c, ty, _, _, et, _, ec⟩ := ha.is
    refine ⟨_, rfl, v, .ty "tuple", t, .type "tuple", c, rfl, .ty "tuple", ty, et, c, rfl, ?_⟩
    cases c with
    | false => exact iteT (bq (Q := Q) (row2f (notup ec.symm 2)) (q H (Same.refl H)))
    | true =>
      refine iteF ?_
      obtain ⟨ds, rfl⟩ := istup ec.symm
      obtain ⟨p, xs, rfl, hS, hall⟩ := ha.tup
      have hlen := dpall_len hall
      refine ⟨_, rfl, p, _, rfl, .inr hS, rfl, _, rfl, ?_⟩
      by_cases h2 : xs.length = 2
      · refine iteNS (by rw [h2]; rfl) ?_
        obtain ⟨x0, x1, d0, d1, rfl, rfl, y0, y1⟩ := dpall_two hall h2
        refine ⟨_, rfl, p, _, rfl, hS, rfl, _, _, rfl, _, _, rfl, rfl, ?_⟩
        refine ⟨_, rfl, x1, d1, 1, 1000, rfl, .dp y1, _, rfl, ?_⟩
        cases e1 : fromToD d1 1 1000 with
        | false => exact iteT (bq (Q := Q) (sf1 e1) (q H (Same.refl H)))
        | true =>
          obtain ⟨b, rfl, c1, c2⟩ := fromTo_int e1
          cases y1
          refine iteF ⟨_, rfl, _, rfl, x0, d0, 0, b, rfl, .dp y0, _, rfl, ?_⟩
          cases e0 : fromToD d0 0 b with
          | false => exact iteT (bq (Q := Q) (sf0 e0) (q H (Same.refl H)))
          | true =>
            obtain ⟨t, rfl, c3, c4⟩ := fromTo_int e0
            cases y0
            refine iteF ⟨_, rfl, rfl, _, rfl, ?_⟩
            have e6 : shareD (.tuple [.int t, .int b]) = decide (Int.gcd t b = 1) := by
              simp only [shareD, c1, c2, c3, c4, decide_true, Bool.and_self, Bool.true_and]
            refine ite2 (fun h => ?_) (fun h => ?_)
            · have h3 : V.int t = V.int 1 := of_decide_eq_true h
              injection h3 with h3
              subst h3
              refine bq (Q := Q) ?_ (q H (Same.refl H))
              rw [e6, Int.gcd_one_left]
              rfl
            · refine ⟨_, rfl, _, rfl, t, b, rfl, c3, by omega, rfl, ?_⟩
              have e5 : (V.int ((Int.gcd t b : Nat) : Int) = V.int 1) ↔ Int.gcd t b = 1 := ⟨fun z => by injection z with z; omega, fun z => by rw [z]; rfl⟩
              refine bq (Q := Q) ?_ (q H (Same.refl H))
              rw [e6]
              exact decide_eq_decide.mpr e5.symm
      · refine iteND (fun z => h2 (by injection z with z; omega)) ?_
        exact bq (Q := Q) (row2f (by simp [rowD]; omega)) (q H (Same.refl H))

theorem ok_is_driftD {P : Program} {w : World} {K : PySem.W.Frag} {mg : Str → Option Value} {base : Heap} {a : Nat → Addr} {d : Nat → FuncData} (T : Txt K mg a d) : FnOk P w K mg base CX0 4 (a 5) (d 5) ["thing"] (spDriftD K) := by
  refine T.F_is_drift.ok sc_is_drift (fun vs H Q E h => ?_) (fun cdv A outer s0 H vs Q E hr h => ?_)
  · obtain ⟨v, d', rfl, ha, q⟩ := h
    rfl
  · obtain ⟨v, d', rfl, ha, q⟩ := h
    refine ⟨_, (pss_one (ps_ret (pe_and (pe_call (ok_is_shareD T) (hr.mono (by decide)) (by rfl) T.g_is_share T.F_is_share.kp T.b_is_share .nil pass0 (pa_cons (pv 0) pa_nil)) (pe_one (pe_cmpR (op_neD hr.units) (pv 0) (pe_glob (v := .ref (a 29)) (by rfl) T.g_WHOLE rfl) (nomark _)))))), ?_⟩
    refine ⟨_, rfl, v, d', rfl, ha, fun H1 s1 => ⟨_, rfl, ?_⟩⟩
    cases e : shareD d' with
    | false => exact iteF (bq (Q := Q) (by simp [driftD, e]) (q H1 s1))
    | true =>
      obtain ⟨t, b, rfl⟩ := share_two e
      have ha1 := ha.up s1
      cases ha1 with
      | dp hd => exact iteT ⟨_, rfl, .tuple [.int t, .int b], .tuple [.int 1, .int 1], hd, .tup (T.k_WHOLE _) (.cons (.int _) (.cons (.int _) .nil)), rfl, rfl, bq (Q := Q) (by simp [driftD, e]) (q H1 s1)⟩

theorem ok_refuse_no_countX {P : Program} {w : World} {K : PySem.W.Frag} {mg : Str → Option Value} {base : Heap} {a : Nat → Addr} {d : Nat → FuncData} (T : Txt K mg a d) : FnOk P w K mg base (L2.CX P w) 4 (a 6) (d 6) ["thing"] (spRefX K (a 103)) := by
  refine T.F_refuse_no_count.okX sc_refuse_no_count (fun vs H Q E h => ?_) (fun cdv A outer s0 H vs Q E hr h => ?_)
  · obtain ⟨v, d', rfl, ha, hd, q⟩ := h
    rfl
  · obtain ⟨v, d', rfl, ha, hd, q⟩ := h
    refine ⟨_, (pss_one (ps_if (pt_not (pt_truth (pe_call (ok_is_countD T) (hr.mono (by decide)) (by rfl) T.g_is_count T.F_is_count.kp T.b_is_count .nil pass0 (pa_cons (pv 0) pa_nil)) (by intro _; rfl))) (pss_one (ps_raise rfl (takes_of rfl rfl rfl rfl) (XB.pmk T.xo_NoNumber T.ie_NoNumber T.te_WaitError (ok_IWaitError T T.xo_NoNumber T.ne_NoNumber_text) (hr.mono (by decide)) T.b_IWaitError pass0 (by rfl) T.gE_NoNumber (pa_cons pe_str pa_nil)))) pss_nil)), ?_⟩
    refine ⟨_, rfl, v, d', rfl, ha, _, rfl, ?_⟩
    rw [hd]
    refine iteT ?_
    refine ⟨(by show 1 ≤ 1000; decide), fun y ny => ⟨y, _, rfl, upd_same, fun dx' H' ndx ne e1 e2 k => ?_⟩⟩
    have nd := ndx
    rw [upd_ne ne] at nd
    exact ⟨rfl, dx', _, e1, e2, nd, q dx' _ (same_err3 ny nd k) upd_same⟩

theorem ok_Clock_tickX {P : Program} {w : World} {K : PySem.W.Frag} {mg : Str → Option Value} {base : Heap} {a : Nat → Addr} {d : Nat → FuncData} (T : Txt K mg a d) : FnOk P w K mg base (L2.CX P w) 5 (a 12) (d 12) ["self", "many"] (spTickX K (a 103)) := by
  refine T.F_Clock_tick.ok (CX := L2.CX P w) sc_Clock_tick (fun vs H Q E h => ?_) (fun cdv A outer s0 H vs Q E hr h => ?_)
  · obtain ⟨v, x, d', rfl, ha, hd, q⟩ := h
    rfl
  · obtain ⟨v, x, d', rfl, ha, hd, q⟩ := h
    refine ⟨_, (pss_cons (ps_expr (pe_callS (ok_refuse_no_countX T) (hr.mono (by decide)) (by rfl) T.g_refuse_no_count T.F_refuse_no_count.kp T.b_refuse_no_count (fun σ => passAt (takes_of rfl rfl rfl rfl) σ) (pa_cons (pv 1) pa_nil))) pss_never), ?_⟩
    exact ⟨_, rfl, v, d', rfl, ha, hd, q⟩

theorem ok_Clock___init__X {P : Program} {w : World} {K : PySem.W.Frag} {mg : Str → Option Value} {base : Heap} {a : Nat → Addr} {d : Nat → FuncData} (T : Txt K mg a d) : FnOk P w K mg base (L2.CX P w) 6 (a 9) (d 9) ["self", "drift"] (spInitX K (a 101)) := by
  refine T.F_Clock___init__.ok (CX := L2.CX P w) sc_Clock___init__ (fun vs H Q E h => ?_) (fun cdv A outer s0 H vs Q E hr h => ?_)
  · obtain ⟨x, v, d', rfl, ha, hd, q⟩ := h
    rfl
  · obtain ⟨x, v, d', rfl, ha, hd, q⟩ := h
    refine ⟨_, (pss_cons (ps_if (pt_not (pt_truth (pe_call (ok_is_driftD T) (hr.mono (by decide)) (by rfl) T.g_is_drift T.F_is_drift.kp T.b_is_drift .nil pass0 (pa_cons (pv 1) pa_nil)) (by intro _; rfl))) (pss_one (ps_raise rfl (takes_of rfl rfl rfl rfl) (XB.pmk T.xo_NoDrift T.ie_NoDrift T.te_WaitError (ok_IWaitError T T.xo_NoDrift T.ne_NoDrift_text) (hr.mono (by decide)) T.b_IWaitError pass0 (by rfl) T.gE_NoDrift (pa_cons pe_str pa_nil)))) pss_nil) (pss_cons (ps_fld (pv 0) (pv 1) rfl) (pss_cons (ps_fld (pv 0) pe_non rfl) (pss_one (ps_fld (pv 0) pe_int rfl))))), ?_⟩
    refine ⟨_, rfl, v, d', rfl, ha, fun H1 s1 => ⟨_, rfl, ?_⟩⟩
    rw [hd]
    refine iteT ?_
    refine ⟨(by show 1 ≤ 1000; decide), fun y ny => ⟨y, _, rfl, upd_same, fun dx' H' ndx ne e1 e2 k => ?_⟩⟩
    have nd := ndx
    rw [upd_ne ne] at nd
    exact ⟨rfl, dx', _, e1, e2, nd, q dx' _ (s1.trans (same_err3 ny nd k)) upd_same⟩

theorem ok_set_betweenX {P : Program} {w : World} {K : PySem.W.Frag} {mg : Str → Option Value} {base : Heap} {a : Nat → Addr} {d : Nat → FuncData} (T : Txt K mg a d) : FnOk P w K mg base (L2.CX P w) 3 (a 27) (d 27) ["told", "low", "high"] (spSetX K (a 102)) := by
  refine T.F_set_between.okX sc_set_between (fun vs H Q E h => ?_) (fun cdv A outer s0 H vs Q E hr h => ?_)
  · obtain ⟨x, lv, hv, rfl, hc, q⟩ := h
    rfl
  · obtain ⟨x, lv, hv, rfl, hc, q⟩ := h
    refine ⟨_, (pss_cons (ps_if (PW.pt (pw_or (pt_not (pt_truth (pe_call (ok_is_wholeD T) (hr.mono (by decide)) (by rfl) T.g_is_whole T.F_is_whole.kp T.b_is_whole .nil pass0 (pa_cons (pv 1) pa_nil)) (by intro _; rfl))) (pw_or (pt_not (pt_truth (pe_call (ok_is_wholeD T) (hr.mono (by decide)) (by rfl) T.g_is_whole T.F_is_whole.kp T.b_is_whole .nil pass0 (pa_cons (pv 2) pa_nil)) (by intro _; rfl))) (pw_or1 (pt_cmpR op_gt (pv 1) (pv 2) (nomark _)))))) (pss_one (ps_raise rfl (takes_of rfl rfl rfl rfl) (XB.pmk T.xo_NoBounds T.ie_NoBounds T.te_NoBounds (ok_INoBounds T) (hr.mono (by decide)) T.b_INoBounds pass0 (by rfl) T.gE_NoBounds (pa_cons (pv 1) (pa_cons (pv 2) pa_nil))))) pss_nil) pss_never), ?_⟩
    rcases hc with ⟨d', ha, hd⟩ | ⟨n, d', rfl, ha, hd⟩ | ⟨n, m, rfl, rfl, hlt⟩
    · refine ⟨_, rfl, lv, d', rfl, ha, _, rfl, ?_⟩
      rw [hd]
      refine iteT ?_
      refine ⟨_, rfl, _, rfl, (by show 2 ≤ 1000; decide), fun y ny => ⟨y, _, _, rfl, upd_same, fun dx' H' ndx ne e1 e2 k => ?_⟩⟩
      have nd := ndx
      rw [upd_ne ne] at nd
      exact ⟨rfl, dx', _, e1, e2, nd, q dx' _ (same_err3 ny nd k) upd_same⟩
    · refine ⟨_, rfl, .int n, .int n, rfl, .dp (.int n), true, rfl, iteF ?_⟩
      refine ⟨_, rfl, hv, d', rfl, ha, _, rfl, ?_⟩
      rw [hd]
      refine iteT ?_
      refine ⟨_, rfl, _, rfl, (by show 2 ≤ 1000; decide), fun y ny => ⟨y, _, _, rfl, upd_same, fun dx' H' ndx ne e1 e2 k => ?_⟩⟩
      have nd := ndx
      rw [upd_ne ne] at nd
      exact ⟨rfl, dx', _, e1, e2, nd, q dx' _ (same_err3 ny nd k) upd_same⟩
    · refine ⟨_, rfl, .int n, .int n, rfl, .dp (.int n), true, rfl, iteF ?_⟩
      refine ⟨_, rfl, .int m, .int m, rfl, .dp (.int m), true, rfl, iteF ?_⟩
      refine ⟨_, rfl, _, rfl, n, m, rfl, rfl, _, rfl, iteDT hlt ?_⟩
      refine ⟨_, rfl, _, rfl, (by show 2 ≤ 1000; decide), fun y ny => ⟨y, _, _, rfl, upd_same, fun dx' H' ndx ne e1 e2 k => ?_⟩⟩
      have nd := ndx
      rw [upd_ne ne] at nd
      exact ⟨rfl, dx', _, e1, e2, nd, q dx' _ (same_err3 ny nd k) upd_same⟩

theorem ok_Clock_set_toX {P : Program} {w : World} {K : PySem.W.Frag} {mg : Str → Option Value} {base : Heap} {a : Nat → Addr} {d : Nat → FuncData} (T : Txt K mg a d) : FnOk P w K mg base (L2.CX P w) 6 (a 11) (d 11) ["self", "low", "high"] (spSetCX K (a 28) (a 102)) := by
  refine T.F_Clock_set_to.okX sc_Clock_set_to (fun vs H Q E h => ?_) (fun cdv A outer s0 H vs Q E hr h => ?_)
  · obtain ⟨c, dr, t, b, st, n, lv, hv, rfl, hk, hb, q⟩ := h
    rfl
  · obtain ⟨c, dr, t, b, st, n, lv, hv, rfl, hk, hb, q⟩ := h
    obtain ⟨⟨dx, sv, hc, hs⟩, hd, nn⟩ := id hk
    refine ⟨_, (pss_cons (ps_set (i := 3) sc_Clock_set_to.nd rfl (Or.inl rfl) (pe_call (ok_bounds_behind T) (hr.mono (by decide)) (by rfl) T.g_bounds_behind T.F_bounds_behind.kp T.b_bounds_behind .nil pass0 (pa_cons (pe_fld (pv 0) rfl) (pa_cons (pe_fld (pv 0) rfl) (pa_cons (pe_fld (pv 0) rfl) pa_nil))))) (pss_cons (ps_fld (pv 0) (pe_callS (ok_set_betweenX T) (hr.mono (by decide)) (by rfl) T.g_set_between T.F_set_between.kp T.b_set_between (fun σ => passAt (takes_of rfl rfl rfl rfl) σ) (pa_cons (pv 3) (pa_cons (pv 1) (pa_cons (pv 2) pa_nil)))) rfl) (pss_one (ps_fld (pv 0) pe_int rfl)))), ?_⟩
    refine ⟨_, rfl, c, _, dx, _, _, rfl, hc, T.cl, T.n_stands, cf_s _ _ _, _, rfl, c, _, dx, _, _, rfl, hc, T.cl, T.n_counted, cf_c _ _ _, _, rfl, c, _, dx, _, _, rfl, hc, T.cl, T.n_most_drift, cf_m _ _ _, ?_⟩
    refine ⟨_, st, n, dr, t, b, rfl, hs, nn, hd, ?_⟩
    cases st with
    | none => exact ⟨_, rfl, _, rfl, _, rfl, _, lv, hv, rfl, hb, q⟩
    | some z =>
      intro p1 np1
      have s1 := same_new (o := .tup [.int (z.1 + leastP n t b), .int (z.2 + mostP n t b)]) (Same.refl H) np1
      exact ⟨_, rfl, _, rfl, _, rfl, _, lv, hv, rfl, hb.up s1, fun dx' H' s' e' => q dx' H' (s1.trans s') e'⟩

theorem ok_Clock_boundsX {P : Program} {w : World} {K : PySem.W.Frag} {mg : Str → Option Value} {base : Heap} {a : Nat → Addr} {d : Nat → FuncData} (T : Txt K mg a d) : FnOk P w K mg base (L2.CX P w) 6 (a 13) (d 13) ["self"] (spUnsX K (a 28) (a 104)) := by
  refine T.F_Clock_bounds.okX sc_Clock_bounds (fun vs H Q E h => ?_) (fun cdv A outer s0 H vs Q E hr h => ?_)
  · obtain ⟨c, dr, t, b, n, rfl, hk, q⟩ := h
    rfl
  · obtain ⟨c, dr, t, b, n, rfl, hk, q⟩ := h
    obtain ⟨⟨dx, sv, hc, hs⟩, hd, nn⟩ := id hk
    have e : sv = V.non := hs
    subst e
    refine ⟨_, (pss_cons (ps_if (pt_cmpR op_isN (pe_fld (pv 0) rfl) pe_non (nomark _)) (pss_one (ps_raise rfl (takes_of rfl rfl rfl rfl) (XB.pmk T.xo_Unset T.ie_Unset T.te_Unset (ok_IUnset T T.xo_Unset T.ne_Unset_text) (hr.mono (by decide)) T.b_IUnset pass0 (by rfl) T.gE_Unset (pa_cons pe_str pa_nil)))) pss_nil) pss_never), ?_⟩
    refine ⟨_, rfl, c, _, dx, _, _, rfl, hc, T.cl, T.n_stands, cf_s _ _ _, rfl, _, rfl, iteT ?_⟩
    refine ⟨(by show 1 ≤ 1000; decide), fun y ny => ⟨y, _, rfl, upd_same, fun dx' H' ndx ne e1 e2 k => ?_⟩⟩
    have nd := ndx
    rw [upd_ne ne] at nd
    exact ⟨rfl, dx', _, e1, e2, nd, q dx' _ (same_err3 ny nd k) upd_same⟩

theorem ok_Clock_is_pastX {P : Program} {w : World} {K : PySem.W.Frag} {mg : Str → Option Value} {base : Heap} {a : Nat → Addr} {d : Nat → FuncData} (T : Txt K mg a d) : FnOk P w K mg base (L2.CX P w) 7 (a 14) (d 14) ["self", "time"] (spUns1X K (a 28) (a 104)) := by
  refine T.F_Clock_is_past.okX sc_Clock_is_past (fun vs H Q E h => ?_) (fun cdv A outer s0 H vs Q E hr h => ?_)
  · obtain ⟨c, dr, t, b, n, v, rfl, hk, q⟩ := h
    rfl
  · obtain ⟨c, dr, t, b, n, v, rfl, hk, q⟩ := h
    obtain ⟨⟨dx, sv, hc, hs⟩, hd, nn⟩ := id hk
    refine ⟨_, (pss_one (ps_ret (pe_cmpR op_gt (pe_ix ix_tup (pe_methS0 (pv 0) T.cl T.m_Clock_bounds (ok_Clock_boundsX T) (hr.mono (by decide)) T.b_Clock_bounds (fun σ => passAt (takes_of rfl rfl rfl rfl) σ)) pe_int (fun _ _ => rfl)) (pv 1) (nomark _)))), ?_⟩
    exact ⟨_, rfl, c, dx, _, rfl, hc, cf_no _ _ _ (by decide +kernel) (by decide +kernel) (by decide +kernel), c, dr, t, b, n, rfl, hk, q⟩

theorem ok_Clock_is_aheadX {P : Program} {w : World} {K : PySem.W.Frag} {mg : Str → Option Value} {base : Heap} {a : Nat → Addr} {d : Nat → FuncData} (T : Txt K mg a d) : FnOk P w K mg base (L2.CX P w) 7 (a 15) (d 15) ["self", "time"] (spUns1X K (a 28) (a 104)) := by
  refine T.F_Clock_is_ahead.okX sc_Clock_is_ahead (fun vs H Q E h => ?_) (fun cdv A outer s0 H vs Q E hr h => ?_)
  · obtain ⟨c, dr, t, b, n, v, rfl, hk, q⟩ := h
    rfl
  · obtain ⟨c, dr, t, b, n, v, rfl, hk, q⟩ := h
    obtain ⟨⟨dx, sv, hc, hs⟩, hd, nn⟩ := id hk
    refine ⟨_, (pss_one (ps_ret (pe_cmpR op_lt (pe_ix ix_tup (pe_methS0 (pv 0) T.cl T.m_Clock_bounds (ok_Clock_boundsX T) (hr.mono (by decide)) T.b_Clock_bounds (fun σ => passAt (takes_of rfl rfl rfl rfl) σ)) pe_int (fun _ _ => rfl)) (pv 1) (nomark _)))), ?_⟩
    exact ⟨_, rfl, c, dx, _, rfl, hc, cf_no _ _ _ (by decide +kernel) (by decide +kernel) (by decide +kernel), c, dr, t, b, n, rfl, hk, q⟩

theorem ok_l_kind {P : Program} {w : World} {K : PySem.W.Frag} {mg : Str → Option Value} {base : Heap} {a : Nat → Addr} {d : Nat → FuncData} (T : Txt K mg a d) : FnOk P w K mg base CX0 2 (a 19) (d 19) ["_law_e"] (spKind (a 101) (a 102) (a 103)) := by
  refine T.F_l_kind.ok sc_l_kind (fun vs H Q E h => ?_) (fun cdv A outer s0 H vs Q E hr h => ?_)
  · obtain ⟨e, D, dd, fs, z, rfl, he, hd, hz, q⟩ := h
    rfl
  · obtain ⟨e, D, dd, fs, z, rfl, he, hd, hz, q⟩ := h
    refine ⟨_, (pss_cons (ps_set (i := 1) sc_l_kind.nd rfl (Or.inl rfl) (pe_lst (pa_cons (pe_callB call_isK (by rfl) T.z_isinstance (by decide +kernel) (pa_cons (pv 0) (pa_cons (pe_glob (v := .ref (a 101)) (by rfl) T.gE_NoDrift rfl) pa_nil))) (pa_cons (pe_callB call_isK (by rfl) T.z_isinstance (by decide +kernel) (pa_cons (pv 0) (pa_cons (pe_glob (v := .ref (a 102)) (by rfl) T.gE_NoBounds rfl) pa_nil))) (pa_cons (pe_callB call_isK (by rfl) T.z_isinstance (by decide +kernel) (pa_cons (pv 0) (pa_cons (pe_glob (v := .ref (a 103)) (by rfl) T.gE_NoNumber rfl) pa_nil))) (pa_cons (pe_callB call_isK (by rfl) T.z_isinstance (by decide +kernel) (pa_cons (pv 0) (pa_cons (pe_glob (v := .ref (a 105)) (by rfl) T.gE_NoShare rfl) pa_nil))) pa_nil)))))) (pss_cons (ps_if (PW.pt (pw_or (pt_cmpR op_ne (pe_bm PySem.F.plainAttrs_list PySem.F.slot_list_count PySem.F.type_list_count mt_lcountF (pv 1) (pa_cons pe_bl pa_nil)) pe_int (nomark _)) (pw_or1 (pt_not (pt_truth (pe_callB call_isK (by rfl) T.z_isinstance (by decide +kernel) (pa_cons (pv 0) (pa_cons (pe_bltn (v := .ty "ValueError") (by rfl) T.z_ValueError (by decide +kernel) rfl) pa_nil))) (by intro _; rfl)))))) (pss_one (ps_ret pe_str)) pss_nil) (pss_one (ps_ret (pe_ix ix_list (pe_lst (pa_cons pe_str (pa_cons pe_str (pa_cons pe_str (pa_cons pe_str pa_nil))))) (pe_bm PySem.F.plainAttrs_list PySem.F.slot_list_index PySem.F.type_list_index mt_index (pv 1) (pa_cons pe_bl pa_nil)) (fun _ _ => rfl)))))), ?_⟩
    rcases hz with ⟨rfl, rfl⟩ | ⟨rfl, rfl⟩ | ⟨rfl, rfl⟩
    · refine ⟨_, rfl, e, (a 101), dd, fs, .ref (a 101), .ref (a 101), true, rfl, T.xc_NoDrift, he, hd, (fun u r => by first | exact r | (cases r; rfl)), T.ki_NoDrift_NoDrift, _, rfl, e, (a 101), dd, fs, .ref (a 102), .ref (a 102), false, rfl, T.xc_NoDrift, he, hd, (fun u r => by first | exact r | (cases r; rfl)), T.ki_NoDrift_NoBounds, _, rfl, e, (a 101), dd, fs, .ref (a 103), .ref (a 103), false, rfl, T.xc_NoDrift, he, hd, (fun u r => by first | exact r | (cases r; rfl)), T.ki_NoDrift_NoNumber, _, rfl, e, (a 101), dd, fs, .ref (a 105), .ref (a 105), false, rfl, T.xc_NoDrift, he, hd, (fun u r => by first | exact r | (cases r; rfl)), T.ki_NoDrift_NoShare, (by decide : 4 ≤ sizeLine), fun pk npk => ?_⟩
      have s1 : Same H (upd H pk (.lst [.bl true, .bl false, .bl false, .bl false])) := same_new (Same.refl H) npk
      have hk : (upd H pk (.lst [.bl true, .bl false, .bl false, .bl false])) pk = some (.lst [.bl true, .bl false, .bl false, .bl false]) := upd_same
      have he := s1 _ _ he
      have hd := s1 _ _ hd
      generalize (upd H pk (.lst [.bl true, .bl false, .bl false, .bl false])) = H1 at s1 hk he hd ⊢
      refine ⟨_, rfl, .inl ⟨rfl, _, SqL.of hk⟩, pk, _, .bl true, rfl, rfl, SqL.of hk, rfl, rfl, rfl, _, rfl, iteNS rfl ?_⟩
      refine ⟨_, rfl, e, (a 101), dd, fs, .ty "ValueError", .type "ValueError", true, rfl, T.xc_NoDrift, he, hd, (fun u r => by first | exact r | (cases r; rfl)), T.ki_NoDrift_ValueError, true, rfl, iteF ?_⟩
      refine ⟨(by decide : 4 ≤ sizeLine), fun pl npl => ?_⟩
      have hl : (upd H1 pl (.lst [.str "drift", .str "bounds", .str "number", .str "share"])) pl = some (.lst [.str "drift", .str "bounds", .str "number", .str "share"]) := upd_same
      have s2 : Same H1 (upd H1 pl (.lst [.str "drift", .str "bounds", .str "number", .str "share"])) := same_new (Same.refl H1) npl
      refine ⟨_, rfl, .inl ⟨rfl, _, SqL.of (s2 _ _ hk)⟩, pk, _, .bl true, 0, .bl true, rfl, rfl, SqL.of (s2 _ _ hk), rfl, rfl, rfl, rfl, (fun m' z' hm hz => by omega), ?_⟩
      exact ⟨pl, _, 0, _, rfl, rfl, SqL.of hl, rfl, q _ (s1.trans s2)⟩
    · refine ⟨_, rfl, e, (a 102), dd, fs, .ref (a 101), .ref (a 101), false, rfl, T.xc_NoBounds, he, hd, (fun u r => by first | exact r | (cases r; rfl)), T.ki_NoBounds_NoDrift, _, rfl, e, (a 102), dd, fs, .ref (a 102), .ref (a 102), true, rfl, T.xc_NoBounds, he, hd, (fun u r => by first | exact r | (cases r; rfl)), T.ki_NoBounds_NoBounds, _, rfl, e, (a 102), dd, fs, .ref (a 103), .ref (a 103), false, rfl, T.xc_NoBounds, he, hd, (fun u r => by first | exact r | (cases r; rfl)), T.ki_NoBounds_NoNumber, _, rfl, e, (a 102), dd, fs, .ref (a 105), .ref (a 105), false, rfl, T.xc_NoBounds, he, hd, (fun u r => by first | exact r | (cases r; rfl)), T.ki_NoBounds_NoShare, (by decide : 4 ≤ sizeLine), fun pk npk => ?_⟩
      have s1 : Same H (upd H pk (.lst [.bl false, .bl true, .bl false, .bl false])) := same_new (Same.refl H) npk
      have hk : (upd H pk (.lst [.bl false, .bl true, .bl false, .bl false])) pk = some (.lst [.bl false, .bl true, .bl false, .bl false]) := upd_same
      have he := s1 _ _ he
      have hd := s1 _ _ hd
      generalize (upd H pk (.lst [.bl false, .bl true, .bl false, .bl false])) = H1 at s1 hk he hd ⊢
      refine ⟨_, rfl, .inl ⟨rfl, _, SqL.of hk⟩, pk, _, .bl true, rfl, rfl, SqL.of hk, rfl, rfl, rfl, _, rfl, iteNS rfl ?_⟩
      refine ⟨_, rfl, e, (a 102), dd, fs, .ty "ValueError", .type "ValueError", true, rfl, T.xc_NoBounds, he, hd, (fun u r => by first | exact r | (cases r; rfl)), T.ki_NoBounds_ValueError, true, rfl, iteF ?_⟩
      refine ⟨(by decide : 4 ≤ sizeLine), fun pl npl => ?_⟩
      have hl : (upd H1 pl (.lst [.str "drift", .str "bounds", .str "number", .str "share"])) pl = some (.lst [.str "drift", .str "bounds", .str "number", .str "share"]) := upd_same
      have s2 : Same H1 (upd H1 pl (.lst [.str "drift", .str "bounds", .str "number", .str "share"])) := same_new (Same.refl H1) npl
      refine ⟨_, rfl, .inl ⟨rfl, _, SqL.of (s2 _ _ hk)⟩, pk, _, .bl true, 1, .bl true, rfl, rfl, SqL.of (s2 _ _ hk), rfl, rfl, rfl, rfl, (fun m' z' hm hz => by match m', hm with | 0, _ => (cases hz; rfl)), ?_⟩
      exact ⟨pl, _, 1, _, rfl, rfl, SqL.of hl, rfl, q _ (s1.trans s2)⟩
    · refine ⟨_, rfl, e, (a 103), dd, fs, .ref (a 101), .ref (a 101), false, rfl, T.xc_NoNumber, he, hd, (fun u r => by first | exact r | (cases r; rfl)), T.ki_NoNumber_NoDrift, _, rfl, e, (a 103), dd, fs, .ref (a 102), .ref (a 102), false, rfl, T.xc_NoNumber, he, hd, (fun u r => by first | exact r | (cases r; rfl)), T.ki_NoNumber_NoBounds, _, rfl, e, (a 103), dd, fs, .ref (a 103), .ref (a 103), true, rfl, T.xc_NoNumber, he, hd, (fun u r => by first | exact r | (cases r; rfl)), T.ki_NoNumber_NoNumber, _, rfl, e, (a 103), dd, fs, .ref (a 105), .ref (a 105), false, rfl, T.xc_NoNumber, he, hd, (fun u r => by first | exact r | (cases r; rfl)), T.ki_NoNumber_NoShare, (by decide : 4 ≤ sizeLine), fun pk npk => ?_⟩
      have s1 : Same H (upd H pk (.lst [.bl false, .bl false, .bl true, .bl false])) := same_new (Same.refl H) npk
      have hk : (upd H pk (.lst [.bl false, .bl false, .bl true, .bl false])) pk = some (.lst [.bl false, .bl false, .bl true, .bl false]) := upd_same
      have he := s1 _ _ he
      have hd := s1 _ _ hd
      generalize (upd H pk (.lst [.bl false, .bl false, .bl true, .bl false])) = H1 at s1 hk he hd ⊢
      refine ⟨_, rfl, .inl ⟨rfl, _, SqL.of hk⟩, pk, _, .bl true, rfl, rfl, SqL.of hk, rfl, rfl, rfl, _, rfl, iteNS rfl ?_⟩
      refine ⟨_, rfl, e, (a 103), dd, fs, .ty "ValueError", .type "ValueError", true, rfl, T.xc_NoNumber, he, hd, (fun u r => by first | exact r | (cases r; rfl)), T.ki_NoNumber_ValueError, true, rfl, iteF ?_⟩
      refine ⟨(by decide : 4 ≤ sizeLine), fun pl npl => ?_⟩
      have hl : (upd H1 pl (.lst [.str "drift", .str "bounds", .str "number", .str "share"])) pl = some (.lst [.str "drift", .str "bounds", .str "number", .str "share"]) := upd_same
      have s2 : Same H1 (upd H1 pl (.lst [.str "drift", .str "bounds", .str "number", .str "share"])) := same_new (Same.refl H1) npl
      refine ⟨_, rfl, .inl ⟨rfl, _, SqL.of (s2 _ _ hk)⟩, pk, _, .bl true, 2, .bl true, rfl, rfl, SqL.of (s2 _ _ hk), rfl, rfl, rfl, rfl, (fun m' z' hm hz => by match m', hm with | 0, _ => (cases hz; rfl) | 1, _ => (cases hz; rfl)), ?_⟩
      exact ⟨pl, _, 2, _, rfl, rfl, SqL.of hl, rfl, q _ (s1.trans s2)⟩

theorem ok_made {P : Program} {w : World} {K : PySem.W.Frag} {mg : Str → Option Value} {base : Heap} {a : Nat → Addr} {d : Nat → FuncData} (T : Txt K mg a d) : FnOk P w K mg base CX0 8 (a 20) (d 20) ["_law_thing"] (spLMade K) := by
  refine T.F_l_made.ok sc_l_made (fun vs H Q E h => ?_) (fun cdv A outer s0 H vs Q E hr h => ?_)
  · obtain ⟨v, d', rfl, ha, hd, q⟩ := h
    rfl
  · obtain ⟨v, d', rfl, ha, hd, q⟩ := h
    refine ⟨_, (pss_cons (ps_set (i := 1) sc_l_made.nd rfl (Or.inl rfl) pe_non) (pss_cons (ps_tryK (tb := fun W => tDrop (tMakeS (a 28) (spInitX K (a 101)) (WE W) (tCons (tVar 0) tNil))) rfl rfl sc_l_made.nd takes0 (HK.named (i := 2) (ts := (fun _ _ _ => tAsg (tVar 2) (gName 1))) ⟨rfl, by decide, .inl T.gE_WaitError⟩ rfl rfl (fun _ _ _ _ => (pss_one (ps_asg (pv 2) (pg_name (i := 1) sc_l_made.nd rfl (.inl rfl))))) HK.nil) (W := fun _ _ _ _ => False) (fun W pn xe tk _ => (pss_one (ps_expr (pe_makeS T.m_Clock___init__ (ok_Clock___init__X T) (hr.mono (by decide)) (by rfl) T.g_Clock T.b_Clock___init__ (fun σ => passAt tk σ) (pa_cons (pv 0) pa_nil)))))) (pss_one (ps_ret (pe_call (ok_l_kind T) (hr.mono (by decide)) (by rfl) T.g_l_kind T.F_l_kind.kp T.b_l_kind .nil pass0 (pa_cons (pv 1) pa_nil)))))), ?_⟩
    refine ⟨_, rfl, fun x dx nx ndx ne => ?_⟩
    have sm := same_make (o1 := .own x) (o2 := .ins (a 28) dx []) nx ndx
    refine ⟨.ref x, v, d', rfl, ha.up sm, hd, fun dd H' s' hdd => ?_⟩

    refine ⟨true, T.ex_NoDrift_WaitError, fun _ e' ne' => ?_, fun z => by cases z⟩
    have ned : dd ≠ e' := ne_of_none hdd ne'
    have hd2 : (upd H' e' (ExK (.ref (a 101)) (some dd) e')) dd = some (.xd [("text", .str "no drift")]) := by rw [upd_ne ned]; exact hdd
    have sE : Same H (upd H' e' (ExK (.ref (a 101)) (some dd) e')) := (sm.trans s').trans (same_new (Same.refl H') ne')
    refine ⟨_, rfl, ?_⟩

    exact ⟨_, rfl, e', (a 101), dd, _, "drift", rfl, upd_same, hd2, .inl ⟨rfl, rfl⟩, fun H2 s2 => q H2 (sE.trans s2)⟩

theorem ok_ticked {P : Program} {w : World} {K : PySem.W.Frag} {mg : Str → Option Value} {base : Heap} {a : Nat → Addr} {d : Nat → FuncData} (T : Txt K mg a d) : FnOk P w K mg base CX0 8 (a 22) (d 22) ["_law_clock", "_law_thing"] (spLTick K (a 28)) := by
  refine T.F_l_ticked.ok sc_l_ticked (fun vs H Q E h => ?_) (fun cdv A outer s0 H vs Q E hr h => ?_)
  · obtain ⟨c, dr, t, b, st, n, v, d', rfl, hk, ha, hd, q⟩ := h
    rfl
  · obtain ⟨c, dr, t, b, st, n, v, d', rfl, hk, ha, hd, q⟩ := h
    obtain ⟨⟨dx, sv, hc, hs⟩, hdr, nn⟩ := id hk
    refine ⟨_, (pss_cons (ps_set (i := 2) sc_l_ticked.nd rfl (Or.inl rfl) pe_non) (pss_cons (ps_tryK (tb := fun W => tDrop (tMethS (a 28) "tick" (spTickX K (a 103)) (WE W) (tVar 0) (tCons (tVar 1) tNil))) rfl rfl sc_l_ticked.nd takes0 (HK.named (i := 3) (ts := (fun _ _ _ => tAsg (tVar 3) (gName 2))) ⟨rfl, by decide, .inl T.gE_WaitError⟩ rfl rfl (fun _ _ _ _ => (pss_one (ps_asg (pv 3) (pg_name (i := 2) sc_l_ticked.nd rfl (.inl rfl))))) HK.nil) (W := fun _ _ _ _ => False) (fun W pn xe tk _ => (pss_one (ps_expr (pe_methS (pv 0) T.cl T.m_Clock_tick (ok_Clock_tickX T) (hr.mono (by decide)) T.b_Clock_tick (fun σ => passAt tk σ) (pa_cons (pv 1) pa_nil)))))) (pss_one (ps_ret (pe_call (ok_l_kind T) (hr.mono (by decide)) (by rfl) T.g_l_kind T.F_l_kind.kp T.b_l_kind .nil pass0 (pa_cons (pv 2) pa_nil)))))), ?_⟩
    refine ⟨_, rfl, c, dx, _, rfl, hc, cf_no _ _ _ (by decide +kernel) (by decide +kernel) (by decide +kernel), _, rfl, v, .ref c, d', rfl, ha, hd, fun dd H' s' hdd => ?_⟩

    refine ⟨true, T.ex_NoNumber_WaitError, fun _ e' ne' => ?_, fun z => by cases z⟩
    have ned : dd ≠ e' := ne_of_none hdd ne'
    have hd2 : (upd H' e' (ExK (.ref (a 103)) (some dd) e')) dd = some (.xd [("text", .str "no whole number from 0 on")]) := by rw [upd_ne ned]; exact hdd
    have sE : Same H (upd H' e' (ExK (.ref (a 103)) (some dd) e')) := s'.trans (same_new (Same.refl H') ne')
    refine ⟨_, rfl, ?_⟩

    exact ⟨_, rfl, e', (a 103), dd, _, "number", rfl, upd_same, hd2, .inr (.inr ⟨rfl, rfl⟩), fun H2 s2 => q H2 (sE.trans s2)⟩

theorem ok_lset {P : Program} {w : World} {K : PySem.W.Frag} {mg : Str → Option Value} {base : Heap} {a : Nat → Addr} {d : Nat → FuncData} (T : Txt K mg a d) : FnG P w K mg base 9 (a 21) (d 21) ["_law_clock", "_law_low", "_law_high"] (spLSet K (a 28)) := by
  refine fnG_mk T.F_l_set sc_l_set (fun vs H Q E h => ?_) (fun cdv A outer s0 H vs Q E gd hr h => ?_)
  · obtain ⟨c, dr, t, b, st, n, lv, hv, rfl, hk, hb, q⟩ := h
    rfl
  · obtain ⟨c, dr, t, b, st, n, lv, hv, rfl, hk, hb, q⟩ := h
    obtain ⟨⟨dx, sv, hc, hs⟩, hdr, nn⟩ := id hk
    obtain ⟨d1, d2, a1, a2, hbs, sw⟩ := hb.ex
    refine ⟨_, (pss_cons (ps_set (i := 3) sc_l_set.nd rfl (Or.inl rfl) pe_non) (pss_cons (ps_tryK (tb := fun W => tDrop (tMethS (a 28) "set_to" (spSetCX K (a 28) (a 102)) (WE W) (tVar 0) (tCons (tVar 1) (tCons (tVar 2) tNil)))) rfl rfl sc_l_set.nd takes0 (HK.named (i := 4) (ts := (fun _ _ _ => tAsg (tVar 4) (gName 3))) ⟨rfl, by decide, .inl T.gE_NoBounds⟩ rfl rfl (fun _ _ _ _ => (pss_one (ps_asg (pv 4) (pg_name (i := 3) sc_l_set.nd rfl (.inl rfl))))) HK.nil) (W := fun _ _ _ _ => False) (fun W pn xe tk _ => (pss_one (ps_expr (pe_methS (pv 0) T.cl T.m_Clock_set_to (ok_Clock_set_toX T) (hr.mono (by decide)) T.b_Clock_set_to (fun σ => passAt tk σ) (pa_cons (pv 1) (pa_cons (pv 2) pa_nil))))))) (pss_cons (ps_if (pt_cmpR op_isN (pv 3) pe_non (nomark _)) (pss_one (ps_ret pe_non)) pss_nil) (pss_one (ps_ret (pe_and (pe_cmpR op_eq (pe_callB (call_reprP gd (room66 hr)) (by rfl) T.z_repr (by decide +kernel) (pa_cons (pe_tup (pa_cons (pe_xk (C := (a 102)) T.xf_NoBounds T.ne_NoBounds_low (pv 3) rfl) (pa_cons (pe_xk (C := (a 102)) T.xf_NoBounds T.ne_NoBounds_high (pv 3) rfl) pa_nil))) pa_nil)) (pe_callB (call_reprP gd (room66 hr)) (by rfl) T.z_repr (by decide +kernel) (pa_cons (pe_tup (pa_cons (pv 1) (pa_cons (pv 2) pa_nil))) pa_nil)) (nomark _)) (pe_one (pe_cmpR op_eq (pe_call (ok_l_kind T) (hr.mono (by decide)) (by rfl) T.g_l_kind T.F_l_kind.kp T.b_l_kind .nil pass0 (pa_cons (pv 3) pa_nil)) pe_str (nomark _))))))))), ?_⟩
    refine ⟨_, rfl, c, dx, _, rfl, hc, cf_no _ _ _ (by decide +kernel) (by decide +kernel) (by decide +kernel), _, rfl, _, rfl, c, dr, t, b, st, n, lv, hv, rfl, hk, hb.b, fun dd H' s' hdd => ?_⟩

    refine ⟨true, T.ex_NoBounds_NoBounds, fun _ e' ne' => ?_, fun z => by cases z⟩
    have ned : dd ≠ e' := ne_of_none hdd ne'
    have hd2 : (upd H' e' (ExK (.ref (a 102)) (some dd) e')) dd = some (.xd [("high", hv), ("low", lv)]) := by rw [upd_ne ned]; exact hdd
    have sE : Same H (upd H' e' (ExK (.ref (a 102)) (some dd) e')) := s'.trans (same_new (Same.refl H') ne')
    refine ⟨_, rfl, ?_⟩

    refine ⟨_, rfl, rfl, _, rfl, iteDF (by intro z; cases z) ?_⟩
    refine ⟨_, rfl, e', dd, _, _, rfl, upd_same, hd2, xd_low _ _, _, rfl, e', dd, _, _, rfl, upd_same, hd2, xd_high _ _, len2, fun p1 np1 => ?_⟩
    have he1 : (upd H' e' (ExK (.ref (a 102)) (some dd) e')) e' = some (ExK (.ref (a 102)) (some dd) e') := upd_same
    generalize (upd H' e' (ExK (.ref (a 102)) (some dd) e')) = G0 at hd2 sE he1 np1 ⊢
    have s1 : Same G0 (upd G0 p1 (.tup [lv, hv])) := same_new (Same.refl G0) np1
    have h1 : (upd G0 p1 (.tup [lv, hv])) p1 = some (.tup [lv, hv]) := upd_same
    generalize (upd G0 p1 (.tup [lv, hv])) = G1 at s1 h1 ⊢
    have S1 := sE.trans s1
    refine ⟨p1, lv, hv, d1, d2, rfl, SqT.of h1, a1.up S1, a2.up S1, hbs, sw.sh, sw.dp, sw.sz, ?_⟩
    refine ⟨_, rfl, _, rfl, len2, fun p2 np2 => ?_⟩
    have s2 : Same G1 (upd G1 p2 (.tup [lv, hv])) := same_new (Same.refl G1) np2
    have h2 : (upd G1 p2 (.tup [lv, hv])) p2 = some (.tup [lv, hv]) := upd_same
    generalize (upd G1 p2 (.tup [lv, hv])) = G2 at s2 h2 ⊢
    have S2 := S1.trans s2
    have s12 := s1.trans s2
    refine ⟨p2, lv, hv, d1, d2, rfl, SqT.of h2, a1.up S2, a2.up S2, hbs, sw.sh, sw.dp, sw.sz, rfl, true, (by rw [decide_eq_true rfl]), iteT ?_⟩
    exact ⟨_, rfl, e', (a 102), dd, _, "bounds", rfl, s12 _ _ he1, s12 _ _ hd2, .inr (.inl ⟨rfl, rfl⟩), fun H2 s2 => ⟨rfl, q H2 (S2.trans s2)⟩⟩

theorem ok_unset {P : Program} {w : World} {K : PySem.W.Frag} {mg : Str → Option Value} {base : Heap} {a : Nat → Addr} {d : Nat → FuncData} (T : Txt K mg a d) : FnOk P w K mg base CX0 9 (a 23) (d 23) ["_law_way", "_law_clock"] (spUnset K (a 28)) := by
  refine T.F_l_unset.ok sc_l_unset (fun vs H Q E h => ?_) (fun cdv A outer s0 H vs Q E hr h => ?_)
  · obtain ⟨c, dr, t, b, n, i, rfl, hk, i0, i2, q⟩ := h
    rfl
  · obtain ⟨c, dr, t, b, n, i, rfl, hk, i0, i2, q⟩ := h
    obtain ⟨⟨dx, sv, hc, hs⟩, hdr, nn⟩ := id hk
    refine ⟨_, (pss_cons (ps_set (i := 2) sc_l_unset.nd rfl (Or.inl rfl) pe_non) (pss_cons (ps_tryK (tb := fun W => tIfS (tTest (tOp rEq (tVar 0) (tC (.int 0)))) (tDrop (tMethS (a 28) "bounds" (spUnsX K (a 28) (a 104)) (WE W) (tVar 1) tNil)) (tIfS (tTest (tOp rEq (tVar 0) (tC (.int 1)))) (tDrop (tMethS (a 28) "is_past" (spUns1X K (a 28) (a 104)) (WE W) (tVar 1) (tCons (tC (.int 3)) tNil))) (tDrop (tMethS (a 28) "is_ahead" (spUns1X K (a 28) (a 104)) (WE W) (tVar 1) (tCons (tC (.int 3)) tNil))))) rfl rfl sc_l_unset.nd takes0 (HK.named (i := 3) (ts := (fun _ _ _ => tAsg (tVar 3) (gName 2))) ⟨rfl, by decide, .inl T.gE_Unset⟩ rfl rfl (fun _ _ _ _ => (pss_one (ps_asg (pv 3) (pg_name (i := 2) sc_l_unset.nd rfl (.inl rfl))))) HK.nil) (W := fun _ _ _ _ => False) (fun W pn xe tk _ => (pss_one (ps_if (pt_cmpR op_eq (pv 0) pe_int (nomark _)) (pss_one (ps_expr (pe_methS0 (pv 1) T.cl T.m_Clock_bounds (ok_Clock_boundsX T) (hr.mono (by decide)) T.b_Clock_bounds (fun σ => passAt tk σ)))) (pss_one (ps_if (pt_cmpR op_eq (pv 0) pe_int (nomark _)) (pss_one (ps_expr (pe_methS (pv 1) T.cl T.m_Clock_is_past (ok_Clock_is_pastX T) (hr.mono (by decide)) T.b_Clock_is_past (fun σ => passAt tk σ) (pa_cons pe_int pa_nil)))) (pss_one (ps_expr (pe_methS (pv 1) T.cl T.m_Clock_is_ahead (ok_Clock_is_aheadX T) (hr.mono (by decide)) T.b_Clock_is_ahead (fun σ => passAt tk σ) (pa_cons pe_int pa_nil)))))))))) (pss_one (ps_ret (pe_and (pe_callB call_isK (by rfl) T.z_isinstance (by decide +kernel) (pa_cons (pv 2) (pa_cons (pe_bltn (v := .ty "RuntimeError") (by rfl) T.z_RuntimeError (by decide +kernel) rfl) pa_nil))) (pe_one (pe_not (pe_callB call_isK (by rfl) T.z_isinstance (by decide +kernel) (pa_cons (pv 2) (pa_cons (pe_bltn (v := .ty "ValueError") (by rfl) T.z_ValueError (by decide +kernel) rfl) pa_nil)))))))))), ?_⟩
    have hi : i = 0 ∨ i = 1 ∨ i = 2 := by omega
    rcases hi with rfl | rfl | rfl
    · refine ⟨_, rfl, rfl, _, rfl, ite2 (fun _ => ?_) (fun h => absurd rfl h)⟩
      refine ⟨_, rfl, c, dx, _, rfl, hc, cf_no _ _ _ (by decide +kernel) (by decide +kernel) (by decide +kernel), c, dr, t, b, n, rfl, hk, fun dd H' s' hdd => ?_⟩
      refine ⟨true, T.ex_Unset_Unset, fun _ e' ne' => ?_, fun z => by cases z⟩
      have ned : dd ≠ e' := ne_of_none hdd ne'
      have hd2 : (upd H' e' (ExK (.ref (a 104)) (some dd) e')) dd = some (.xd [("text", .str "the clock was never set")]) := by rw [upd_ne ned]; exact hdd
      have sE : Same H (upd H' e' (ExK (.ref (a 104)) (some dd) e')) := s'.trans (same_new (Same.refl H') ne')
      refine ⟨_, rfl, ?_⟩
      refine ⟨_, rfl, e', (a 104), dd, _, .ty "RuntimeError", .type "RuntimeError", true, rfl, T.xc_Unset, upd_same, hd2, (fun u r => by first | exact r | (cases r; rfl)), T.ki_Unset_RuntimeError, true, rfl, iteT ?_⟩
      exact ⟨_, rfl, e', (a 104), dd, _, .ty "ValueError", .type "ValueError", false, rfl, T.xc_Unset, upd_same, hd2, (fun u r => by first | exact r | (cases r; rfl)), T.ki_Unset_ValueError, false, rfl, q _ sE⟩
    · refine ⟨_, rfl, rfl, _, rfl, ite2 (fun h => absurd h (by decide)) (fun _ => ?_)⟩
      refine ⟨_, rfl, rfl, _, rfl, ite2 (fun _ => ?_) (fun h => absurd rfl h)⟩
      refine ⟨_, rfl, c, dx, _, rfl, hc, cf_no _ _ _ (by decide +kernel) (by decide +kernel) (by decide +kernel), c, dr, t, b, n, .int 3, rfl, hk, fun dd H' s' hdd => ?_⟩
      refine ⟨true, T.ex_Unset_Unset, fun _ e' ne' => ?_, fun z => by cases z⟩
      have ned : dd ≠ e' := ne_of_none hdd ne'
      have hd2 : (upd H' e' (ExK (.ref (a 104)) (some dd) e')) dd = some (.xd [("text", .str "the clock was never set")]) := by rw [upd_ne ned]; exact hdd
      have sE : Same H (upd H' e' (ExK (.ref (a 104)) (some dd) e')) := s'.trans (same_new (Same.refl H') ne')
      refine ⟨_, rfl, ?_⟩
      refine ⟨_, rfl, e', (a 104), dd, _, .ty "RuntimeError", .type "RuntimeError", true, rfl, T.xc_Unset, upd_same, hd2, (fun u r => by first | exact r | (cases r; rfl)), T.ki_Unset_RuntimeError, true, rfl, iteT ?_⟩
      exact ⟨_, rfl, e', (a 104), dd, _, .ty "ValueError", .type "ValueError", false, rfl, T.xc_Unset, upd_same, hd2, (fun u r => by first | exact r | (cases r; rfl)), T.ki_Unset_ValueError, false, rfl, q _ sE⟩
    · refine ⟨_, rfl, rfl, _, rfl, ite2 (fun h => absurd h (by decide)) (fun _ => ?_)⟩
      refine ⟨_, rfl, rfl, _, rfl, ite2 (fun h => absurd h (by decide)) (fun _ => ?_)⟩
      refine ⟨_, rfl, c, dx, _, rfl, hc, cf_no _ _ _ (by decide +kernel) (by decide +kernel) (by decide +kernel), c, dr, t, b, n, .int 3, rfl, hk, fun dd H' s' hdd => ?_⟩
      refine ⟨true, T.ex_Unset_Unset, fun _ e' ne' => ?_, fun z => by cases z⟩
      have ned : dd ≠ e' := ne_of_none hdd ne'
      have hd2 : (upd H' e' (ExK (.ref (a 104)) (some dd) e')) dd = some (.xd [("text", .str "the clock was never set")]) := by rw [upd_ne ned]; exact hdd
      have sE : Same H (upd H' e' (ExK (.ref (a 104)) (some dd) e')) := s'.trans (same_new (Same.refl H') ne')
      refine ⟨_, rfl, ?_⟩
      refine ⟨_, rfl, e', (a 104), dd, _, .ty "RuntimeError", .type "RuntimeError", true, rfl, T.xc_Unset, upd_same, hd2, (fun u r => by first | exact r | (cases r; rfl)), T.ki_Unset_RuntimeError, true, rfl, iteT ?_⟩
      exact ⟨_, rfl, e', (a 104), dd, _, .ty "ValueError", .type "ValueError", false, rfl, T.xc_Unset, upd_same, hd2, (fun u r => by first | exact r | (cases r; rfl)), T.ki_Unset_ValueError, false, rfl, q _ sE⟩

theorem ok_l_no_bounds {P : Program} {w : World} {K : PySem.W.Frag} {mg : Str → Option Value} {base : Heap} {a : Nat → Addr} {d : Nat → FuncData} (T : Txt K mg a d) : FnOk P w K mg base CX0 2 (a 24) (d 24) ["_law_bag_here", "_law_low", "_law_high"] (spNoB K) := by
  refine T.F_l_no_bounds.ok sc_l_no_bounds (fun vs H Q E h => ?_) (fun cdv A outer s0 H vs Q E hr h => ?_)
  · obtain ⟨s, low, high, rfl, b0, l0, lh, h1, q⟩ := h
    rfl
  · obtain ⟨s, low, high, rfl, b0, l0, lh, h1, q⟩ := h
    refine ⟨_, (pss_cons (ps_set (i := 3) sc_l_no_bounds.nd rfl (Or.inl rfl) (pe_lst (pa_cons pe_non (pa_cons pe_bl (pa_cons pe_str (pa_cons (pe_tup (pa_cons pe_int pa_nil)) (pa_cons (pe_lst (pa_cons (pv 1) pa_nil)) (pa_cons pe_dnewK (pa_cons pe_bl pa_nil))))))))) (pss_cons (ps_set (i := 4) sc_l_no_bounds.nd rfl (Or.inl rfl) (pe_ix ix_list (pv 3) (pe_call (ok_l_out T) (hr.mono (by decide)) (by rfl) T.g_l_out T.F_l_out.kp T.b_l_out .nil pass0 (pa_cons (pv 0) (pa_cons pe_int pa_nil))) (fun _ _ => rfl))) (pss_one (ps_ret (pe_ix ix_list (pe_lst (pa_cons (pe_tup (pa_cons (pe_op op_add (pv 2) pe_int) (pa_cons (pv 1) pa_nil))) (pa_cons (pe_tup (pa_cons (pv 4) (pa_cons (pv 2) pa_nil))) (pa_cons (pe_tup (pa_cons (pv 1) (pa_cons (pv 4) pa_nil))) (pa_cons (pe_tup (pa_cons (pv 4) (pa_cons (pv 4) pa_nil))) (pa_cons (pe_tup (pa_cons (pe_tup (pa_cons (pv 1) (pa_cons (pv 2) pa_nil))) (pa_cons (pv 2) pa_nil))) pa_nil)))))) (pe_call (ok_l_out T) (hr.mono (by decide)) (by rfl) T.g_l_out T.F_l_out.kp T.b_l_out .nil pass0 (pa_cons (pv 0) (pa_cons pe_int pa_nil))) (fun _ _ => rfl)))))), ?_⟩
    refine ⟨len1, fun q1 n_q1 => ?_⟩
    have h_q1 : (upd H q1 (.tup [.int 1])) q1 = some (.tup [.int 1]) := upd_same
    have k1 : Fr s H (upd H q1 (.tup [.int 1])) := (Fr.refl s H).new n_q1
    have b1 : BagAt (upd H q1 (.tup [.int 1])) s := b0.new n_q1
    have q_q1 : q1 ≠ s := b0.ne_new n_q1
    generalize (upd H q1 (.tup [.int 1])) = G1 at h_q1 k1 b1 ⊢
    refine ⟨_, rfl, len1, fun q2 n_q2 => ?_⟩
    have h_q2 : (upd G1 q2 (.lst [.int low])) q2 = some (.lst [.int low]) := upd_same
    have k2 : Fr s G1 (upd G1 q2 (.lst [.int low])) := (Fr.refl s G1).new n_q2
    have b2 : BagAt (upd G1 q2 (.lst [.int low])) s := b1.new n_q2
    have q_q2 : q2 ≠ s := b1.ne_new n_q2
    generalize (upd G1 q2 (.lst [.int low])) = G2 at h_q2 k2 b2 ⊢
    intro q3 n_q3
    have h_q3 : (upd G2 q3 (.dK [])) q3 = some (.dK []) := upd_same
    have k3 : Fr s G2 (upd G2 q3 (.dK [])) := (Fr.refl s G2).new n_q3
    have b3 : BagAt (upd G2 q3 (.dK [])) s := b2.new n_q3
    have q_q3 : q3 ≠ s := b2.ne_new n_q3
    generalize (upd G2 q3 (.dK [])) = G3 at h_q3 k3 b3 ⊢
    refine ⟨(by decide : 7 ≤ sizeLine), fun q4 n_q4 => ?_⟩
    have h_q4 : (upd G3 q4 (.lst [.non, .bl true, .str "1", .ref q1, .ref q2, .ref q3, .bl false])) q4 = some (.lst [.non, .bl true, .str "1", .ref q1, .ref q2, .ref q3, .bl false]) := upd_same
    have k4 : Fr s G3 (upd G3 q4 (.lst [.non, .bl true, .str "1", .ref q1, .ref q2, .ref q3, .bl false])) := (Fr.refl s G3).new n_q4
    have b4 : BagAt (upd G3 q4 (.lst [.non, .bl true, .str "1", .ref q1, .ref q2, .ref q3, .bl false])) s := b3.new n_q4
    have q_q4 : q4 ≠ s := b3.ne_new n_q4
    generalize (upd G3 q4 (.lst [.non, .bl true, .str "1", .ref q1, .ref q2, .ref q3, .bl false])) = G4 at h_q4 k4 b4 ⊢
    refine ⟨_, rfl, _, rfl, s, 7, rfl, b4, (by decide), (by decide), fun r1 G5 r10 r11 k5 b5 => ?_⟩
    obtain ⟨ov, hv1⟩ := at_some (l := [.non, .bl true, .str "1", .ref q1, .ref q2, .ref q3, .bl false]) r10 r11
    refine ⟨q4, _, r1, _, rfl, rfl, SqL.of (k5 _ _ q_q4 h_q4), hv1, ?_⟩
    refine ⟨_, rfl, high, 1, rfl, rfl, _, rfl, len2, fun u1 n_u1 => ?_⟩
    have h_u1 : (upd G5 u1 (.tup [.int (high + 1), .int low])) u1 = some (.tup [.int (high + 1), .int low]) := upd_same
    have k6 : Fr s G5 (upd G5 u1 (.tup [.int (high + 1), .int low])) := (Fr.refl s G5).new n_u1
    have b6 : BagAt (upd G5 u1 (.tup [.int (high + 1), .int low])) s := b5.new n_u1
    have q_u1 : u1 ≠ s := b5.ne_new n_u1
    generalize (upd G5 u1 (.tup [.int (high + 1), .int low])) = G6 at h_u1 k6 b6 ⊢
    refine ⟨_, rfl, _, rfl, len2, fun u2 n_u2 => ?_⟩
    have h_u2 : (upd G6 u2 (.tup [ov, .int high])) u2 = some (.tup [ov, .int high]) := upd_same
    have k7 : Fr s G6 (upd G6 u2 (.tup [ov, .int high])) := (Fr.refl s G6).new n_u2
    have b7 : BagAt (upd G6 u2 (.tup [ov, .int high])) s := b6.new n_u2
    have q_u2 : u2 ≠ s := b6.ne_new n_u2
    generalize (upd G6 u2 (.tup [ov, .int high])) = G7 at h_u2 k7 b7 ⊢
    refine ⟨_, rfl, _, rfl, len2, fun u3 n_u3 => ?_⟩
    have h_u3 : (upd G7 u3 (.tup [.int low, ov])) u3 = some (.tup [.int low, ov]) := upd_same
    have k8 : Fr s G7 (upd G7 u3 (.tup [.int low, ov])) := (Fr.refl s G7).new n_u3
    have b8 : BagAt (upd G7 u3 (.tup [.int low, ov])) s := b7.new n_u3
    have q_u3 : u3 ≠ s := b7.ne_new n_u3
    generalize (upd G7 u3 (.tup [.int low, ov])) = G8 at h_u3 k8 b8 ⊢
    refine ⟨_, rfl, _, rfl, len2, fun u4 n_u4 => ?_⟩
    have h_u4 : (upd G8 u4 (.tup [ov, ov])) u4 = some (.tup [ov, ov]) := upd_same
    have k9 : Fr s G8 (upd G8 u4 (.tup [ov, ov])) := (Fr.refl s G8).new n_u4
    have b9 : BagAt (upd G8 u4 (.tup [ov, ov])) s := b8.new n_u4
    have q_u4 : u4 ≠ s := b8.ne_new n_u4
    generalize (upd G8 u4 (.tup [ov, ov])) = G9 at h_u4 k9 b9 ⊢
    refine ⟨_, rfl, _, rfl, len2, fun u5 n_u5 => ?_⟩
    have h_u5 : (upd G9 u5 (.tup [.int low, .int high])) u5 = some (.tup [.int low, .int high]) := upd_same
    have k10 : Fr s G9 (upd G9 u5 (.tup [.int low, .int high])) := (Fr.refl s G9).new n_u5
    have b10 : BagAt (upd G9 u5 (.tup [.int low, .int high])) s := b9.new n_u5
    have q_u5 : u5 ≠ s := b9.ne_new n_u5
    generalize (upd G9 u5 (.tup [.int low, .int high])) = G10 at h_u5 k10 b10 ⊢
    refine ⟨_, rfl, len2, fun u6 n_u6 => ?_⟩
    have h_u6 : (upd G10 u6 (.tup [.ref u5, .int high])) u6 = some (.tup [.ref u5, .int high]) := upd_same
    have k11 : Fr s G10 (upd G10 u6 (.tup [.ref u5, .int high])) := (Fr.refl s G10).new n_u6
    have b11 : BagAt (upd G10 u6 (.tup [.ref u5, .int high])) s := b10.new n_u6
    have q_u6 : u6 ≠ s := b10.ne_new n_u6
    generalize (upd G10 u6 (.tup [.ref u5, .int high])) = G11 at h_u6 k11 b11 ⊢
    refine ⟨(by decide : 5 ≤ sizeLine), fun u7 n_u7 => ?_⟩
    have h_u7 : (upd G11 u7 (.lst [.ref u1, .ref u2, .ref u3, .ref u4, .ref u6])) u7 = some (.lst [.ref u1, .ref u2, .ref u3, .ref u4, .ref u6]) := upd_same
    have k12 : Fr s G11 (upd G11 u7 (.lst [.ref u1, .ref u2, .ref u3, .ref u4, .ref u6])) := (Fr.refl s G11).new n_u7
    have b12 : BagAt (upd G11 u7 (.lst [.ref u1, .ref u2, .ref u3, .ref u4, .ref u6])) s := b11.new n_u7
    have q_u7 : u7 ≠ s := b11.ne_new n_u7
    generalize (upd G11 u7 (.lst [.ref u1, .ref u2, .ref u3, .ref u4, .ref u6])) = G12 at h_u7 k12 b12 ⊢
    refine ⟨_, rfl, s, 5, rfl, b12, (by decide), (by decide), fun r2 G13 r20 r21 k13 b13 => ?_⟩
    have hF : Fr s H G13 := ((((((((((((k1.trans k2).trans k3).trans k4).trans k5).trans k6).trans k7).trans k8).trans k9).trans k10).trans k11).trans k12).trans k13)
    have g_q1 := ((((((((((((k2.trans k3).trans k4).trans k5).trans k6).trans k7).trans k8).trans k9).trans k10).trans k11).trans k12).trans k13) _ _ q_q1 h_q1)
    have g_q2 := (((((((((((k3.trans k4).trans k5).trans k6).trans k7).trans k8).trans k9).trans k10).trans k11).trans k12).trans k13) _ _ q_q2 h_q2)
    have g_q3 := ((((((((((k4.trans k5).trans k6).trans k7).trans k8).trans k9).trans k10).trans k11).trans k12).trans k13) _ _ q_q3 h_q3)
    have g_u1 := (((((((k7.trans k8).trans k9).trans k10).trans k11).trans k12).trans k13) _ _ q_u1 h_u1)
    have g_u2 := ((((((k8.trans k9).trans k10).trans k11).trans k12).trans k13) _ _ q_u2 h_u2)
    have g_u3 := (((((k9.trans k10).trans k11).trans k12).trans k13) _ _ q_u3 h_u3)
    have g_u4 := ((((k10.trans k11).trans k12).trans k13) _ _ q_u4 h_u4)
    have g_u5 := (((k11.trans k12).trans k13) _ _ q_u5 h_u5)
    have g_u6 := ((k12.trans k13) _ _ q_u6 h_u6)
    have g_u7 := (k13 _ _ q_u7 h_u7)
    obtain ⟨d', hA, hW, hS⟩ : ∃ d, (∀ H2, Fr s G13 H2 → An K H2 ov d) ∧ wholeD d = false ∧ Sm d := by
      have hr : r1 = 0 ∨ r1 = 1 ∨ r1 = 2 ∨ r1 = 3 ∨ r1 = 4 ∨ r1 = 5 ∨ r1 = 6 := by omega
      rcases hr with rfl | rfl | rfl | rfl | rfl | rfl | rfl
      · cases hv1
        exact ⟨.none, fun H2 f => .dp .non, rfl, ⟨by decide, by decide, by decide, by decide⟩⟩
      · cases hv1
        exact ⟨.bool true, fun H2 f => .dp (.bl _), rfl, ⟨by decide, by decide, by decide, by decide⟩⟩
      · cases hv1
        exact ⟨.str "1", fun H2 f => .dp (.str _), rfl, ⟨by decide +kernel, by decide +kernel, by decide +kernel, by decide +kernel⟩⟩
      · cases hv1
        exact ⟨.tuple [.int 1], fun H2 f => .dp (.tup (SqT.of (f _ _ q_q1 g_q1)) (.cons (.int _) .nil)), rfl, ⟨by decide +kernel, by decide +kernel, by decide +kernel, by decide +kernel⟩⟩
      · cases hv1
        exact ⟨.list [.int low], fun H2 f => .dp (.lst (SqL.of (f _ _ q_q2 g_q2)) (.cons (.int _) .nil)), rfl, (sm_ints (ds := [.int low]) (by rw [List.all_cons, int_leaf2 (by omega) (by omega)]; rfl) (by show 1 ≤ 3; decide)).2⟩
      · cases hv1
        exact ⟨.dict [], fun H2 f => .dict (f _ _ q_q3 g_q3), rfl, ⟨by decide +kernel, by decide +kernel, by decide +kernel, by decide +kernel⟩⟩
      · cases hv1
        exact ⟨.bool false, fun H2 f => .dp (.bl _), rfl, ⟨by decide, by decide, by decide, by decide⟩⟩
    have hr : r2 = 0 ∨ r2 = 1 ∨ r2 = 2 ∨ r2 = 3 ∨ r2 = 4 := by omega
    rcases hr with rfl | rfl | rfl | rfl | rfl
    · exact ⟨u7, _, 0, _, rfl, rfl, SqL.of g_u7, rfl, q u1 (.int (high + 1)) (.int low) _ hF b13 g_u1 (fun H2 f => bad_n (by omega) (by omega) (by omega))⟩
    · exact ⟨u7, _, 1, _, rfl, rfl, SqL.of g_u7, rfl, q u2 (ov) (.int high) _ hF b13 g_u2 (fun H2 f => bad_l (hA H2 f) hW hS (by omega) (by omega))⟩
    · exact ⟨u7, _, 2, _, rfl, rfl, SqL.of g_u7, rfl, q u3 (.int low) (ov) _ hF b13 g_u3 (fun H2 f => bad_r (hA H2 f) hW hS (by omega) (by omega))⟩
    · exact ⟨u7, _, 3, _, rfl, rfl, SqL.of g_u7, rfl, q u4 (ov) (ov) _ hF b13 g_u4 (fun H2 f => bad_2 (hA H2 f) hW hS)⟩
    · exact ⟨u7, _, 4, _, rfl, rfl, SqL.of g_u7, rfl, q u6 (.ref u5) (.int high) _ hF b13 g_u6 (fun H2 f => bad_l (d := .tuple [.int low, .int high]) (.dp (.tup (SqT.of (f _ _ q_u5 g_u5)) (.cons (.int _) (.cons (.int _) .nil)))) rfl (sm_ints (ds := [.int low, .int high]) (by rw [List.all_cons, List.all_cons, int_leaf2 (by omega) (by omega), int_leaf2 (by omega) (by omega)]; rfl) (by show 2 ≤ 3; decide)).1 (by omega) (by omega))⟩

set_option maxHeartbeats 0 in
theorem ok_law {P : Program} {w : World} {K : PySem.W.Frag} {mg : Str → Option Value} {base : Heap} {a : Nat → Addr} {d : Nat → FuncData} (T : Txt K mg a d) : FnG P w K mg base 10 (a 25) (d 25) ["_law_script"] (spLaw K) := by
  refine fnG_mk T.F_law sc_law (fun vs H Q E h => ?_) (fun cdv A outer s0 H vs Q E gd hr h => ?_)
  · obtain ⟨l, ns, rfl, hS, hl, q⟩ := h
    rfl
  · obtain ⟨l, ns, rfl, hS, hl, q⟩ := h
    refine ⟨_, (pss_cons (ps_set (i := 1) sc_law.nd rfl (Or.inl rfl) (pe_lst (pa_cons pe_non (pa_cons pe_int (pa_cons pe_str (pa_cons (pe_lst (pa_cons pe_int (pa_cons pe_int pa_nil))) (pa_cons (pe_tup (pa_cons pe_int (pa_cons pe_int pa_nil))) (pa_cons (pe_tup (pa_cons pe_int (pa_cons pe_int pa_nil))) (pa_cons (pe_tup (pa_cons pe_int (pa_cons pe_int pa_nil))) (pa_cons (pe_tup (pa_cons pe_int (pa_cons pe_int pa_nil))) (pa_cons (pe_tup (pa_cons (pe_un un_neg pe_int) (pa_cons pe_int pa_nil))) (pa_cons (pe_tup (pa_cons pe_int (pa_cons pe_int pa_nil))) (pa_cons (pe_tup (pa_cons pe_int (pa_cons pe_int (pa_cons pe_int pa_nil)))) (pa_cons (pe_tup (pa_cons pe_bl (pa_cons pe_int pa_nil))) (pa_cons (pe_tup (pa_cons pe_int (pa_cons pe_int pa_nil))) pa_nil))))))))))))))) (pss_cons (ps_set (i := 1) sc_law.nd rfl (Or.inl rfl) (pe_op op_cat (pv 1) (pe_lst (pa_cons (pe_tup (pa_cons pe_int (pa_cons pe_bl pa_nil))) (pa_cons (pe_tup (pa_cons pe_int pa_nil)) (pa_cons pe_dnewK (pa_cons (pe_tup (pa_cons pe_non (pa_cons pe_int pa_nil))) (pa_cons (pe_tup (pa_cons (pe_tup (pa_cons pe_int pa_nil)) (pa_cons pe_int pa_nil))) (pa_cons (pe_tup (pa_cons pe_int (pa_cons (pe_un un_neg pe_int) pa_nil))) pa_nil))))))))) (pss_cons (ps_for PassesOwn.never rfl (pi_range1 (by rfl) T.z_range (pa_cons (pe_callB (call_max2 rfl) (by rfl) T.z_max (by decide +kernel) (pa_cons pe_int (pa_cons (pe_callB (call_min2 rfl) (by rfl) T.z_min (by decide +kernel) (pa_cons (pe_callB call_len_seq (by rfl) T.z_len PySem.boot_len (pa_cons (pv 0) pa_nil)) (pa_cons pe_int pa_nil))) pa_nil))) pa_nil)) (pg_name (i := 2) sc_law.nd rfl (.inl rfl)) (pss_cons (ps_set (i := 3) sc_law.nd rfl (Or.inl rfl) (pe_call (ok_l_bag T) (hr.mono (by decide)) (by rfl) T.g_l_bag T.F_l_bag.kp T.b_l_bag .nil pass0 (pa_cons (pv 0) (pa_cons (pv 2) pa_nil)))) (pss_cons (ps_if (pt_cmpR op_ne (pe_call (ok_made T) (hr.mono (by decide)) (by rfl) T.g_l_made T.F_l_made.kp T.b_l_made .nil pass0 (pa_cons (pe_ix ix_list (pv 1) (pe_call (ok_l_out T) (hr.mono (by decide)) (by rfl) T.g_l_out T.F_l_out.kp T.b_l_out .nil pass0 (pa_cons (pv 3) (pa_cons (pe_callB call_len_seq (by rfl) T.z_len PySem.boot_len (pa_cons (pv 1) pa_nil)) pa_nil))) (fun _ _ => rfl)) pa_nil)) pe_str (nomark _)) (pss_one (ps_ret pe_bl)) pss_nil) (pss_cons (ps_set (i := 4) sc_law.nd rfl (Or.inr rfl) (pe_make T.m_Clock___init__ (ok_Clock___init__ T) (hr.mono (by decide)) (by rfl) T.g_Clock T.b_Clock___init__ .nil pass0 (pa_cons (pe_call (ok_l_drift T) (hr.mono (by decide)) (by rfl) T.g_l_drift T.F_l_drift.kp T.b_l_drift .nil pass0 (pa_cons (pv 3) pa_nil)) pa_nil))) (pss_cons (ps_expr (pe_meth (pv 4) T.cl T.m_Clock_tick (ok_Clock_tick T) (hr.mono (by decide)) T.b_Clock_tick .nil pass0 (pa_cons (pe_call (ok_l_out T) (hr.mono (by decide)) (by rfl) T.g_l_out T.F_l_out.kp T.b_l_out .nil pass0 (pa_cons (pv 3) (pa_cons pe_int pa_nil))) pa_nil))) (pss_cons (ps_if (pt_cmpR (op_neD hr.units) (pe_lc (own := [("_law_way", 11)]) (g := gName 11) (te := (tVar 11)) (tt := (tNot (tTru K (tCall (spUnset K (a 28)) [] E0 (tCons (tVar 11) (tCons (tVar 4) tNil)))))) (by rfl) sc_law.nd (pi_range1 (by rfl) T.z_range (pa_cons pe_int pa_nil)) (blkOk_by (own := [("_law_way", 11)]) (N := ["_law_script", "_law_drifts", "_law_k", "_law_bag_here", "_law_clock", "_law_low", "_law_high", "_law_one", "_law_other", "_law_was", "_law_odd", "_law_way"]) (sc := defScope s_law) (by decide +kernel)) (fun _ _ _ _ _ => (pg_name (i := 11) sc_law.nd rfl (.inl rfl))) (fun _ _ _ _ _ => (pts_one (pt_not (pt_truth (pe_call (ok_unset T) (hr.mono (by decide)) (by rfl) T.g_l_unset T.F_l_unset.kp T.b_l_unset .nil pass0 (pa_cons (pv 11) (pa_cons (pv 4) pa_nil))) (by intro _; rfl))))) (fun _ _ _ _ _ => (pv 11))) (pe_lst pa_nil) (nomark _)) (pss_one (ps_ret pe_bl)) pss_nil) (pss_cons (ps_if (PW.pt (pw_or (pt_cmpR op_ne (pe_call (ok_ticked T) (hr.mono (by decide)) (by rfl) T.g_l_ticked T.F_l_ticked.kp T.b_l_ticked .nil pass0 (pa_cons (pv 4) (pa_cons (pe_ix ix_list (pe_lst (pa_cons (pe_un un_neg pe_int) (pa_cons pe_non (pa_cons pe_bl (pa_cons pe_str (pa_cons (pe_lst (pa_cons pe_int pa_nil)) pa_nil)))))) (pe_call (ok_l_out T) (hr.mono (by decide)) (by rfl) T.g_l_out T.F_l_out.kp T.b_l_out .nil pass0 (pa_cons (pv 3) (pa_cons pe_int pa_nil))) (fun _ _ => rfl)) pa_nil))) pe_str (nomark _)) (pw_or1 (pt_cmpR op_isnot_bl (pe_meth0 (pv 4) T.cl T.m_Clock_is_set (ok_Clock_is_set T) (hr.mono (by decide)) T.b_Clock_is_set .nil pass0) pe_bl (nomark _))))) (pss_one (ps_ret pe_bl)) pss_nil) (pss_cons (ps_set (i := 5) sc_law.nd rfl (Or.inl rfl) (pe_call (ok_l_out T) (hr.mono (by decide)) (by rfl) T.g_l_out T.F_l_out.kp T.b_l_out .nil pass0 (pa_cons (pv 3) (pa_cons pe_int pa_nil)))) (pss_cons (ps_set (i := 6) sc_law.nd rfl (Or.inl rfl) (pe_op op_add (pv 5) (pe_call (ok_l_out T) (hr.mono (by decide)) (by rfl) T.g_l_out T.F_l_out.kp T.b_l_out .nil pass0 (pa_cons (pv 3) (pa_cons pe_int pa_nil))))) (pss_cons (ps_asg (pe_call (ok_l_no_bounds T) (hr.mono (by decide)) (by rfl) T.g_l_no_bounds T.F_l_no_bounds.kp T.b_l_no_bounds .nil pass0 (pa_cons (pv 3) (pa_cons (pv 5) (pa_cons (pv 6) pa_nil)))) (pg_tup (by rfl) (pgs_cons (pg_name (i := 7) sc_law.nd rfl (.inl rfl)) (pgs_cons (pg_name (i := 8) sc_law.nd rfl (.inl rfl)) pgs_nil)))) (pss_cons (ps_if (PW.pt (pw_or (pt_cmpR op_isnot_bl (pe_callG (ok_lset T) gd (hr.mono (by decide)) (by rfl) T.g_l_set T.F_l_set.kp T.b_l_set pass0 (pa_cons (pv 4) (pa_cons (pv 7) (pa_cons (pv 8) pa_nil)))) pe_bl (nomark _)) (pw_or1 (pt_cmpR op_isnot_bl (pe_meth0 (pv 4) T.cl T.m_Clock_is_set (ok_Clock_is_set T) (hr.mono (by decide)) T.b_Clock_is_set .nil pass0) pe_bl (nomark _))))) (pss_one (ps_ret pe_bl)) pss_nil) (pss_cons (ps_expr (pe_meth (pv 4) T.cl T.m_Clock_set_to (ok_Clock_set_to T) (hr.mono (by decide)) T.b_Clock_set_to .nil pass0 (pa_cons (pv 5) (pa_cons (pv 6) pa_nil)))) (pss_cons (ps_expr (pe_meth (pv 4) T.cl T.m_Clock_tick (ok_Clock_tick T) (hr.mono (by decide)) T.b_Clock_tick .nil pass0 (pa_cons (pe_call (ok_l_out T) (hr.mono (by decide)) (by rfl) T.g_l_out T.F_l_out.kp T.b_l_out .nil pass0 (pa_cons (pv 3) (pa_cons pe_int pa_nil))) pa_nil))) (pss_cons (ps_set (i := 9) sc_law.nd rfl (Or.inl rfl) (pe_meth0 (pv 4) T.cl T.m_Clock_bounds (ok_Clock_bounds T) (hr.mono (by decide)) T.b_Clock_bounds .nil pass0)) (pss_cons (ps_asg (pe_call (ok_l_no_bounds T) (hr.mono (by decide)) (by rfl) T.g_l_no_bounds T.F_l_no_bounds.kp T.b_l_no_bounds .nil pass0 (pa_cons (pv 3) (pa_cons (pv 5) (pa_cons (pv 6) pa_nil)))) (pg_tup (by rfl) (pgs_cons (pg_name (i := 7) sc_law.nd rfl (.inl rfl)) (pgs_cons (pg_name (i := 8) sc_law.nd rfl (.inl rfl)) pgs_nil)))) (pss_cons (ps_set (i := 10) sc_law.nd rfl (Or.inl rfl) (pe_ix ix_list (pe_lst (pa_cons (pe_un un_neg pe_int) (pa_cons pe_non (pa_cons pe_bl (pa_cons pe_str (pa_cons (pe_lst (pa_cons pe_int pa_nil)) (pa_cons (pe_tup pa_nil) (pa_cons pe_dnewK (pa_cons pe_bl (pa_cons (pe_un un_neg (pe_op op_pow pe_int pe_int)) pa_nil)))))))))) (pe_call (ok_l_out T) (hr.mono (by decide)) (by rfl) T.g_l_out T.F_l_out.kp T.b_l_out .nil pass0 (pa_cons (pv 3) (pa_cons pe_int pa_nil))) (fun _ _ => rfl))) (pss_cons (ps_if (PW.pt (pw_or (pt_cmpR op_isnot_bl (pe_callG (ok_lset T) gd (hr.mono (by decide)) (by rfl) T.g_l_set T.F_l_set.kp T.b_l_set pass0 (pa_cons (pv 4) (pa_cons (pv 7) (pa_cons (pv 8) pa_nil)))) pe_bl (nomark _)) (pw_or (pt_cmpR op_ne (pe_call (ok_ticked T) (hr.mono (by decide)) (by rfl) T.g_l_ticked T.F_l_ticked.kp T.b_l_ticked .nil pass0 (pa_cons (pv 4) (pa_cons (pv 10) pa_nil))) pe_str (nomark _)) (pw_or1 (pt_cmpR (op_neD hr.units) (pe_meth0 (pv 4) T.cl T.m_Clock_bounds (ok_Clock_bounds T) (hr.mono (by decide)) T.b_Clock_bounds .nil pass0) (pv 9) (nomark _)))))) (pss_one (ps_ret pe_bl)) pss_nil) (pss_cons (ps_expr (pe_meth (pv 4) T.cl T.m_Clock_tick (ok_Clock_tick T) (hr.mono (by decide)) T.b_Clock_tick .nil pass0 (pa_cons pe_int pa_nil))) (pss_one (ps_if (pt_cmpR (op_neD hr.units) (pe_meth0 (pv 4) T.cl T.m_Clock_bounds (ok_Clock_bounds T) (hr.mono (by decide)) T.b_Clock_bounds .nil pass0) (pv 9) (nomark _)) (pss_one (ps_ret pe_bl)) pss_nil)))))))))))))))))))) (pss_one (ps_ret pe_bl))))), ?_⟩
    refine ⟨len2, fun a1 n_a1 => ?_⟩
    have h_a1 : (upd H a1 (.lst [.int 0, .int 1])) a1 = some (.lst [.int 0, .int 1]) := upd_same
    have k1 : Same H (upd H a1 (.lst [.int 0, .int 1])) := same_new (Same.refl H) n_a1
    generalize (upd H a1 (.lst [.int 0, .int 1])) = G1 at h_a1 k1 ⊢
    refine ⟨len2, fun a2 n_a2 => ?_⟩
    have h_a2 : (upd G1 a2 (.tup [.int 1, .int 1])) a2 = some (.tup [.int 1, .int 1]) := upd_same
    have k2 : Same G1 (upd G1 a2 (.tup [.int 1, .int 1])) := same_new (Same.refl G1) n_a2
    generalize (upd G1 a2 (.tup [.int 1, .int 1])) = G2 at h_a2 k2 ⊢
    refine ⟨len2, fun a3 n_a3 => ?_⟩
    have h_a3 : (upd G2 a3 (.tup [.int 0, .int 2])) a3 = some (.tup [.int 0, .int 2]) := upd_same
    have k3 : Same G2 (upd G2 a3 (.tup [.int 0, .int 2])) := same_new (Same.refl G2) n_a3
    generalize (upd G2 a3 (.tup [.int 0, .int 2])) = G3 at h_a3 k3 ⊢
    refine ⟨len2, fun a4 n_a4 => ?_⟩
    have h_a4 : (upd G3 a4 (.tup [.int 2, .int 4])) a4 = some (.tup [.int 2, .int 4]) := upd_same
    have k4 : Same G3 (upd G3 a4 (.tup [.int 2, .int 4])) := same_new (Same.refl G3) n_a4
    generalize (upd G3 a4 (.tup [.int 2, .int 4])) = G4 at h_a4 k4 ⊢
    refine ⟨len2, fun a5 n_a5 => ?_⟩
    have h_a5 : (upd G4 a5 (.tup [.int 3, .int 2])) a5 = some (.tup [.int 3, .int 2]) := upd_same
    have k5 : Same G4 (upd G4 a5 (.tup [.int 3, .int 2])) := same_new (Same.refl G4) n_a5
    generalize (upd G4 a5 (.tup [.int 3, .int 2])) = G5 at h_a5 k5 ⊢
    refine ⟨1, rfl, len2, fun a6 n_a6 => ?_⟩
    have h_a6 : (upd G5 a6 (.tup [.int (-1), .int 2])) a6 = some (.tup [.int (-1), .int 2]) := upd_same
    have k6 : Same G5 (upd G5 a6 (.tup [.int (-1), .int 2])) := same_new (Same.refl G5) n_a6
    generalize (upd G5 a6 (.tup [.int (-1), .int 2])) = G6 at h_a6 k6 ⊢
    refine ⟨len2, fun a7 n_a7 => ?_⟩
    have h_a7 : (upd G6 a7 (.tup [.int 1, .int 0])) a7 = some (.tup [.int 1, .int 0]) := upd_same
    have k7 : Same G6 (upd G6 a7 (.tup [.int 1, .int 0])) := same_new (Same.refl G6) n_a7
    generalize (upd G6 a7 (.tup [.int 1, .int 0])) = G7 at h_a7 k7 ⊢
    refine ⟨len3, fun a8 n_a8 => ?_⟩
    have h_a8 : (upd G7 a8 (.tup [.int 0, .int 1, .int 1])) a8 = some (.tup [.int 0, .int 1, .int 1]) := upd_same
    have k8 : Same G7 (upd G7 a8 (.tup [.int 0, .int 1, .int 1])) := same_new (Same.refl G7) n_a8
    generalize (upd G7 a8 (.tup [.int 0, .int 1, .int 1])) = G8 at h_a8 k8 ⊢
    refine ⟨len2, fun a9 n_a9 => ?_⟩
    have h_a9 : (upd G8 a9 (.tup [.bl true, .int 2])) a9 = some (.tup [.bl true, .int 2]) := upd_same
    have k9 : Same G8 (upd G8 a9 (.tup [.bl true, .int 2])) := same_new (Same.refl G8) n_a9
    generalize (upd G8 a9 (.tup [.bl true, .int 2])) = G9 at h_a9 k9 ⊢
    refine ⟨len2, fun a10 n_a10 => ?_⟩
    have h_a10 : (upd G9 a10 (.tup [.int 1, .int 1001])) a10 = some (.tup [.int 1, .int 1001]) := upd_same
    have k10 : Same G9 (upd G9 a10 (.tup [.int 1, .int 1001])) := same_new (Same.refl G9) n_a10
    generalize (upd G9 a10 (.tup [.int 1, .int 1001])) = G10 at h_a10 k10 ⊢
    refine ⟨(by decide : 13 ≤ sizeLine), fun a11 n_a11 => ?_⟩
    have h_a11 : (upd G10 a11 (.lst [.non, .int 0, .str "1/2", .ref a1, .ref a2, .ref a3, .ref a4, .ref a5, .ref a6, .ref a7, .ref a8, .ref a9, .ref a10])) a11 = some (.lst [.non, .int 0, .str "1/2", .ref a1, .ref a2, .ref a3, .ref a4, .ref a5, .ref a6, .ref a7, .ref a8, .ref a9, .ref a10]) := upd_same
    have k11 : Same G10 (upd G10 a11 (.lst [.non, .int 0, .str "1/2", .ref a1, .ref a2, .ref a3, .ref a4, .ref a5, .ref a6, .ref a7, .ref a8, .ref a9, .ref a10])) := same_new (Same.refl G10) n_a11
    generalize (upd G10 a11 (.lst [.non, .int 0, .str "1/2", .ref a1, .ref a2, .ref a3, .ref a4, .ref a5, .ref a6, .ref a7, .ref a8, .ref a9, .ref a10])) = G11 at h_a11 k11 ⊢
    refine ⟨_, rfl, ?_⟩
    refine ⟨len2, fun c1 n_c1 => ?_⟩
    have h_c1 : (upd G11 c1 (.tup [.int 0, .bl true])) c1 = some (.tup [.int 0, .bl true]) := upd_same
    have k12 : Same G11 (upd G11 c1 (.tup [.int 0, .bl true])) := same_new (Same.refl G11) n_c1
    generalize (upd G11 c1 (.tup [.int 0, .bl true])) = G12 at h_c1 k12 ⊢
    refine ⟨len1, fun c2 n_c2 => ?_⟩
    have h_c2 : (upd G12 c2 (.tup [.int 0])) c2 = some (.tup [.int 0]) := upd_same
    have k13 : Same G12 (upd G12 c2 (.tup [.int 0])) := same_new (Same.refl G12) n_c2
    generalize (upd G12 c2 (.tup [.int 0])) = G13 at h_c2 k13 ⊢
    intro c3 n_c3
    have h_c3 : (upd G13 c3 (.dK [])) c3 = some (.dK []) := upd_same
    have k14 : Same G13 (upd G13 c3 (.dK [])) := same_new (Same.refl G13) n_c3
    generalize (upd G13 c3 (.dK [])) = G14 at h_c3 k14 ⊢
    refine ⟨len2, fun c4 n_c4 => ?_⟩
    have h_c4 : (upd G14 c4 (.tup [.non, .int 2])) c4 = some (.tup [.non, .int 2]) := upd_same
    have k15 : Same G14 (upd G14 c4 (.tup [.non, .int 2])) := same_new (Same.refl G14) n_c4
    generalize (upd G14 c4 (.tup [.non, .int 2])) = G15 at h_c4 k15 ⊢
    refine ⟨len1, fun c5 n_c5 => ?_⟩
    have h_c5 : (upd G15 c5 (.tup [.int 0])) c5 = some (.tup [.int 0]) := upd_same
    have k16 : Same G15 (upd G15 c5 (.tup [.int 0])) := same_new (Same.refl G15) n_c5
    generalize (upd G15 c5 (.tup [.int 0])) = G16 at h_c5 k16 ⊢
    refine ⟨len2, fun c6 n_c6 => ?_⟩
    have h_c6 : (upd G16 c6 (.tup [.ref c5, .int 1])) c6 = some (.tup [.ref c5, .int 1]) := upd_same
    have k17 : Same G16 (upd G16 c6 (.tup [.ref c5, .int 1])) := same_new (Same.refl G16) n_c6
    generalize (upd G16 c6 (.tup [.ref c5, .int 1])) = G17 at h_c6 k17 ⊢
    refine ⟨1, rfl, len2, fun c7 n_c7 => ?_⟩
    have h_c7 : (upd G17 c7 (.tup [.int 0, .int (-1)])) c7 = some (.tup [.int 0, .int (-1)]) := upd_same
    have k18 : Same G17 (upd G17 c7 (.tup [.int 0, .int (-1)])) := same_new (Same.refl G17) n_c7
    generalize (upd G17 c7 (.tup [.int 0, .int (-1)])) = G18 at h_c7 k18 ⊢
    refine ⟨(by decide : 6 ≤ sizeLine), fun c8 n_c8 => ?_⟩
    have h_c8 : (upd G18 c8 (.lst [.ref c1, .ref c2, .ref c3, .ref c4, .ref c6, .ref c7])) c8 = some (.lst [.ref c1, .ref c2, .ref c3, .ref c4, .ref c6, .ref c7]) := upd_same
    have k19 : Same G18 (upd G18 c8 (.lst [.ref c1, .ref c2, .ref c3, .ref c4, .ref c6, .ref c7])) := same_new (Same.refl G18) n_c8
    generalize (upd G18 c8 (.lst [.ref c1, .ref c2, .ref c3, .ref c4, .ref c6, .ref c7])) = G19 at h_c8 k19 ⊢
    refine ⟨a11, c8, _, _, rfl, rfl, ((((((((k12.trans k13).trans k14).trans k15).trans k16).trans k17).trans k18).trans k19) _ _ h_a11), h_c8, (by decide : 13 + 6 ≤ sizeLine), fun pd n_pd => ?_⟩
    have h_pd : (upd G19 pd (.lst ([.non, .int 0, .str "1/2", .ref a1, .ref a2, .ref a3, .ref a4, .ref a5, .ref a6, .ref a7, .ref a8, .ref a9, .ref a10] ++ [.ref c1, .ref c2, .ref c3, .ref c4, .ref c6, .ref c7]))) pd = some (.lst ([.non, .int 0, .str "1/2", .ref a1, .ref a2, .ref a3, .ref a4, .ref a5, .ref a6, .ref a7, .ref a8, .ref a9, .ref a10] ++ [.ref c1, .ref c2, .ref c3, .ref c4, .ref c6, .ref c7])) := upd_same
    have k20 : Same G19 (upd G19 pd (.lst ([.non, .int 0, .str "1/2", .ref a1, .ref a2, .ref a3, .ref a4, .ref a5, .ref a6, .ref a7, .ref a8, .ref a9, .ref a10] ++ [.ref c1, .ref c2, .ref c3, .ref c4, .ref c6, .ref c7]))) := same_new (Same.refl G19) n_pd
    generalize (upd G19 pd (.lst ([.non, .int 0, .str "1/2", .ref a1, .ref a2, .ref a3, .ref a4, .ref a5, .ref a6, .ref a7, .ref a8, .ref a9, .ref a10] ++ [.ref c1, .ref c2, .ref c3, .ref c4, .ref c6, .ref c7]))) = G20 at h_pd k20 ⊢
    have hpd : G20 pd = some (.lst [.non, .int 0, .str "1/2", .ref a1, .ref a2, .ref a3, .ref a4, .ref a5, .ref a6, .ref a7, .ref a8, .ref a9, .ref a10, .ref c1, .ref c2, .ref c3, .ref c4, .ref c6, .ref c7]) := h_pd
    have g_a1 := (((((((((((((((((((k2.trans k3).trans k4).trans k5).trans k6).trans k7).trans k8).trans k9).trans k10).trans k11).trans k12).trans k13).trans k14).trans k15).trans k16).trans k17).trans k18).trans k19).trans k20) _ _ h_a1)
    have g_a2 := ((((((((((((((((((k3.trans k4).trans k5).trans k6).trans k7).trans k8).trans k9).trans k10).trans k11).trans k12).trans k13).trans k14).trans k15).trans k16).trans k17).trans k18).trans k19).trans k20) _ _ h_a2)
    have g_a3 := (((((((((((((((((k4.trans k5).trans k6).trans k7).trans k8).trans k9).trans k10).trans k11).trans k12).trans k13).trans k14).trans k15).trans k16).trans k17).trans k18).trans k19).trans k20) _ _ h_a3)
    have g_a4 := ((((((((((((((((k5.trans k6).trans k7).trans k8).trans k9).trans k10).trans k11).trans k12).trans k13).trans k14).trans k15).trans k16).trans k17).trans k18).trans k19).trans k20) _ _ h_a4)
    have g_a5 := (((((((((((((((k6.trans k7).trans k8).trans k9).trans k10).trans k11).trans k12).trans k13).trans k14).trans k15).trans k16).trans k17).trans k18).trans k19).trans k20) _ _ h_a5)
    have g_a6 := ((((((((((((((k7.trans k8).trans k9).trans k10).trans k11).trans k12).trans k13).trans k14).trans k15).trans k16).trans k17).trans k18).trans k19).trans k20) _ _ h_a6)
    have g_a7 := (((((((((((((k8.trans k9).trans k10).trans k11).trans k12).trans k13).trans k14).trans k15).trans k16).trans k17).trans k18).trans k19).trans k20) _ _ h_a7)
    have g_a8 := ((((((((((((k9.trans k10).trans k11).trans k12).trans k13).trans k14).trans k15).trans k16).trans k17).trans k18).trans k19).trans k20) _ _ h_a8)
    have g_a9 := (((((((((((k10.trans k11).trans k12).trans k13).trans k14).trans k15).trans k16).trans k17).trans k18).trans k19).trans k20) _ _ h_a9)
    have g_a10 := ((((((((((k11.trans k12).trans k13).trans k14).trans k15).trans k16).trans k17).trans k18).trans k19).trans k20) _ _ h_a10)
    have g_c1 := ((((((((k13.trans k14).trans k15).trans k16).trans k17).trans k18).trans k19).trans k20) _ _ h_c1)
    have g_c2 := (((((((k14.trans k15).trans k16).trans k17).trans k18).trans k19).trans k20) _ _ h_c2)
    have g_c3 := ((((((k15.trans k16).trans k17).trans k18).trans k19).trans k20) _ _ h_c3)
    have g_c4 := (((((k16.trans k17).trans k18).trans k19).trans k20) _ _ h_c4)
    have g_c5 := ((((k17.trans k18).trans k19).trans k20) _ _ h_c5)
    have g_c6 := (((k18.trans k19).trans k20) _ _ h_c6)
    have g_c7 := ((k19.trans k20) _ _ h_c7)
    have sD : Same H G20 := (((((((((((((((((((k1.trans k2).trans k3).trans k4).trans k5).trans k6).trans k7).trans k8).trans k9).trans k10).trans k11).trans k12).trans k13).trans k14).trans k15).trans k16).trans k17).trans k18).trans k19).trans k20)
    have DR : ∀ r : Int, 0 ≤ r → r < 19 → ∃ v d, atI [.non, .int 0, .str "1/2", .ref a1, .ref a2, .ref a3, .ref a4, .ref a5, .ref a6, .ref a7, .ref a8, .ref a9, .ref a10, .ref c1, .ref c2, .ref c3, .ref c4, .ref c6, .ref c7] r = some v ∧ (∀ H', Same G20 H' → An K H' v d) ∧ driftD d = false := by
      intro r h0 h1
      have hr : r = 0 ∨ r = 1 ∨ r = 2 ∨ r = 3 ∨ r = 4 ∨ r = 5 ∨ r = 6 ∨ r = 7 ∨ r = 8 ∨ r = 9 ∨ r = 10 ∨ r = 11 ∨ r = 12 ∨ r = 13 ∨ r = 14 ∨ r = 15 ∨ r = 16 ∨ r = 17 ∨ r = 18 := by omega
      rcases hr with rfl | rfl | rfl | rfl | rfl | rfl | rfl | rfl | rfl | rfl | rfl | rfl | rfl | rfl | rfl | rfl | rfl | rfl | rfl
      · exact ⟨_, .none, rfl, fun H' f => .dp .non, by decide +kernel⟩
      · exact ⟨_, .int 0, rfl, fun H' f => .dp (.int _), by decide +kernel⟩
      · exact ⟨_, .str "1/2", rfl, fun H' f => .dp (.str _), by decide +kernel⟩
      · exact ⟨_, .list [.int 0, .int 1], rfl, fun H' f => .dp (.lst (SqL.of (f _ _ g_a1)) ((.cons (.int _) (.cons (.int _) .nil)))), by decide +kernel⟩
      · exact ⟨_, .tuple [.int 1, .int 1], rfl, fun H' f => .dp (.tup (SqT.of (f _ _ g_a2)) ((.cons (.int _) (.cons (.int _) .nil)))), by decide +kernel⟩
      · exact ⟨_, .tuple [.int 0, .int 2], rfl, fun H' f => .dp (.tup (SqT.of (f _ _ g_a3)) ((.cons (.int _) (.cons (.int _) .nil)))), by decide +kernel⟩
      · exact ⟨_, .tuple [.int 2, .int 4], rfl, fun H' f => .dp (.tup (SqT.of (f _ _ g_a4)) ((.cons (.int _) (.cons (.int _) .nil)))), by decide +kernel⟩
      · exact ⟨_, .tuple [.int 3, .int 2], rfl, fun H' f => .dp (.tup (SqT.of (f _ _ g_a5)) ((.cons (.int _) (.cons (.int _) .nil)))), by decide +kernel⟩
      · exact ⟨_, .tuple [.int (-1), .int 2], rfl, fun H' f => .dp (.tup (SqT.of (f _ _ g_a6)) ((.cons (.int _) (.cons (.int _) .nil)))), by decide +kernel⟩
      · exact ⟨_, .tuple [.int 1, .int 0], rfl, fun H' f => .dp (.tup (SqT.of (f _ _ g_a7)) ((.cons (.int _) (.cons (.int _) .nil)))), by decide +kernel⟩
      · exact ⟨_, .tuple [.int 0, .int 1, .int 1], rfl, fun H' f => .dp (.tup (SqT.of (f _ _ g_a8)) ((.cons (.int _) (.cons (.int _) (.cons (.int _) .nil))))), by decide +kernel⟩
      · exact ⟨_, .tuple [.bool true, .int 2], rfl, fun H' f => .dp (.tup (SqT.of (f _ _ g_a9)) (.cons (.bl _) (.cons (.int _) .nil))), by decide +kernel⟩
      · exact ⟨_, .tuple [.int 1, .int 1001], rfl, fun H' f => .dp (.tup (SqT.of (f _ _ g_a10)) ((.cons (.int _) (.cons (.int _) .nil)))), by decide +kernel⟩
      · exact ⟨_, .tuple [.int 0, .bool true], rfl, fun H' f => .dp (.tup (SqT.of (f _ _ g_c1)) (.cons (.int _) (.cons (.bl _) .nil))), by decide +kernel⟩
      · exact ⟨_, .tuple [.int 0], rfl, fun H' f => .dp (.tup (SqT.of (f _ _ g_c2)) ((.cons (.int _) .nil))), by decide +kernel⟩
      · exact ⟨_, .dict [], rfl, fun H' f => .dict (f _ _ g_c3), by decide +kernel⟩
      · exact ⟨_, .tuple [.none, .int 2], rfl, fun H' f => .dp (.tup (SqT.of (f _ _ g_c4)) (.cons .non (.cons (.int _) .nil))), by decide +kernel⟩
      · exact ⟨_, .tuple [.tuple [.int 0], .int 1], rfl, fun H' f => .dp (.tup (SqT.of (f _ _ g_c6)) (.cons (.tup (SqT.of (f _ _ g_c5)) (.cons (.int _) .nil)) (.cons (.int _) .nil))), by decide +kernel⟩
      · exact ⟨_, .tuple [.int 0, .int (-1)], rfl, fun H' f => .dp (.tup (SqT.of (f _ _ g_c7)) ((.cons (.int _) (.cons (.int _) .nil)))), by decide +kernel⟩
    clear k1 k2 k3 k4 k5 k6 k7 k8 k9 k10 k11 k12 k13 k14 k15 k16 k17 k18 k19 k20 h_a1 h_a2 h_a3 h_a4 h_a5 h_a6 h_a7 h_a8 h_a9 h_a10 h_a11 h_c1 h_c2 h_c3 h_c4 h_c5 h_c6 h_c7 h_c8 g_a1 g_a2 g_a3 g_a4 g_a5 g_a6 g_a7 g_a8 g_a9 g_a10 g_c1 g_c2 g_c3 g_c4 g_c5 g_c6 g_c7
    generalize G20 = G at sD hpd DR ⊢
    refine ⟨_, rfl, l, _, rfl, .inl (sD.seq hS), _, 20, rfl, 1, _, rfl, _, rfl, ?_, ?_, ?_⟩
    · rw [List.length_map]; (repeat' split) <;> omega
    · rw [List.length_map]; (repeat' split) <;> omega
    have hN : (if (if (20 : Int) < ((ns.map V.int).length : Int) then (20 : Int) else ((ns.map V.int).length : Int)) > 1 then (if (20 : Int) < ((ns.map V.int).length : Int) then (20 : Int) else ((ns.map V.int).length : Int)) else (1 : Int)).toNat ≤ 63 := by
      rw [List.length_map]; (repeat' split) <;> omega
    refine for_range (fun i σ H' => Same G H' ∧ ∃ v2 v3 v4 v5 v6 v7 v8 v9 v10 v11 : Option V, σ = [some (.ref l), some (.ref pd), v2, v3, v4, v5, v6, v7, v8, v9, v10, v11]) ⟨Same.refl G, none, none, none, none, none, none, none, none, none, none, rfl⟩ ?_ ?_
    · rintro i0 σ H1 hi ⟨S1, v2, v3, v4, v5, v6, v7, v8, v9, v10, v11, rfl⟩
      refine ⟨_, rfl, _, rfl, l, ns, _, rfl, (sD.trans S1).seq hS, by omega, by omega, fun s H2 ns0 s2 b0 => ?_⟩
      have S2 := S1.trans s2
      have hs0 : G s = none := S1.free ns0
      have pds : pd ≠ s := ne_of_none (S1 _ _ hpd) ns0
      -- what is no drift
      refine ⟨_, rfl, _, rfl, _, rfl, pd, _, rfl, .inl (SqL.of (S2 _ _ hpd)), s, 19, rfl, b0, (by decide), (by decide), fun r1 H3 r10 r11 k3 b3 => ?_⟩
      obtain ⟨v, d0, hv, hA, hd0⟩ := DR r1 r10 r11
      have S3 : Same G H3 := k3.over S2 hs0
      refine ⟨pd, _, r1, v, rfl, rfl, SqL.of (S3 _ _ hpd), hv, v, d0, rfl, hA H3 S3, hd0, fun H4 s4 => ⟨rfl, _, rfl, iteNS rfl ?_⟩⟩
      have S4 := S3.trans s4
      have b4 := b3.same s4
      clear hv hA hd0 S3 b3 k3 s4
      -- the clock
      refine ⟨_, rfl, s, rfl, b4, fun t b dr H5 k5 b5 hd5 _ => ?_⟩
      have S5 : Same G H5 := k5.over S4 hs0
      intro x dx nx ndx nex
      have sm : Same H5 (upd (upd H5 dx (.own x)) x (.ins (a 28) dx [])) := same_make nx ndx
      have hx0 : G x = none := S5.free nx
      refine ⟨x, dr, dx, t, b, rfl, upd_same, hd5.same sm, fun H6 k6 hk6 => ⟨rfl, ?_⟩⟩
      have S6 : Same G H6 := k6.over (S5.trans sm) hx0
      have b6 : BagAt H6 s := (b5.same sm).fr k6 (b5.ne_none nx)
      obtain ⟨dx6, sv6, hc6, _⟩ := hk6.at_
      refine ⟨_, rfl, x, dx6, _, rfl, hc6, cf_no _ _ _ (by decide +kernel) (by decide +kernel) (by decide +kernel), _, rfl, s, 9, rfl, b6, (by decide), (by decide), fun r7 H7 r70 r71 k7 b7 => ?_⟩
      have S7 : Same G H7 := k7.over S6 hs0
      have hk7 := hk6.bag k7 b6
      refine ⟨x, dr, t, b, none, 0, r7, rfl, hk7, r70, fun H8 k8 hk8 => ?_⟩
      have S8 : Same G H8 := k8.over S7 hx0
      have b8 : BagAt H8 s := b7.ck k8 hk7
      clear hk7 b7 S7 hk6 b6 S6 sm b5 S5 hd5 S4 b4 S2 b0 k8 k7 k6 k5 hc6
      -- unset
      refine ⟨3, rfl, by decide, by decide, fun D nD => ?_⟩
      refine lc_range (lo := 0) (n := 3) (fun i H' => Same H8 H' ∧ H' D = some (.lst [])) ⟨same_new (Same.refl H8) nD, upd_same⟩ ?_ ?_
      · rintro i H' hi3 ⟨s1, hD⟩
        refine ⟨rfl, _, rfl, _, rfl, x, dr, t, b, _, _, rfl, hk8.same s1, by omega, by omega, fun H2' s2' => ⟨true, rfl, iteF ⟨s1.trans s2', s2' _ _ hD⟩⟩⟩
      rintro H9 ⟨s9, hD9⟩
      refine ⟨Nat.zero_le _, fun pe npe => ?_⟩
      have se : Same H9 (upd H9 pe (.lst [])) := same_new (Same.refl H9) npe
      refine ⟨.list [], .list [], .lst (SqL.of (se _ _ hD9)) .nil, .lst (SqL.of upd_same) .nil, rfl, rfl, _, rfl, iteBF rfl ?_⟩
      have s89 := s9.trans se
      have S9 := S8.trans s89
      have b9 := b8.same s89
      have hk9 := hk8.same s89
      generalize (upd H9 pe (.lst [])) = Ha at S9 b9 hk9 ⊢
      clear s89 se s9 hD9 hk8 b8 S8
      -- ticks that are none
      refine ⟨_, rfl, 1, rfl, len1, fun w1 n_w1 => ?_⟩
      have sw1 : Same Ha (upd Ha w1 (.lst [.int 1])) := same_new (Same.refl Ha) n_w1
      have h_w1 : (upd Ha w1 (.lst [.int 1])) w1 = some (.lst [.int 1]) := upd_same
      have q_w1 : w1 ≠ s := b9.ne_new n_w1
      generalize (upd Ha w1 (.lst [.int 1])) = Hb at sw1 h_w1 ⊢
      refine ⟨(by decide : 5 ≤ sizeLine), fun w2 n_w2 => ?_⟩
      have sw2 : Same Hb (upd Hb w2 (.lst [.int (-1), .non, .bl true, .str "1", .ref w1])) := same_new (Same.refl Hb) n_w2
      have h_w2 : (upd Hb w2 (.lst [.int (-1), .non, .bl true, .str "1", .ref w1])) w2 = some (.lst [.int (-1), .non, .bl true, .str "1", .ref w1]) := upd_same
      have q_w2 : w2 ≠ s := (b9.same sw1).ne_new n_w2
      generalize (upd Hb w2 (.lst [.int (-1), .non, .bl true, .str "1", .ref w1])) = Hc at sw2 h_w2 ⊢
      have sac := sw1.trans sw2
      have bc := b9.same sac
      refine ⟨_, rfl, s, 5, rfl, bc, (by decide), (by decide), fun r2 Hd r20 r21 kd bd => ?_⟩
      have Sd : Same G Hd := kd.over (S9.trans sac) hs0
      have hkd := (hk9.same sac).bag kd bc
      obtain ⟨v, hv2⟩ := at_some (l := [.int (-1), .non, .bl true, .str "1", .ref w1]) r20 r21
      obtain ⟨d0, hA, hd0⟩ : ∃ d, An K Hd v d ∧ countD d = false := by
        have hr : r2 = 0 ∨ r2 = 1 ∨ r2 = 2 ∨ r2 = 3 ∨ r2 = 4 := by omega
        rcases hr with rfl | rfl | rfl | rfl | rfl
        · cases hv2
          exact ⟨.int (-1), .dp (.int _), rfl⟩
        · cases hv2
          exact ⟨.none, .dp .non, rfl⟩
        · cases hv2
          exact ⟨.bool true, .dp (.bl _), rfl⟩
        · cases hv2
          exact ⟨.str "1", .dp (.str _), rfl⟩
        · cases hv2
          exact ⟨.list [.int 1], .dp (.lst (SqL.of (kd _ _ q_w1 (sw2 _ _ h_w1))) (.cons (.int _) .nil)), rfl⟩
      refine ⟨w2, _, r2, _, rfl, rfl, SqL.of (kd _ _ q_w2 h_w2), hv2, x, dr, t, b, none, _, v, d0, rfl, hkd, hA, hd0, fun He se => ⟨rfl, _, rfl, iteNS rfl ?_⟩⟩
      have Se := Sd.trans se
      have be := bd.same se
      have hke := hkd.same se
      obtain ⟨dxe, sve, hce, _⟩ := hke.at_
      refine ⟨_, rfl, x, dxe, _, rfl, hce, cf_no _ _ _ (by decide +kernel) (by decide +kernel) (by decide +kernel), x, dr, t, b, none, _, rfl, hke, _, _, rfl, rfl, _, rfl, iteNS rfl ?_⟩
      clear hv2 hA hd0 Sd bd hkd bc sac sw1 sw2 h_w1 h_w2 hk9 b9 S9 kd
      refine ⟨_, rfl, s, 100, rfl, be, (by decide), (by decide), fun low Hf low0 low1 kf bf => ?_⟩
      have Sf : Same G Hf := kf.over Se hs0
      have hkf := hke.bag kf be
      refine ⟨_, rfl, _, rfl, s, 9, rfl, bf, (by decide), (by decide), fun r3 Hg r30 r31 kg bg => ⟨low, r3, rfl, rfl, ?_⟩⟩
      have Sg : Same G Hg := kg.over Sf hs0
      have hkg := hkf.bag kg bf
      have hlh : low ≤ low + r3 := by omega
      have hh1 : low + r3 ≤ 1000 := by omega
      clear Sf hkf bf Se hke be
      refine ⟨_, rfl, _, rfl, _, rfl, s, low, (low + r3), rfl, bg, low0, hlh, hh1, fun p xa ya Hh kh bh hp bad => ?_⟩
      have Sh : Same G Hh := kh.over Sg hs0
      have hkh := hkg.bag kh bg
      refine ⟨p, _, rfl, SqT.of hp, rfl, _, _, rfl, _, _, rfl, rfl, ?_⟩
      refine ⟨_, rfl, _, rfl, _, rfl, x, dr, t, b, none, _, xa, ya, rfl, hkh, bad Hh (Fr.refl s Hh), fun Hi si => ⟨_, _, rfl, rfl, _, rfl, iteNS rfl ?_⟩⟩
      have Si := Sh.trans si
      have bi := bh.same si
      have hki := hkh.same si
      obtain ⟨dxi, svi, hci, _⟩ := hki.at_
      refine ⟨_, rfl, x, dxi, _, rfl, hci, cf_no _ _ _ (by decide +kernel) (by decide +kernel) (by decide +kernel), x, dr, t, b, none, _, rfl, hki, _, _, rfl, rfl, _, rfl, iteNS rfl ?_⟩
      clear hkh bh Sh hkg bg Sg bad hp
      refine ⟨_, rfl, x, dxi, _, rfl, hci, cf_no _ _ _ (by decide +kernel) (by decide +kernel) (by decide +kernel), _, rfl, _, rfl, x, dr, t, b, none, _, low, (low + r3), rfl, hki, hlh, hlh, fun Hj kj hkj => ?_⟩
      have Sj : Same G Hj := kj.over Si hx0
      have bj := bi.ck kj hki
      have hkj : CkAt K (a 28) Hj x dr t b (some (low, (low + r3))) 0 := hkj
      obtain ⟨dxj, svj, hcj, _⟩ := hkj.at_
      clear hki bi Si
      refine ⟨_, rfl, x, dxj, _, rfl, hcj, cf_no _ _ _ (by decide +kernel) (by decide +kernel) (by decide +kernel), _, rfl, s, 9, rfl, bj, (by decide), (by decide), fun n Hk n0 n1 kk bk => ?_⟩
      have Sk : Same G Hk := kk.over Sj hs0
      have hkk := hkj.bag kk bj
      refine ⟨x, dr, t, b, some (low, (low + r3)), 0, n, rfl, hkk, n0, fun Hl kl hkl => ?_⟩
      have Sl : Same G Hl := kl.over Sk hx0
      have bl := bk.ck kl hkk
      rw [Int.zero_add] at hkl
      obtain ⟨dxl, svl, hcl, _⟩ := hkl.at_
      clear hkk bk Sk hkj bj Sj
      refine ⟨_, rfl, x, dxl, _, rfl, hcl, cf_no _ _ _ (by decide +kernel) (by decide +kernel) (by decide +kernel), x, dr, t, b, low, (low + r3), n, rfl, hkl, fun pw npw => ?_⟩
      have spw : Same Hl (upd Hl pw (.tup [.int (low + leastP n t b), .int ((low + r3) + mostP n t b)])) := same_new (Same.refl Hl) npw
      have hpw : (upd Hl pw (.tup [.int (low + leastP n t b), .int ((low + r3) + mostP n t b)])) pw = some (.tup [.int (low + leastP n t b), .int ((low + r3) + mostP n t b)]) := upd_same
      have Sm_ := Sl.trans spw
      have bm := bl.same spw
      have hkm := hkl.same spw
      generalize (upd Hl pw (.tup [.int (low + leastP n t b), .int ((low + r3) + mostP n t b)])) = Hm at hpw Sm_ bm hkm ⊢
      clear spw hkl bl Sl
      have pws : ∀ {A : Hp}, BagAt A s → A pw = some (.tup [.int (low + leastP n t b), .int ((low + r3) + mostP n t b)]) → pw ≠ s := fun bb e => by
        obtain ⟨_, _, e2, _⟩ := bb
        exact ne_of e e2 (by intro z; cases z)
      have pwx : ∀ {A : Hp} {dd : Addr} {fs : List (Str × V)}, A x = some (.ins (a 28) dd fs) → A pw = some (.tup [.int (low + leastP n t b), .int ((low + r3) + mostP n t b)]) → pw ≠ x := fun e2 e => ne_of e e2 (by intro z; cases z)
      refine ⟨_, rfl, _, rfl, _, rfl, s, low, (low + r3), rfl, bm, low0, hlh, hh1, fun p xa ya Hn kn bn hp bad => ?_⟩
      have Sn : Same G Hn := kn.over Sm_ hs0
      have hkn := hkm.bag kn bm
      have hpn := kn _ _ (pws bm hpw) hpw
      refine ⟨p, _, rfl, SqT.of hp, rfl, _, _, rfl, _, _, rfl, rfl, ?_⟩
      -- odd
      refine ⟨1, rfl, len1, fun y1 n_y1 => ?_⟩
      have b0 := bn
      have h_y1 : (upd Hn y1 (.lst [.int 1])) y1 = some (.lst [.int 1]) := upd_same
      have k1 : Fr s Hn (upd Hn y1 (.lst [.int 1])) := (Fr.refl s Hn).new n_y1
      have b1 : BagAt (upd Hn y1 (.lst [.int 1])) s := b0.new n_y1
      have q_y1 : y1 ≠ s := b0.ne_new n_y1
      generalize (upd Hn y1 (.lst [.int 1])) = G1 at h_y1 k1 b1 ⊢
      refine ⟨Nat.zero_le _, fun y2 n_y2 => ?_⟩
      have h_y2 : (upd G1 y2 (.tup [])) y2 = some (.tup []) := upd_same
      have k2 : Fr s G1 (upd G1 y2 (.tup [])) := (Fr.refl s G1).new n_y2
      have b2 : BagAt (upd G1 y2 (.tup [])) s := b1.new n_y2
      have q_y2 : y2 ≠ s := b1.ne_new n_y2
      generalize (upd G1 y2 (.tup [])) = G2 at h_y2 k2 b2 ⊢
      intro y3 n_y3
      have h_y3 : (upd G2 y3 (.dK [])) y3 = some (.dK []) := upd_same
      have k3 : Fr s G2 (upd G2 y3 (.dK [])) := (Fr.refl s G2).new n_y3
      have b3 : BagAt (upd G2 y3 (.dK [])) s := b2.new n_y3
      have q_y3 : y3 ≠ s := b2.ne_new n_y3
      generalize (upd G2 y3 (.dK [])) = G3 at h_y3 k3 b3 ⊢
      refine ⟨10, 20, rfl, rfl, ⟨by decide, by decide, by decide⟩, _, rfl, (by decide : 9 ≤ sizeLine), fun xO n_xO => ?_⟩
      have h_xO : (upd G3 xO (.lst [.int (-1), .non, .bl true, .str "1", .ref y1, .ref y2, .ref y3, .bl false, .int (-(10 ^ (20 : Int).toNat))])) xO = some (.lst [.int (-1), .non, .bl true, .str "1", .ref y1, .ref y2, .ref y3, .bl false, .int (-(10 ^ (20 : Int).toNat))]) := upd_same
      have k4 : Fr s G3 (upd G3 xO (.lst [.int (-1), .non, .bl true, .str "1", .ref y1, .ref y2, .ref y3, .bl false, .int (-(10 ^ (20 : Int).toNat))])) := (Fr.refl s G3).new n_xO
      have b4 : BagAt (upd G3 xO (.lst [.int (-1), .non, .bl true, .str "1", .ref y1, .ref y2, .ref y3, .bl false, .int (-(10 ^ (20 : Int).toNat))])) s := b3.new n_xO
      have q_xO : xO ≠ s := b3.ne_new n_xO
      generalize (upd G3 xO (.lst [.int (-1), .non, .bl true, .str "1", .ref y1, .ref y2, .ref y3, .bl false, .int (-(10 ^ (20 : Int).toNat))])) = G4 at h_xO k4 b4 ⊢
      refine ⟨_, rfl, s, 9, rfl, b4, (by decide), (by decide), fun r4 Ho r40 r41 k5 bO => ?_⟩
      obtain ⟨ov, hv4⟩ := at_some (l := [.int (-1), .non, .bl true, .str "1", .ref y1, .ref y2, .ref y3, .bl false, .int (-(10 ^ (20 : Int).toNat))]) r40 r41
      have kO : Fr s Hn Ho := ((((k1.trans k2).trans k3).trans k4).trans k5)
      have gO := (k5 _ _ q_xO h_xO)
      have g_y1 := ((((k2.trans k3).trans k4).trans k5) _ _ q_y1 h_y1)
      have g_y2 := (((k3.trans k4).trans k5) _ _ q_y2 h_y2)
      have g_y3 := ((k4.trans k5) _ _ q_y3 h_y3)
      obtain ⟨od, hA, hd0⟩ : ∃ d, An K Ho ov d ∧ countD d = false := by
        have hr : r4 = 0 ∨ r4 = 1 ∨ r4 = 2 ∨ r4 = 3 ∨ r4 = 4 ∨ r4 = 5 ∨ r4 = 6 ∨ r4 = 7 ∨ r4 = 8 := by omega
        rcases hr with rfl | rfl | rfl | rfl | rfl | rfl | rfl | rfl | rfl
        · cases hv4
          exact ⟨.int (-1), .dp (.int _), rfl⟩
        · cases hv4
          exact ⟨.none, .dp .non, rfl⟩
        · cases hv4
          exact ⟨.bool true, .dp (.bl _), rfl⟩
        · cases hv4
          exact ⟨.str "1", .dp (.str _), rfl⟩
        · cases hv4
          exact ⟨.list [.int 1], .dp (.lst (SqL.of g_y1) (.cons (.int _) .nil)), rfl⟩
        · cases hv4
          exact ⟨.tuple [], .dp (.tup (SqT.of g_y2) .nil), rfl⟩
        · cases hv4
          exact ⟨.dict [], .dict g_y3, rfl⟩
        · cases hv4
          exact ⟨.bool false, .dp (.bl _), rfl⟩
        · cases hv4
          exact ⟨.int (-(10 ^ (20 : Int).toNat)), .dp (.int _), by decide⟩
      refine ⟨xO, _, r4, _, rfl, rfl, SqL.of gO, hv4, ?_⟩
      have Sp : Same G Ho := kO.over Sn hs0
      have hkp := hkn.bag kO bn
      have hpp := kO _ _ (pws bn hpn) hpn
      refine ⟨_, rfl, _, rfl, _, rfl, x, dr, t, b, _, _, xa, ya, rfl, hkp, bad Ho kO, fun Hq sq => ⟨_, _, rfl, rfl, _, rfl, iteNS rfl ?_⟩⟩
      have Sq := Sp.trans sq
      have bq_ := bO.same sq
      have hkq := hkp.same sq
      refine ⟨_, rfl, _, rfl, x, dr, t, b, _, _, ov, od, rfl, hkq, hA.up sq, hd0, fun Hr sr => ⟨rfl, _, rfl, iteNS rfl ?_⟩⟩
      have Sr := Sq.trans sr
      have br := bq_.same sr
      have hkr := hkq.same sr
      have hpr := sr _ _ (sq _ _ hpp)
      obtain ⟨dxr, svr, hcr, _⟩ := hkr.at_
      refine ⟨_, rfl, x, dxr, _, rfl, hcr, cf_no _ _ _ (by decide +kernel) (by decide +kernel) (by decide +kernel), x, dr, t, b, low, (low + r3), n, rfl, hkr, fun p2 np2 => ?_⟩
      have sp2 : ∀ o, Same Hr (upd Hr p2 o) := fun o => same_new (Same.refl Hr) np2
      refine ⟨_, rfl, .tuple [.int (low + leastP n t b), .int ((low + r3) + mostP n t b)], .tuple [.int (low + leastP n t b), .int ((low + r3) + mostP n t b)], .tup (SqT.of upd_same) (.cons (.int _) (.cons (.int _) .nil)), .tup (SqT.of (sp2 _ _ _ hpr)) (.cons (.int _) (.cons (.int _) .nil)), rfl, rfl, _, rfl, iteBF (by rw [eqv_two rfl rfl]; rfl) ?_⟩
      have S3' := Sr.trans (sp2 (.tup [.int (low + leastP n t b), .int ((low + r3) + mostP n t b)]))
      have hk3' := hkr.same (sp2 (.tup [.int (low + leastP n t b), .int ((low + r3) + mostP n t b)]))
      have hp3' := sp2 (.tup [.int (low + leastP n t b), .int ((low + r3) + mostP n t b)]) _ _ hpr
      generalize (upd Hr p2 (.tup [.int (low + leastP n t b), .int ((low + r3) + mostP n t b)])) = Hs at S3' hk3' hp3' ⊢
      obtain ⟨dxs, svs, hcs, _⟩ := hk3'.at_
      refine ⟨_, rfl, x, dxs, _, rfl, hcs, cf_no _ _ _ (by decide +kernel) (by decide +kernel) (by decide +kernel), x, dr, t, b, some (low, (low + r3)), n, 0, rfl, hk3', (by decide), fun Ht kt hkt => ?_⟩
      rw [Int.add_zero] at hkt
      have St : Same G Ht := kt.over S3' hx0
      have hpt := kt _ _ (pwx hcs hp3') hp3'
      obtain ⟨dxt, svt, hct, _⟩ := hkt.at_
      refine ⟨_, rfl, x, dxt, _, rfl, hct, cf_no _ _ _ (by decide +kernel) (by decide +kernel) (by decide +kernel), x, dr, t, b, low, (low + r3), n, rfl, hkt, fun p3 np3 => ?_⟩
      have sp3 : ∀ o, Same Ht (upd Ht p3 o) := fun o => same_new (Same.refl Ht) np3
      refine ⟨_, rfl, .tuple [.int (low + leastP n t b), .int ((low + r3) + mostP n t b)], .tuple [.int (low + leastP n t b), .int ((low + r3) + mostP n t b)], .tup (SqT.of upd_same) (.cons (.int _) (.cons (.int _) .nil)), .tup (SqT.of (sp3 _ _ _ hpt)) (.cons (.int _) (.cons (.int _) .nil)), rfl, rfl, _, rfl, iteBF (by rw [eqv_two rfl rfl]; rfl) ?_⟩
      exact ⟨St.trans (sp3 _), _, _, _, _, _, _, _, _, _, _, rfl⟩
    rintro σ H1 ⟨S1, v2, v3, v4, v5, v6, v7, v8, v9, v10, v11, rfl⟩
    exact q _

theorem all_mk {l : PySem.W.OpenLaw} {w : World} {K : PySem.W.Frag} {h : Heap} {mg : Str → Option Value} {fa : Addr} {f0 f1 f2 f3 f4 f5 f6 f7 f8 f9 f10 f11 f12 f13 f14 f15 f16 f17 f18 f19 f20 f21 f22 f23 f24 f25 f26 f27 : Addr} (X : K.In h) (G : h.Ns mainGlobals mg) (hfa : mg "law" = some (.ref fa))
    {od0 od1 od2 od3 od4 od5 od6 od7 od8 od9 od10 od11 od12 od13 od14 od15 od16 od17 od18 od19 od20 od21 od22 od23 od24 od25 od26 od27 : Option Addr} {an0 an1 an2 an3 an4 an5 an6 an7 an8 an9 an10 an11 an12 an13 an14 an15 an16 an17 an18 an19 an20 an21 an22 an23 an24 an25 an26 an27 : Option Addr} {sl0 sl1 sl2 sl3 sl4 sl5 sl6 sl7 sl8 sl9 sl10 sl11 sl12 sl13 sl14 sl15 sl16 sl17 sl18 sl19 sl20 sl21 sl22 sl23 sl24 sl25 sl26 sl27 : Array (Option Value)} {oc0 kV0 dc0 pm0 cd0 ct0 oc1 kV1 dc1 pm1 cd1 ct1 oc2 kV2 dc2 pm2 cd2 ct2 oc3 kV3 dc3 pm3 cd3 ct3 oc4 kV4 dc4 pm4 cd4 ct4 oc5 kV5 dc5 pm5 cd5 ct5 oc6 kV6 dc6 pm6 cd6 ct6 oc7 kV7 dc7 pm7 cd7 ct7 oc8 kV8 dc8 pm8 cd8 ct8 oc9 kV9 dc9 pm9 cd9 ct9 oc10 kV10 dc10 pm10 cd10 ct10 oc11 kV11 dc11 pm11 cd11 ct11 oc12 kV12 dc12 pm12 cd12 ct12 oc13 kV13 dc13 pm13 cd13 ct13 oc14 kV14 dc14 pm14 cd14 ct14 oc15 kV15 dc15 pm15 cd15 ct15 oc16 kV16 dc16 pm16 cd16 ct16 oc17 kV17 dc17 pm17 cd17 ct17 oc18 kV18 dc18 pm18 cd18 ct18 oc19 kV19 dc19 pm19 cd19 ct19 oc20 kV20 dc20 pm20 cd20 ct20 oc21 kV21 dc21 pm21 cd21 ct21 oc22 kV22 dc22 pm22 cd22 ct22 oc23 kV23 dc23 pm23 cd23 ct23 oc24 kV24 dc24 pm24 cd24 ct24 oc25 kV25 dc25 pm25 cd25 ct25 oc26 kV26 dc26 pm26 cd26 ct26 oc27 kV27 dc27 pm27 cd27 ct27 : Value}
    {fC : Addr}
    {i152 : Addr} {i151 : Addr} {i150 : Addr} {e100 : Addr} {e101 : Addr} {e102 : Addr} {e103 : Addr} {e104 : Addr} {e105 : Addr} {nm101 q101 : Str} {N101 : Addr} {bs101 : List Value} {sn101 : List Str} {sub101 : List Value} {ab101 : Bool} {col101 : Option Bool} {dd101 : Option Addr} {x0101 x1101 x2101 x3101 x5101 : Option Value} {nm102 q102 : Str} {N102 : Addr} {bs102 : List Value} {sn102 : List Str} {sub102 : List Value} {ab102 : Bool} {col102 : Option Bool} {dd102 : Option Addr} {x0102 x1102 x2102 x3102 x5102 : Option Value} {nm103 q103 : Str} {N103 : Addr} {bs103 : List Value} {sn103 : List Str} {sub103 : List Value} {ab103 : Bool} {col103 : Option Bool} {dd103 : Option Addr} {x0103 x1103 x2103 x3103 x5103 : Option Value} {nm104 q104 : Str} {N104 : Addr} {bs104 : List Value} {sn104 : List Str} {sub104 : List Value} {ab104 : Bool} {col104 : Option Bool} {dd104 : Option Addr} {x0104 x1104 x2104 x3104 x5104 : Option Value} {oc150 kV150 dc150 pm150 cd150 ct150 : Value} {od150 an150 : Option Addr} {sl150 : Array (Option Value)} {T150 : Addr} {ocT150 : Value} {odT150 : Option Addr} {slT150 : Array (Option Value)} {nT150 : Nat} {tkT150 : Tok} {oc151 kV151 dc151 pm151 cd151 ct151 : Value} {od151 an151 : Option Addr} {sl151 : Array (Option Value)} {oc152 kV152 dc152 pm152 cd152 ct152 : Value} {od152 an152 : Option Addr} {sl152 : Array (Option Value)}
    {f29 : Addr} {od29 : Option Addr} {n29 : Nat} {sl29 : Array (Option Value)} {t29_0 t29_1 : Tok}
    {t30 : Tok}
    {f31 : Addr} {od31 : Option Addr} {n31 : Nat} {sl31 : Array (Option Value)} {t31_0 t31_1 : Tok}
    {T9 : Addr} {odT9 : Option Addr} {ocT9 : Value} {nT9 : Nat} {slT9 : Array (Option Value)} 
    {T12 : Addr} {odT12 : Option Addr} {ocT12 : Value} {nT12 : Nat} {slT12 : Array (Option Value)} {tT12_0 : Tok}
    (g29 : PySem.W.nsIn K mainGlobals "WHOLE" = some (some (.ref f29))) (l29 : K.lookup f29 = some ⟨.type "tuple", od29, .seq #[.int 1 t29_0, .int 1 t29_1] n29, sl29⟩)
    (g30 : PySem.W.nsIn K mainGlobals "MOST_BOTTOM" = some (some (.int 1000 t30)))
    (g31 : PySem.W.nsIn K mainGlobals "DRIFT" = some (some (.ref f31))) (l31 : K.lookup f31 = some ⟨.type "tuple", od31, .seq #[.int 1 t31_0, .int 100 t31_1] n31, sl31⟩)
    (aC : PySem.W.nsIn K mainGlobals "Clock" = some (some (.ref fC))) (pg : PySem.W.plainGet K fC Str.empty = true) (hd : PySem.W.hasDictIn K fC = true) (po : PySem.W.plainOver K fC = true) (sa : PySem.W.findIn K (.ref fC) "__setattr__" = some (some (.builtin "object.__setattr__"))) (mk : PySem.W.makesIn K fC = true) (kc : PySem.W.keepIn K (.ref fC) = true)
    (nf_most_drift : PySem.W.findIn K (.ref fC) "most_drift" = some none)
    (nf_stands : PySem.W.findIn K (.ref fC) "stands" = some none)
    (nf_counted : PySem.W.findIn K (.ref fC) "counted" = some none)
    (a0 : PySem.W.nsIn K mainGlobals "is_whole" = some (some (.ref f0)))
    (l0 : K.lookup f0 = some ⟨oc0, od0, .func (PySem.W.fnOf "is_whole" "is_whole" (defArgs s_is_whole) (defBody s_is_whole) (defScope s_is_whole) .none kV0 dc0 pm0 an0 cd0 ct0), sl0⟩) (c0 : PySem.W.codeIn K cd0 "is_whole" = true) (k0 : PySem.W.keepIn K (.ref f0) = true)
    (a1 : PySem.W.nsIn K mainGlobals "is_count" = some (some (.ref f1)))
    (l1 : K.lookup f1 = some ⟨oc1, od1, .func (PySem.W.fnOf "is_count" "is_count" (defArgs s_is_count) (defBody s_is_count) (defScope s_is_count) .none kV1 dc1 pm1 an1 cd1 ct1), sl1⟩) (c1 : PySem.W.codeIn K cd1 "is_count" = true) (k1 : PySem.W.keepIn K (.ref f1) = true)
    (a2 : PySem.W.nsIn K mainGlobals "is_from_to" = some (some (.ref f2)))
    (l2 : K.lookup f2 = some ⟨oc2, od2, .func (PySem.W.fnOf "is_from_to" "is_from_to" (defArgs s_is_from_to) (defBody s_is_from_to) (defScope s_is_from_to) .none kV2 dc2 pm2 an2 cd2 ct2), sl2⟩) (c2 : PySem.W.codeIn K cd2 "is_from_to" = true) (k2 : PySem.W.keepIn K (.ref f2) = true)
    (a3 : PySem.W.nsIn K mainGlobals "common_divisor" = some (some (.ref f3)))
    (l3 : K.lookup f3 = some ⟨oc3, od3, .func (PySem.W.fnOf "common_divisor" "common_divisor" (defArgs s_common_divisor) (defBody s_common_divisor) (defScope s_common_divisor) .none kV3 dc3 pm3 an3 cd3 ct3), sl3⟩) (c3 : PySem.W.codeIn K cd3 "common_divisor" = true) (k3 : PySem.W.keepIn K (.ref f3) = true)
    (a4 : PySem.W.nsIn K mainGlobals "is_share" = some (some (.ref f4)))
    (l4 : K.lookup f4 = some ⟨oc4, od4, .func (PySem.W.fnOf "is_share" "is_share" (defArgs s_is_share) (defBody s_is_share) (defScope s_is_share) .none kV4 dc4 pm4 an4 cd4 ct4), sl4⟩) (c4 : PySem.W.codeIn K cd4 "is_share" = true) (k4 : PySem.W.keepIn K (.ref f4) = true)
    (a5 : PySem.W.nsIn K mainGlobals "is_drift" = some (some (.ref f5)))
    (l5 : K.lookup f5 = some ⟨oc5, od5, .func (PySem.W.fnOf "is_drift" "is_drift" (defArgs s_is_drift) (defBody s_is_drift) (defScope s_is_drift) .none kV5 dc5 pm5 an5 cd5 ct5), sl5⟩) (c5 : PySem.W.codeIn K cd5 "is_drift" = true) (k5 : PySem.W.keepIn K (.ref f5) = true)
    (a6 : PySem.W.nsIn K mainGlobals "refuse_no_count" = some (some (.ref f6)))
    (l6 : K.lookup f6 = some ⟨oc6, od6, .func (PySem.W.fnOf "refuse_no_count" "refuse_no_count" (defArgs s_refuse_no_count) (defBody s_refuse_no_count) (defScope s_refuse_no_count) .none kV6 dc6 pm6 an6 cd6 ct6), sl6⟩) (c6 : PySem.W.codeIn K cd6 "refuse_no_count" = true) (k6 : PySem.W.keepIn K (.ref f6) = true)
    (a7 : PySem.W.nsIn K mainGlobals "least_of" = some (some (.ref f7)))
    (l7 : K.lookup f7 = some ⟨oc7, od7, .func (PySem.W.fnOf "least_of" "least_of" (defArgs s_least_of) (defBody s_least_of) (defScope s_least_of) .none kV7 dc7 pm7 an7 cd7 ct7), sl7⟩) (c7 : PySem.W.codeIn K cd7 "least_of" = true) (k7 : PySem.W.keepIn K (.ref f7) = true)
    (a8 : PySem.W.nsIn K mainGlobals "most_of" = some (some (.ref f8)))
    (l8 : K.lookup f8 = some ⟨oc8, od8, .func (PySem.W.fnOf "most_of" "most_of" (defArgs s_most_of) (defBody s_most_of) (defScope s_most_of) .none kV8 dc8 pm8 an8 cd8 ct8), sl8⟩) (c8 : PySem.W.codeIn K cd8 "most_of" = true) (k8 : PySem.W.keepIn K (.ref f8) = true)
    (a9 : PySem.W.findIn K (.ref fC) "__init__" = some (some (.ref f9))) (i9 : PySem.W.isFn K (.ref f9) = true)
    (l9 : K.lookup f9 = some ⟨oc9, od9, .func (PySem.W.fnOf "__init__" "Clock.__init__" (defArgs s_Clock___init__) (defBody s_Clock___init__) (defScope s_Clock___init__) (.ref T9) kV9 dc9 pm9 an9 cd9 ct9), sl9⟩) (c9 : PySem.W.codeIn K cd9 "Clock.__init__" = true) (k9 : PySem.W.keepIn K (.ref f9) = true)
    (lT9 : K.lookup T9 = some ⟨ocT9, odT9, .seq #[.ref f31] nT9, slT9⟩)
    (a10 : PySem.W.findIn K (.ref fC) "is_set" = some (some (.ref f10))) (i10 : PySem.W.isFn K (.ref f10) = true)
    (l10 : K.lookup f10 = some ⟨oc10, od10, .func (PySem.W.fnOf "is_set" "Clock.is_set" (defArgs s_Clock_is_set) (defBody s_Clock_is_set) (defScope s_Clock_is_set) .none kV10 dc10 pm10 an10 cd10 ct10), sl10⟩) (c10 : PySem.W.codeIn K cd10 "Clock.is_set" = true) (k10 : PySem.W.keepIn K (.ref f10) = true)
    (a11 : PySem.W.findIn K (.ref fC) "set_to" = some (some (.ref f11))) (i11 : PySem.W.isFn K (.ref f11) = true)
    (l11 : K.lookup f11 = some ⟨oc11, od11, .func (PySem.W.fnOf "set_to" "Clock.set_to" (defArgs s_Clock_set_to) (defBody s_Clock_set_to) (defScope s_Clock_set_to) .none kV11 dc11 pm11 an11 cd11 ct11), sl11⟩) (c11 : PySem.W.codeIn K cd11 "Clock.set_to" = true) (k11 : PySem.W.keepIn K (.ref f11) = true)
    (a12 : PySem.W.findIn K (.ref fC) "tick" = some (some (.ref f12))) (i12 : PySem.W.isFn K (.ref f12) = true)
    (l12 : K.lookup f12 = some ⟨oc12, od12, .func (PySem.W.fnOf "tick" "Clock.tick" (defArgs s_Clock_tick) (defBody s_Clock_tick) (defScope s_Clock_tick) (.ref T12) kV12 dc12 pm12 an12 cd12 ct12), sl12⟩) (c12 : PySem.W.codeIn K cd12 "Clock.tick" = true) (k12 : PySem.W.keepIn K (.ref f12) = true)
    (lT12 : K.lookup T12 = some ⟨ocT12, odT12, .seq #[.int 1 tT12_0] nT12, slT12⟩)
    (a13 : PySem.W.findIn K (.ref fC) "bounds" = some (some (.ref f13))) (i13 : PySem.W.isFn K (.ref f13) = true)
    (l13 : K.lookup f13 = some ⟨oc13, od13, .func (PySem.W.fnOf "bounds" "Clock.bounds" (defArgs s_Clock_bounds) (defBody s_Clock_bounds) (defScope s_Clock_bounds) .none kV13 dc13 pm13 an13 cd13 ct13), sl13⟩) (c13 : PySem.W.codeIn K cd13 "Clock.bounds" = true) (k13 : PySem.W.keepIn K (.ref f13) = true)
    (a14 : PySem.W.findIn K (.ref fC) "is_past" = some (some (.ref f14))) (i14 : PySem.W.isFn K (.ref f14) = true)
    (l14 : K.lookup f14 = some ⟨oc14, od14, .func (PySem.W.fnOf "is_past" "Clock.is_past" (defArgs s_Clock_is_past) (defBody s_Clock_is_past) (defScope s_Clock_is_past) .none kV14 dc14 pm14 an14 cd14 ct14), sl14⟩) (c14 : PySem.W.codeIn K cd14 "Clock.is_past" = true) (k14 : PySem.W.keepIn K (.ref f14) = true)
    (a15 : PySem.W.findIn K (.ref fC) "is_ahead" = some (some (.ref f15))) (i15 : PySem.W.isFn K (.ref f15) = true)
    (l15 : K.lookup f15 = some ⟨oc15, od15, .func (PySem.W.fnOf "is_ahead" "Clock.is_ahead" (defArgs s_Clock_is_ahead) (defBody s_Clock_is_ahead) (defScope s_Clock_is_ahead) .none kV15 dc15 pm15 an15 cd15 ct15), sl15⟩) (c15 : PySem.W.codeIn K cd15 "Clock.is_ahead" = true) (k15 : PySem.W.keepIn K (.ref f15) = true)
    (a16 : PySem.W.nsIn K mainGlobals "_law_bag" = some (some (.ref f16)))
    (l16 : K.lookup f16 = some ⟨oc16, od16, .func (PySem.W.fnOf "_law_bag" "_law_bag" (defArgs s_l_bag) (defBody s_l_bag) (defScope s_l_bag) .none kV16 dc16 pm16 an16 cd16 ct16), sl16⟩) (c16 : PySem.W.codeIn K cd16 "_law_bag" = true) (k16 : PySem.W.keepIn K (.ref f16) = true)
    (a17 : PySem.W.nsIn K mainGlobals "_law_out" = some (some (.ref f17)))
    (l17 : K.lookup f17 = some ⟨oc17, od17, .func (PySem.W.fnOf "_law_out" "_law_out" (defArgs s_l_out) (defBody s_l_out) (defScope s_l_out) .none kV17 dc17 pm17 an17 cd17 ct17), sl17⟩) (c17 : PySem.W.codeIn K cd17 "_law_out" = true) (k17 : PySem.W.keepIn K (.ref f17) = true)
    (a18 : PySem.W.nsIn K mainGlobals "_law_drift" = some (some (.ref f18)))
    (l18 : K.lookup f18 = some ⟨oc18, od18, .func (PySem.W.fnOf "_law_drift" "_law_drift" (defArgs s_l_drift) (defBody s_l_drift) (defScope s_l_drift) .none kV18 dc18 pm18 an18 cd18 ct18), sl18⟩) (c18 : PySem.W.codeIn K cd18 "_law_drift" = true) (k18 : PySem.W.keepIn K (.ref f18) = true)
    (a19 : PySem.W.nsIn K mainGlobals "_law_kind" = some (some (.ref f19)))
    (l19 : K.lookup f19 = some ⟨oc19, od19, .func (PySem.W.fnOf "_law_kind" "_law_kind" (defArgs s_l_kind) (defBody s_l_kind) (defScope s_l_kind) .none kV19 dc19 pm19 an19 cd19 ct19), sl19⟩) (c19 : PySem.W.codeIn K cd19 "_law_kind" = true) (k19 : PySem.W.keepIn K (.ref f19) = true)
    (a20 : PySem.W.nsIn K mainGlobals "_law_made" = some (some (.ref f20)))
    (l20 : K.lookup f20 = some ⟨oc20, od20, .func (PySem.W.fnOf "_law_made" "_law_made" (defArgs s_l_made) (defBody s_l_made) (defScope s_l_made) .none kV20 dc20 pm20 an20 cd20 ct20), sl20⟩) (c20 : PySem.W.codeIn K cd20 "_law_made" = true) (k20 : PySem.W.keepIn K (.ref f20) = true)
    (a21 : PySem.W.nsIn K mainGlobals "_law_set" = some (some (.ref f21)))
    (l21 : K.lookup f21 = some ⟨oc21, od21, .func (PySem.W.fnOf "_law_set" "_law_set" (defArgs s_l_set) (defBody s_l_set) (defScope s_l_set) .none kV21 dc21 pm21 an21 cd21 ct21), sl21⟩) (c21 : PySem.W.codeIn K cd21 "_law_set" = true) (k21 : PySem.W.keepIn K (.ref f21) = true)
    (a22 : PySem.W.nsIn K mainGlobals "_law_ticked" = some (some (.ref f22)))
    (l22 : K.lookup f22 = some ⟨oc22, od22, .func (PySem.W.fnOf "_law_ticked" "_law_ticked" (defArgs s_l_ticked) (defBody s_l_ticked) (defScope s_l_ticked) .none kV22 dc22 pm22 an22 cd22 ct22), sl22⟩) (c22 : PySem.W.codeIn K cd22 "_law_ticked" = true) (k22 : PySem.W.keepIn K (.ref f22) = true)
    (a23 : PySem.W.nsIn K mainGlobals "_law_unset" = some (some (.ref f23)))
    (l23 : K.lookup f23 = some ⟨oc23, od23, .func (PySem.W.fnOf "_law_unset" "_law_unset" (defArgs s_l_unset) (defBody s_l_unset) (defScope s_l_unset) .none kV23 dc23 pm23 an23 cd23 ct23), sl23⟩) (c23 : PySem.W.codeIn K cd23 "_law_unset" = true) (k23 : PySem.W.keepIn K (.ref f23) = true)
    (a24 : PySem.W.nsIn K mainGlobals "_law_no_bounds" = some (some (.ref f24)))
    (l24 : K.lookup f24 = some ⟨oc24, od24, .func (PySem.W.fnOf "_law_no_bounds" "_law_no_bounds" (defArgs s_l_no_bounds) (defBody s_l_no_bounds) (defScope s_l_no_bounds) .none kV24 dc24 pm24 an24 cd24 ct24), sl24⟩) (c24 : PySem.W.codeIn K cd24 "_law_no_bounds" = true) (k24 : PySem.W.keepIn K (.ref f24) = true)
    (a25 : PySem.W.nsIn K mainGlobals "law" = some (some (.ref f25)))
    (l25 : K.lookup f25 = some ⟨oc25, od25, .func (PySem.W.fnOf "law" "law" (defArgs s_law) (defBody s_law) (defScope s_law) .none kV25 dc25 pm25 an25 cd25 ct25), sl25⟩) (c25 : PySem.W.codeIn K cd25 "law" = true) (k25 : PySem.W.keepIn K (.ref f25) = true)
    (a26 : PySem.W.nsIn K mainGlobals "bounds_behind" = some (some (.ref f26)))
    (l26 : K.lookup f26 = some ⟨oc26, od26, .func (PySem.W.fnOf "bounds_behind" "bounds_behind" (defArgs s_bounds_behind) (defBody s_bounds_behind) (defScope s_bounds_behind) .none kV26 dc26 pm26 an26 cd26 ct26), sl26⟩) (c26 : PySem.W.codeIn K cd26 "bounds_behind" = true) (k26 : PySem.W.keepIn K (.ref f26) = true)
    (a27 : PySem.W.nsIn K mainGlobals "set_between" = some (some (.ref f27)))
    (l27 : K.lookup f27 = some ⟨oc27, od27, .func (PySem.W.fnOf "set_between" "set_between" (defArgs s_set_between) (defBody s_set_between) (defScope s_set_between) .none kV27 dc27 pm27 an27 cd27 ct27), sl27⟩) (c27 : PySem.W.codeIn K cd27 "set_between" = true) (k27 : PySem.W.keepIn K (.ref f27) = true)
    (z_max : PySem.W.nsIn K mainGlobals "max" = some none)
    (z_min : PySem.W.nsIn K mainGlobals "min" = some none)
    (z_len : PySem.W.nsIn K mainGlobals "len" = some none)
    (z_int : PySem.W.nsIn K mainGlobals "int" = some none)
    (z_range : PySem.W.nsIn K mainGlobals "range" = some none)
    (z_isinstance : PySem.W.nsIn K mainGlobals "isinstance" = some none)
    (z_bool : PySem.W.nsIn K mainGlobals "bool" = some none)
    (z_tuple : PySem.W.nsIn K mainGlobals "tuple" = some none)
    (z_all : PySem.W.nsIn K mainGlobals "all" = some none)
    (z_repr : PySem.W.nsIn K mainGlobals "repr" = some none)
    (z_ValueError : PySem.W.nsIn K mainGlobals "ValueError" = some none)
    (z_RuntimeError : PySem.W.nsIn K mainGlobals "RuntimeError" = some none)
    (aE100 : PySem.W.nsIn K mainGlobals "WaitError" = some (some (.ref e100)))
    (aE101 : PySem.W.nsIn K mainGlobals "NoDrift" = some (some (.ref e101)))
    (aE102 : PySem.W.nsIn K mainGlobals "NoBounds" = some (some (.ref e102)))
    (aE103 : PySem.W.nsIn K mainGlobals "NoNumber" = some (some (.ref e103)))
    (aE104 : PySem.W.nsIn K mainGlobals "Unset" = some (some (.ref e104)))
    (aE105 : PySem.W.nsIn K mainGlobals "NoShare" = some (some (.ref e105)))
    (tb100 : PySem.W.subIn K (.ref e100) (.type "BaseException") = some true)
    (tc100 : PySem.W.isClsIn K e100 = true)
    (tt100 : PySem.W.typeIn K (.ref e100) = some (.type "type"))
    (ts100 : PySem.W.subIn K (.ref e100) (.ref e100) = some true)
    (tb101 : PySem.W.subIn K (.ref e101) (.type "BaseException") = some true)
    (tc101 : PySem.W.isClsIn K e101 = true)
    (tt101 : PySem.W.typeIn K (.ref e101) = some (.type "type"))
    (ts101 : PySem.W.subIn K (.ref e101) (.ref e101) = some true)
    (tb102 : PySem.W.subIn K (.ref e102) (.type "BaseException") = some true)
    (tc102 : PySem.W.isClsIn K e102 = true)
    (tt102 : PySem.W.typeIn K (.ref e102) = some (.type "type"))
    (ts102 : PySem.W.subIn K (.ref e102) (.ref e102) = some true)
    (tb103 : PySem.W.subIn K (.ref e103) (.type "BaseException") = some true)
    (tc103 : PySem.W.isClsIn K e103 = true)
    (tt103 : PySem.W.typeIn K (.ref e103) = some (.type "type"))
    (ts103 : PySem.W.subIn K (.ref e103) (.ref e103) = some true)
    (tb104 : PySem.W.subIn K (.ref e104) (.type "BaseException") = some true)
    (tc104 : PySem.W.isClsIn K e104 = true)
    (tt104 : PySem.W.typeIn K (.ref e104) = some (.type "type"))
    (ts104 : PySem.W.subIn K (.ref e104) (.ref e104) = some true)
    (tb105 : PySem.W.subIn K (.ref e105) (.type "BaseException") = some true)
    (tc105 : PySem.W.isClsIn K e105 = true)
    (tt105 : PySem.W.typeIn K (.ref e105) = some (.type "type"))
    (ts105 : PySem.W.subIn K (.ref e105) (.ref e105) = some true)
    (j2 : PySem.W.specialIn K (.builtin "object.__class__") "__get__" = some (some (.builtin "getset_descriptor.__get__")))
    (j3 : PySem.W.takesIn K (.builtin "object.__class__") = some true)
    (x101 : K.lookup e101 = some (excClassObj nm101 q101 e101 N101 bs101 [.ref e100, .type "ValueError", .type "Exception", .type "BaseException", .type "object"] true sn101 sub101 ab101 col101 dd101 x0101 x1101 x2101 x3101 x5101 "ValueError.__new__"))
    (sa101 : PySem.W.findIn K (.ref e101) "__setattr__" = some (some (.builtin "object.__setattr__")))
    (xb101 : PySem.W.subIn K (.ref e101) (.type "BaseException") = some true)
    (ty101 : PySem.W.typeIn K (.ref e101) = some (.type "type"))
    (kp101 : PySem.W.keepIn K (.ref e101) = true)
    (in101 : PySem.W.findIn K (.ref e101) "__init__" = some (some (.ref i150)))
    (ga101 : PySem.W.findIn K (.ref e101) "__getattribute__" = some (some (.builtin "BaseException.__getattribute__")))
    (gg101 : PySem.W.findIn K (.ref e101) "__getattr__" = some none)
    (hd101 : PySem.W.hasDictIn K e101 = true)
    (jc101 : PySem.W.findIn K (.ref e101) "__class__" = some (some (.builtin "object.__class__")))
    (jm101 : PySem.W.mroIn K e101 (.type "object") = some true)
    (n0_101 : PySem.W.findIn K (.ref e101) "text" = some none)
    (x102 : K.lookup e102 = some (excClassObj nm102 q102 e102 N102 bs102 [.ref e100, .type "ValueError", .type "Exception", .type "BaseException", .type "object"] true sn102 sub102 ab102 col102 dd102 x0102 x1102 x2102 x3102 x5102 "ValueError.__new__"))
    (sa102 : PySem.W.findIn K (.ref e102) "__setattr__" = some (some (.builtin "object.__setattr__")))
    (xb102 : PySem.W.subIn K (.ref e102) (.type "BaseException") = some true)
    (ty102 : PySem.W.typeIn K (.ref e102) = some (.type "type"))
    (kp102 : PySem.W.keepIn K (.ref e102) = true)
    (in102 : PySem.W.findIn K (.ref e102) "__init__" = some (some (.ref i151)))
    (ga102 : PySem.W.findIn K (.ref e102) "__getattribute__" = some (some (.builtin "BaseException.__getattribute__")))
    (gg102 : PySem.W.findIn K (.ref e102) "__getattr__" = some none)
    (hd102 : PySem.W.hasDictIn K e102 = true)
    (jc102 : PySem.W.findIn K (.ref e102) "__class__" = some (some (.builtin "object.__class__")))
    (jm102 : PySem.W.mroIn K e102 (.type "object") = some true)
    (n0_102 : PySem.W.findIn K (.ref e102) "low" = some none)
    (n1_102 : PySem.W.findIn K (.ref e102) "high" = some none)
    (x103 : K.lookup e103 = some (excClassObj nm103 q103 e103 N103 bs103 [.ref e100, .type "ValueError", .type "Exception", .type "BaseException", .type "object"] true sn103 sub103 ab103 col103 dd103 x0103 x1103 x2103 x3103 x5103 "ValueError.__new__"))
    (sa103 : PySem.W.findIn K (.ref e103) "__setattr__" = some (some (.builtin "object.__setattr__")))
    (xb103 : PySem.W.subIn K (.ref e103) (.type "BaseException") = some true)
    (ty103 : PySem.W.typeIn K (.ref e103) = some (.type "type"))
    (kp103 : PySem.W.keepIn K (.ref e103) = true)
    (in103 : PySem.W.findIn K (.ref e103) "__init__" = some (some (.ref i150)))
    (ga103 : PySem.W.findIn K (.ref e103) "__getattribute__" = some (some (.builtin "BaseException.__getattribute__")))
    (gg103 : PySem.W.findIn K (.ref e103) "__getattr__" = some none)
    (hd103 : PySem.W.hasDictIn K e103 = true)
    (jc103 : PySem.W.findIn K (.ref e103) "__class__" = some (some (.builtin "object.__class__")))
    (jm103 : PySem.W.mroIn K e103 (.type "object") = some true)
    (n0_103 : PySem.W.findIn K (.ref e103) "text" = some none)
    (x104 : K.lookup e104 = some (excClassObj nm104 q104 e104 N104 bs104 [.type "RuntimeError", .type "Exception", .type "BaseException", .type "object"] true sn104 sub104 ab104 col104 dd104 x0104 x1104 x2104 x3104 x5104 "RuntimeError.__new__"))
    (sa104 : PySem.W.findIn K (.ref e104) "__setattr__" = some (some (.builtin "object.__setattr__")))
    (xb104 : PySem.W.subIn K (.ref e104) (.type "BaseException") = some true)
    (ty104 : PySem.W.typeIn K (.ref e104) = some (.type "type"))
    (kp104 : PySem.W.keepIn K (.ref e104) = true)
    (in104 : PySem.W.findIn K (.ref e104) "__init__" = some (some (.ref i152)))
    (ga104 : PySem.W.findIn K (.ref e104) "__getattribute__" = some (some (.builtin "BaseException.__getattribute__")))
    (gg104 : PySem.W.findIn K (.ref e104) "__getattr__" = some none)
    (hd104 : PySem.W.hasDictIn K e104 = true)
    (jc104 : PySem.W.findIn K (.ref e104) "__class__" = some (some (.builtin "object.__class__")))
    (jm104 : PySem.W.mroIn K e104 (.type "object") = some true)
    (n0_104 : PySem.W.findIn K (.ref e104) "text" = some none)
    (ti150 : PySem.W.typeIn K (.ref i150) = some (.type "function"))
    (li150 : K.lookup i150 = some ⟨oc150, od150, .func (PySem.W.fnOf "__init__" "WaitError.__init__" (defArgs s_IWaitError) (defBody s_IWaitError) (defScope s_IWaitError) (.ref T150) kV150 dc150 pm150 an150 cd150 ct150), sl150⟩)
    (cc150 : PySem.W.codeIn K cd150 "WaitError.__init__" = true)
    (kk150 : PySem.W.keepIn K (.ref i150) = true)
    (lT150 : K.lookup T150 = some ⟨ocT150, odT150, .seq #[.str "" tkT150] nT150, slT150⟩)
    (ti151 : PySem.W.typeIn K (.ref i151) = some (.type "function"))
    (li151 : K.lookup i151 = some ⟨oc151, od151, .func (PySem.W.fnOf "__init__" "NoBounds.__init__" (defArgs s_INoBounds) (defBody s_INoBounds) (defScope s_INoBounds) .none kV151 dc151 pm151 an151 cd151 ct151), sl151⟩)
    (cc151 : PySem.W.codeIn K cd151 "NoBounds.__init__" = true)
    (kk151 : PySem.W.keepIn K (.ref i151) = true)
    (ti152 : PySem.W.typeIn K (.ref i152) = some (.type "function"))
    (li152 : K.lookup i152 = some ⟨oc152, od152, .func (PySem.W.fnOf "__init__" "Unset.__init__" (defArgs s_IUnset) (defBody s_IUnset) (defScope s_IUnset) .none kV152 dc152 pm152 an152 cd152 ct152), sl152⟩)
    (cc152 : PySem.W.codeIn K cd152 "Unset.__init__" = true)
    (kk152 : PySem.W.keepIn K (.ref i152) = true)
    (su0 : PySem.W.subIn K (.ref e101) (.ref e100) = some true)
    (su1 : PySem.W.subIn K (.ref e103) (.ref e100) = some true)
    (su2 : PySem.W.subIn K (.ref e102) (.ref e102) = some true)
    (su3 : PySem.W.subIn K (.ref e104) (.ref e104) = some true)
    (su4 : PySem.W.subIn K (.ref e101) (.ref e101) = some true)
    (su5 : PySem.W.subIn K (.ref e101) (.ref e102) = some false)
    (su6 : PySem.W.subIn K (.ref e101) (.ref e103) = some false)
    (su7 : PySem.W.subIn K (.ref e101) (.ref e105) = some false)
    (su8 : PySem.W.subIn K (.ref e101) (.type "ValueError") = some true)
    (su9 : PySem.W.subIn K (.ref e102) (.ref e101) = some false)
    (su10 : PySem.W.subIn K (.ref e102) (.ref e103) = some false)
    (su11 : PySem.W.subIn K (.ref e102) (.ref e105) = some false)
    (su12 : PySem.W.subIn K (.ref e102) (.type "ValueError") = some true)
    (su13 : PySem.W.subIn K (.ref e103) (.ref e101) = some false)
    (su14 : PySem.W.subIn K (.ref e103) (.ref e102) = some false)
    (su15 : PySem.W.subIn K (.ref e103) (.ref e103) = some true)
    (su16 : PySem.W.subIn K (.ref e103) (.ref e105) = some false)
    (su17 : PySem.W.subIn K (.ref e103) (.type "ValueError") = some true)
    (su18 : PySem.W.subIn K (.ref e104) (.type "RuntimeError") = some true)
    (su19 : PySem.W.subIn K (.ref e104) (.type "ValueError") = some false)
    : ∃ fd : FuncData, (∀ (s : Shared) (v : Value), BindsTo s fd ⟨[v], []⟩ [("_law_script", v)]) ∧ ∀ base : Heap, K.In base → base.Ns mainGlobals mg → FnG l.prog w K mg base 10 fa fd ["_law_script"] (spLaw K) := by
  have e := hfa.symm.trans (PySem.W.mg_of X G a25)
  cases e
  have F0 := fun_mk (st := s_is_whole) l0 c0 k0
  have b0 := F0.binds (ps := ["thing"]) fun _ _ _ _ _ _ us hl => match us, hl with | [_], _ => rfl
  have F1 := fun_mk (st := s_is_count) l1 c1 k1
  have b1 := F1.binds (ps := ["thing"]) fun _ _ _ _ _ _ us hl => match us, hl with | [_], _ => rfl
  have F2 := fun_mk (st := s_is_from_to) l2 c2 k2
  have b2 := F2.binds (ps := ["thing", "least", "most"]) fun _ _ _ _ _ _ us hl => match us, hl with | [_, _, _], _ => rfl
  have F3 := fun_mk (st := s_common_divisor) l3 c3 k3
  have b3 := F3.binds (ps := ["first", "second"]) fun _ _ _ _ _ _ us hl => match us, hl with | [_, _], _ => rfl
  have F4 := fun_mk (st := s_is_share) l4 c4 k4
  have b4 := F4.binds (ps := ["thing"]) fun _ _ _ _ _ _ us hl => match us, hl with | [_], _ => rfl
  have F5 := fun_mk (st := s_is_drift) l5 c5 k5
  have b5 := F5.binds (ps := ["thing"]) fun _ _ _ _ _ _ us hl => match us, hl with | [_], _ => rfl
  have F6 := fun_mk (st := s_refuse_no_count) l6 c6 k6
  have b6 := F6.binds (ps := ["thing"]) fun _ _ _ _ _ _ us hl => match us, hl with | [_], _ => rfl
  have F7 := fun_mk (st := s_least_of) l7 c7 k7
  have b7 := F7.binds (ps := ["ticks", "drift"]) fun _ _ _ _ _ _ us hl => match us, hl with | [_, _], _ => rfl
  have F8 := fun_mk (st := s_most_of) l8 c8 k8
  have b8 := F8.binds (ps := ["ticks", "drift"]) fun _ _ _ _ _ _ us hl => match us, hl with | [_, _], _ => rfl
  have F9 : FunD K "__init__" "Clock.__init__" (defArgs s_Clock___init__) (defBody s_Clock___init__) (defScope s_Clock___init__) [V.ref f31] [] f9 (PySem.W.fnOf "__init__" "Clock.__init__" (defArgs s_Clock___init__) (defBody s_Clock___init__) (defScope s_Clock___init__) (.ref T9) kV9 dc9 pm9 an9 cd9 ct9) := ⟨⟨_, _, _, _, _, _, _, _, _, _, rfl, l9, c9, .inr ⟨by simp, _, _, [Value.ref f31], _, rfl, lT9, rfl, (.cons rfl .nil)⟩, .inl rfl⟩, k9⟩
  have b9 : Binds K (PySem.W.fnOf "__init__" "Clock.__init__" (defArgs s_Clock___init__) (defBody s_Clock___init__) (defScope s_Clock___init__) (.ref T9) kV9 dc9 pm9 an9 cd9 ct9) ["self", "drift"] [] := by
    obtain ⟨ds, v, b⟩ := F9.binds1 (ps := ["self", "drift"]) 2 1 (by simp) rfl (fun T kV dc pm an cdv ct us its hu hi => match us, hu, its, hi with | [_, _], _, [_], _ => ⟨_, rfl, rfl⟩)
    cases v
    exact b
  have c'9 : ∃ ds, Vals [V.ref f31] ds ∧ Binds K (PySem.W.fnOf "__init__" "Clock.__init__" (defArgs s_Clock___init__) (defBody s_Clock___init__) (defScope s_Clock___init__) (.ref T9) kV9 dc9 pm9 an9 cd9 ct9) ["self", "drift"] ds := F9.binds1 (ps := ["self", "drift"]) 1 0 (by simp) rfl (fun T kV dc pm an cdv ct us its hu hi => match us, hu, its, hi with | [_], _, [_], _ => ⟨_, rfl, rfl⟩)
  have F10 := fun_mk (st := s_Clock_is_set) l10 c10 k10
  have b10 := F10.binds (ps := ["self"]) fun _ _ _ _ _ _ us hl => match us, hl with | [_], _ => rfl
  have F11 := fun_mk (st := s_Clock_set_to) l11 c11 k11
  have b11 := F11.binds (ps := ["self", "low", "high"]) fun _ _ _ _ _ _ us hl => match us, hl with | [_, _, _], _ => rfl
  have F12 : FunD K "tick" "Clock.tick" (defArgs s_Clock_tick) (defBody s_Clock_tick) (defScope s_Clock_tick) [V.int 1] [] f12 (PySem.W.fnOf "tick" "Clock.tick" (defArgs s_Clock_tick) (defBody s_Clock_tick) (defScope s_Clock_tick) (.ref T12) kV12 dc12 pm12 an12 cd12 ct12) := ⟨⟨_, _, _, _, _, _, _, _, _, _, rfl, l12, c12, .inr ⟨by simp, _, _, [Value.int 1 tT12_0], _, rfl, lT12, rfl, (.cons ⟨_, rfl⟩ .nil)⟩, .inl rfl⟩, k12⟩
  have b12 : Binds K (PySem.W.fnOf "tick" "Clock.tick" (defArgs s_Clock_tick) (defBody s_Clock_tick) (defScope s_Clock_tick) (.ref T12) kV12 dc12 pm12 an12 cd12 ct12) ["self", "many"] [] := by
    obtain ⟨ds, v, b⟩ := F12.binds1 (ps := ["self", "many"]) 2 1 (by simp) rfl (fun T kV dc pm an cdv ct us its hu hi => match us, hu, its, hi with | [_, _], _, [_], _ => ⟨_, rfl, rfl⟩)
    cases v
    exact b
  have c'12 : ∃ ds, Vals [V.int 1] ds ∧ Binds K (PySem.W.fnOf "tick" "Clock.tick" (defArgs s_Clock_tick) (defBody s_Clock_tick) (defScope s_Clock_tick) (.ref T12) kV12 dc12 pm12 an12 cd12 ct12) ["self", "many"] ds := F12.binds1 (ps := ["self", "many"]) 1 0 (by simp) rfl (fun T kV dc pm an cdv ct us its hu hi => match us, hu, its, hi with | [_], _, [_], _ => ⟨_, rfl, rfl⟩)
  have F13 := fun_mk (st := s_Clock_bounds) l13 c13 k13
  have b13 := F13.binds (ps := ["self"]) fun _ _ _ _ _ _ us hl => match us, hl with | [_], _ => rfl
  have F14 := fun_mk (st := s_Clock_is_past) l14 c14 k14
  have b14 := F14.binds (ps := ["self", "time"]) fun _ _ _ _ _ _ us hl => match us, hl with | [_, _], _ => rfl
  have F15 := fun_mk (st := s_Clock_is_ahead) l15 c15 k15
  have b15 := F15.binds (ps := ["self", "time"]) fun _ _ _ _ _ _ us hl => match us, hl with | [_, _], _ => rfl
  have F16 := fun_mk (st := s_l_bag) l16 c16 k16
  have b16 := F16.binds (ps := ["_law_script", "_law_k"]) fun _ _ _ _ _ _ us hl => match us, hl with | [_, _], _ => rfl
  have F17 := fun_mk (st := s_l_out) l17 c17 k17
  have b17 := F17.binds (ps := ["_law_bag_here", "_law_many"]) fun _ _ _ _ _ _ us hl => match us, hl with | [_, _], _ => rfl
  have F18 := fun_mk (st := s_l_drift) l18 c18 k18
  have b18 := F18.binds (ps := ["_law_bag_here"]) fun _ _ _ _ _ _ us hl => match us, hl with | [_], _ => rfl
  have F19 := fun_mk (st := s_l_kind) l19 c19 k19
  have b19 := F19.binds (ps := ["_law_e"]) fun _ _ _ _ _ _ us hl => match us, hl with | [_], _ => rfl
  have F20 := fun_mk (st := s_l_made) l20 c20 k20
  have b20 := F20.binds (ps := ["_law_thing"]) fun _ _ _ _ _ _ us hl => match us, hl with | [_], _ => rfl
  have F21 := fun_mk (st := s_l_set) l21 c21 k21
  have b21 := F21.binds (ps := ["_law_clock", "_law_low", "_law_high"]) fun _ _ _ _ _ _ us hl => match us, hl with | [_, _, _], _ => rfl
  have F22 := fun_mk (st := s_l_ticked) l22 c22 k22
  have b22 := F22.binds (ps := ["_law_clock", "_law_thing"]) fun _ _ _ _ _ _ us hl => match us, hl with | [_, _], _ => rfl
  have F23 := fun_mk (st := s_l_unset) l23 c23 k23
  have b23 := F23.binds (ps := ["_law_way", "_law_clock"]) fun _ _ _ _ _ _ us hl => match us, hl with | [_, _], _ => rfl
  have F24 := fun_mk (st := s_l_no_bounds) l24 c24 k24
  have b24 := F24.binds (ps := ["_law_bag_here", "_law_low", "_law_high"]) fun _ _ _ _ _ _ us hl => match us, hl with | [_, _, _], _ => rfl
  have F25 := fun_mk (st := s_law) l25 c25 k25
  have b25 := F25.binds (ps := ["_law_script"]) fun _ _ _ _ _ _ us hl => match us, hl with | [_], _ => rfl
  have F26 := fun_mk (st := s_bounds_behind) l26 c26 k26
  have b26 := F26.binds (ps := ["stands", "counted", "drift"]) fun _ _ _ _ _ _ us hl => match us, hl with | [_, _, _], _ => rfl
  have F27 := fun_mk (st := s_set_between) l27 c27 k27
  have b27 := F27.binds (ps := ["told", "low", "high"]) fun _ _ _ _ _ _ us hl => match us, hl with | [_, _, _], _ => rfl
  have FI150 : FunD K "__init__" "WaitError.__init__" (defArgs s_IWaitError) (defBody s_IWaitError) (defScope s_IWaitError) [V.str ""] [] i150 (PySem.W.fnOf "__init__" "WaitError.__init__" (defArgs s_IWaitError) (defBody s_IWaitError) (defScope s_IWaitError) (.ref T150) kV150 dc150 pm150 an150 cd150 ct150) := ⟨⟨_, _, _, _, _, _, _, _, _, _, rfl, li150, cc150, .inr ⟨by simp, _, _, [Value.str "" tkT150], _, rfl, lT150, rfl, (.cons ⟨_, rfl⟩ .nil)⟩, .inl rfl⟩, kk150⟩
  have bI150 : Binds K (PySem.W.fnOf "__init__" "WaitError.__init__" (defArgs s_IWaitError) (defBody s_IWaitError) (defScope s_IWaitError) (.ref T150) kV150 dc150 pm150 an150 cd150 ct150) ["self", "text"] [] := by
    obtain ⟨ds, v, b⟩ := FI150.binds1 (ps := ["self", "text"]) 2 1 (by simp) rfl (fun T kV dc pm an cdv ct us its hu hi => match us, hu, its, hi with | [_, _], _, [_], _ => ⟨_, rfl, rfl⟩)
    cases v
    exact b
  have FI151 := fun_mk (st := s_INoBounds) li151 cc151 kk151
  have bI151 := FI151.binds (ps := ["self", "low", "high"]) fun _ _ _ _ _ _ us hl => match us, hl with | [_, _, _], _ => rfl
  have FI152 := fun_mk (st := s_IUnset) li152 cc152 kk152
  have bI152 := FI152.binds (ps := ["self", "text"]) fun _ _ _ _ _ _ us hl => match us, hl with | [_, _], _ => rfl
  let a : Nat → Addr := fun i => match i with | 0 => f0 | 1 => f1 | 2 => f2 | 3 => f3 | 4 => f4 | 5 => f5 | 6 => f6 | 7 => f7 | 8 => f8 | 9 => f9 | 10 => f10 | 11 => f11 | 12 => f12 | 13 => f13 | 14 => f14 | 15 => f15 | 16 => f16 | 17 => f17 | 18 => f18 | 19 => f19 | 20 => f20 | 21 => f21 | 22 => f22 | 23 => f23 | 24 => f24 | 25 => fa | 26 => f26 | 27 => f27 | 100 => e100 | 101 => e101 | 102 => e102 | 103 => e103 | 104 => e104 | 105 => e105 | 150 => i150 | 151 => i151 | 152 => i152 | 28 => fC | 29 => f29 | 31 => f31 | _ => 0
  let d : Nat → FuncData := fun i => match i with | 0 => (PySem.W.fnOf "is_whole" "is_whole" (defArgs s_is_whole) (defBody s_is_whole) (defScope s_is_whole) .none kV0 dc0 pm0 an0 cd0 ct0) | 1 => (PySem.W.fnOf "is_count" "is_count" (defArgs s_is_count) (defBody s_is_count) (defScope s_is_count) .none kV1 dc1 pm1 an1 cd1 ct1) | 2 => (PySem.W.fnOf "is_from_to" "is_from_to" (defArgs s_is_from_to) (defBody s_is_from_to) (defScope s_is_from_to) .none kV2 dc2 pm2 an2 cd2 ct2) | 3 => (PySem.W.fnOf "common_divisor" "common_divisor" (defArgs s_common_divisor) (defBody s_common_divisor) (defScope s_common_divisor) .none kV3 dc3 pm3 an3 cd3 ct3) | 4 => (PySem.W.fnOf "is_share" "is_share" (defArgs s_is_share) (defBody s_is_share) (defScope s_is_share) .none kV4 dc4 pm4 an4 cd4 ct4) | 5 => (PySem.W.fnOf "is_drift" "is_drift" (defArgs s_is_drift) (defBody s_is_drift) (defScope s_is_drift) .none kV5 dc5 pm5 an5 cd5 ct5) | 6 => (PySem.W.fnOf "refuse_no_count" "refuse_no_count" (defArgs s_refuse_no_count) (defBody s_refuse_no_count) (defScope s_refuse_no_count) .none kV6 dc6 pm6 an6 cd6 ct6) | 7 => (PySem.W.fnOf "least_of" "least_of" (defArgs s_least_of) (defBody s_least_of) (defScope s_least_of) .none kV7 dc7 pm7 an7 cd7 ct7) | 8 => (PySem.W.fnOf "most_of" "most_of" (defArgs s_most_of) (defBody s_most_of) (defScope s_most_of) .none kV8 dc8 pm8 an8 cd8 ct8) | 9 => (PySem.W.fnOf "__init__" "Clock.__init__" (defArgs s_Clock___init__) (defBody s_Clock___init__) (defScope s_Clock___init__) (.ref T9) kV9 dc9 pm9 an9 cd9 ct9) | 10 => (PySem.W.fnOf "is_set" "Clock.is_set" (defArgs s_Clock_is_set) (defBody s_Clock_is_set) (defScope s_Clock_is_set) .none kV10 dc10 pm10 an10 cd10 ct10) | 11 => (PySem.W.fnOf "set_to" "Clock.set_to" (defArgs s_Clock_set_to) (defBody s_Clock_set_to) (defScope s_Clock_set_to) .none kV11 dc11 pm11 an11 cd11 ct11) | 12 => (PySem.W.fnOf "tick" "Clock.tick" (defArgs s_Clock_tick) (defBody s_Clock_tick) (defScope s_Clock_tick) (.ref T12) kV12 dc12 pm12 an12 cd12 ct12) | 13 => (PySem.W.fnOf "bounds" "Clock.bounds" (defArgs s_Clock_bounds) (defBody s_Clock_bounds) (defScope s_Clock_bounds) .none kV13 dc13 pm13 an13 cd13 ct13) | 14 => (PySem.W.fnOf "is_past" "Clock.is_past" (defArgs s_Clock_is_past) (defBody s_Clock_is_past) (defScope s_Clock_is_past) .none kV14 dc14 pm14 an14 cd14 ct14) | 15 => (PySem.W.fnOf "is_ahead" "Clock.is_ahead" (defArgs s_Clock_is_ahead) (defBody s_Clock_is_ahead) (defScope s_Clock_is_ahead) .none kV15 dc15 pm15 an15 cd15 ct15) | 16 => (PySem.W.fnOf "_law_bag" "_law_bag" (defArgs s_l_bag) (defBody s_l_bag) (defScope s_l_bag) .none kV16 dc16 pm16 an16 cd16 ct16) | 17 => (PySem.W.fnOf "_law_out" "_law_out" (defArgs s_l_out) (defBody s_l_out) (defScope s_l_out) .none kV17 dc17 pm17 an17 cd17 ct17) | 18 => (PySem.W.fnOf "_law_drift" "_law_drift" (defArgs s_l_drift) (defBody s_l_drift) (defScope s_l_drift) .none kV18 dc18 pm18 an18 cd18 ct18) | 19 => (PySem.W.fnOf "_law_kind" "_law_kind" (defArgs s_l_kind) (defBody s_l_kind) (defScope s_l_kind) .none kV19 dc19 pm19 an19 cd19 ct19) | 20 => (PySem.W.fnOf "_law_made" "_law_made" (defArgs s_l_made) (defBody s_l_made) (defScope s_l_made) .none kV20 dc20 pm20 an20 cd20 ct20) | 21 => (PySem.W.fnOf "_law_set" "_law_set" (defArgs s_l_set) (defBody s_l_set) (defScope s_l_set) .none kV21 dc21 pm21 an21 cd21 ct21) | 22 => (PySem.W.fnOf "_law_ticked" "_law_ticked" (defArgs s_l_ticked) (defBody s_l_ticked) (defScope s_l_ticked) .none kV22 dc22 pm22 an22 cd22 ct22) | 23 => (PySem.W.fnOf "_law_unset" "_law_unset" (defArgs s_l_unset) (defBody s_l_unset) (defScope s_l_unset) .none kV23 dc23 pm23 an23 cd23 ct23) | 24 => (PySem.W.fnOf "_law_no_bounds" "_law_no_bounds" (defArgs s_l_no_bounds) (defBody s_l_no_bounds) (defScope s_l_no_bounds) .none kV24 dc24 pm24 an24 cd24 ct24) | 25 => (PySem.W.fnOf "law" "law" (defArgs s_law) (defBody s_law) (defScope s_law) .none kV25 dc25 pm25 an25 cd25 ct25) | 26 => (PySem.W.fnOf "bounds_behind" "bounds_behind" (defArgs s_bounds_behind) (defBody s_bounds_behind) (defScope s_bounds_behind) .none kV26 dc26 pm26 an26 cd26 ct26) | 27 => (PySem.W.fnOf "set_between" "set_between" (defArgs s_set_between) (defBody s_set_between) (defScope s_set_between) .none kV27 dc27 pm27 an27 cd27 ct27) | 150 => (PySem.W.fnOf "__init__" "WaitError.__init__" (defArgs s_IWaitError) (defBody s_IWaitError) (defScope s_IWaitError) (.ref T150) kV150 dc150 pm150 an150 cd150 ct150) | 151 => (PySem.W.fnOf "__init__" "NoBounds.__init__" (defArgs s_INoBounds) (defBody s_INoBounds) (defScope s_INoBounds) .none kV151 dc151 pm151 an151 cd151 ct151) | 152 => (PySem.W.fnOf "__init__" "Unset.__init__" (defArgs s_IUnset) (defBody s_IUnset) (defScope s_IUnset) .none kV152 dc152 pm152 an152 cd152 ct152) | _ => (PySem.W.fnOf "law" "law" (defArgs s_law) (defBody s_law) (defScope s_law) .none kV25 dc25 pm25 an25 cd25 ct25)
  have T : Txt K mg a d := ⟨PySem.W.mg_of X G a0, F0, b0, PySem.W.mg_of X G a1, F1, b1, PySem.W.mg_of X G a2, F2, b2, PySem.W.mg_of X G a3, F3, b3, PySem.W.mg_of X G a4, F4, b4, PySem.W.mg_of X G a5, F5, b5, PySem.W.mg_of X G a6, F6, b6, PySem.W.mg_of X G a7, F7, b7, PySem.W.mg_of X G a8, F8, b8, F9, c'9, b9, ⟨mk, a9, i9, kc⟩, F10, b10, ⟨a10, i10, k10⟩, F11, b11, ⟨a11, i11, k11⟩, F12, c'12, b12, ⟨a12, i12, k12⟩, F13, b13, ⟨a13, i13, k13⟩, F14, b14, ⟨a14, i14, k14⟩, F15, b15, ⟨a15, i15, k15⟩, PySem.W.mg_of X G a16, F16, b16, PySem.W.mg_of X G a17, F17, b17, PySem.W.mg_of X G a18, F18, b18, PySem.W.mg_of X G a19, F19, b19, PySem.W.mg_of X G a20, F20, b20, PySem.W.mg_of X G a21, F21, b21, PySem.W.mg_of X G a22, F22, b22, PySem.W.mg_of X G a23, F23, b23, PySem.W.mg_of X G a24, F24, b24, PySem.W.mg_of X G a25, F25, b25, PySem.W.mg_of X G a26, F26, b26, PySem.W.mg_of X G a27, F27, b27, PySem.W.mg_of X G aC, ⟨pg, hd, po, sa⟩, nf_most_drift, nf_stands, nf_counted, PySem.W.mg_of X G g29, fun H => .inr ⟨_, _, _, l29, rfl, rfl, (by show 2 ≤ sizeLine; decide), (.cons ⟨_, rfl⟩ (.cons ⟨_, rfl⟩ .nil))⟩, ⟨_, PySem.W.mg_of X G g30⟩, PySem.W.mg_of X G g31, fun H => .inr ⟨_, _, _, l31, rfl, rfl, (by show 2 ≤ sizeLine; decide), (.cons ⟨_, rfl⟩ (.cons ⟨_, rfl⟩ .nil))⟩, PySem.W.mg_none_of X G z_max, PySem.W.mg_none_of X G z_min, PySem.W.mg_none_of X G z_len, PySem.W.mg_none_of X G z_int, PySem.W.mg_none_of X G z_range, PySem.W.mg_none_of X G z_isinstance, PySem.W.mg_none_of X G z_bool, PySem.W.mg_none_of X G z_tuple, PySem.W.mg_none_of X G z_all, PySem.W.mg_none_of X G z_repr, PySem.W.mg_none_of X G z_ValueError, PySem.W.mg_none_of X G z_RuntimeError, (PySem.W.mg_of X G aE100), (PySem.W.mg_of X G aE101), (PySem.W.mg_of X G aE102), (PySem.W.mg_of X G aE103), (PySem.W.mg_of X G aE104), (PySem.W.mg_of X G aE105), (⟨(XB.Facts.under XB.valueError), ⟨nm101, q101, N101, bs101, sn101, sub101, ab101, col101, dd101, x0101, x1101, x2101, x3101, x5101, x101⟩, sa101, xb101, ty101, kp101⟩), (in101), (n0_101), (⟨ga101, gg101, xb101, hd101⟩), (⟨ga101, gg101, xb101, hd101, jc101, j2, j3, jm101⟩), (⟨(XB.Facts.under XB.valueError), ⟨nm102, q102, N102, bs102, sn102, sub102, ab102, col102, dd102, x0102, x1102, x2102, x3102, x5102, x102⟩, sa102, xb102, ty102, kp102⟩), (in102), (n0_102), (n1_102), (⟨⟨nm102, q102, N102, bs102, _, sn102, sub102, ab102, col102, dd102, x0102, x1102, x2102, x3102, x5102, x102, rfl⟩, sa102, xb102, ty102, kp102⟩), (⟨ga102, gg102, xb102, hd102⟩), (⟨ga102, gg102, xb102, hd102, jc102, j2, j3, jm102⟩), (⟨(XB.Facts.under XB.valueError), ⟨nm103, q103, N103, bs103, sn103, sub103, ab103, col103, dd103, x0103, x1103, x2103, x3103, x5103, x103⟩, sa103, xb103, ty103, kp103⟩), (in103), (n0_103), (⟨ga103, gg103, xb103, hd103⟩), (⟨ga103, gg103, xb103, hd103, jc103, j2, j3, jm103⟩), (⟨XB.runtimeError, ⟨nm104, q104, N104, bs104, sn104, sub104, ab104, col104, dd104, x0104, x1104, x2104, x3104, x5104, x104⟩, sa104, xb104, ty104, kp104⟩), (in104), (n0_104), (⟨ga104, gg104, xb104, hd104⟩), (⟨ga104, gg104, xb104, hd104, jc104, j2, j3, jm104⟩), (ti150), (FI150), (bI150), (ti151), (FI151), (bI151), (ti152), (FI152), (bI152), (exm_of tb100 tc100 tt100 su0), (exm_of tb100 tc100 tt100 su1), (exm_of tb102 tc102 tt102 su2), (exm_of tb104 tc104 tt104 su3), (kit_of ts101 tc101 tt101 su4), (kit_of ts102 tc102 tt102 su5), (kit_of ts103 tc103 tt103 su6), (kit_of ts105 tc105 tt105 su7), (kit_blt (by decide +kernel) su8), (kit_of ts101 tc101 tt101 su9), (kit_of ts102 tc102 tt102 su2), (kit_of ts103 tc103 tt103 su10), (kit_of ts105 tc105 tt105 su11), (kit_blt (by decide +kernel) su12), (kit_of ts101 tc101 tt101 su13), (kit_of ts102 tc102 tt102 su14), (kit_of ts103 tc103 tt103 su15), (kit_of ts105 tc105 tt105 su16), (kit_blt (by decide +kernel) su17), (kit_blt (by decide +kernel) su18), (kit_blt (by decide +kernel) su19)⟩
  exact ⟨(PySem.W.fnOf "law" "law" (defArgs s_law) (defBody s_law) (defScope s_law) .none kV25 dc25 pm25 an25 cd25 ct25), fun s v => .of_eq rfl, fun base _ _ => ok_law T⟩
theorem walk {l : PySem.W.OpenLaw} {q : Program} {loose : List Str} {XP : (Str → Option Value) → Heap → Prop} {YP : World → Heap → Prop} {d : DefRec} {K : Params → PySem.W.Frag} (hn : l.most = some 63) (hdf : d.params.defaults = [])
    (hY : ∀ (w : World) (h : Heap), YP w h → (K w.params).In h)
    (F : ∀ (w : World) (mg : Str → Option Value) (fa : Addr) (h : Heap), (K w.params).In h → h.Ns mainGlobals mg → mg d.name = some (.ref fa) →
      ∃ fd : FuncData, (∀ (s : Shared) (u : Value), BindsTo s fd ⟨[u], []⟩ [("_law_script", u)]) ∧ ∀ base : Heap, (K w.params).In base → base.Ns mainGlobals mg → FnG l.prog w (K w.params) mg base 10 fa fd ["_law_script"] (spLaw (K w.params))) :
    PySem.W.WalkO q loose XP YP l.row.toRowW d [] (fun f vs => PySem.call f vs) :=
  walkG (n := 63) (k := 10) (x := "_law_script") (sp := fun w => (spLaw (K w.params))) hn (by decide) hdf ⟨rfl, by decide, by decide⟩ hY F (fun _ _ a ns hl _ _ hS => ⟨a, ns, rfl, hS, hl, fun _ => rfl⟩)
end M

open PySem PySem.W PyProof.Rows in
set_option maxRecDepth 100000 in
set_option maxHeartbeats 0 in
theorem PySem.Challenge.cw_stampedwait_k08_clocks_refused_holds : PySem.Challenge.rw_stampedwait_k08_clocks_refused.Holds := by
  w_on; o_law; k_head; (case hw => w_witness2)
  k_fill
  refine M.walk (l := PySem.Challenge.rw_stampedwait_k08_clocks_refused) rfl rfl (fun w h Y => PySem.W.kIn_of Y) ?F
  case F =>
    intro w mg fa h KX G hmg
    refine' M.all_mk KX G hmg ?g29 ?l29 ?g30 ?g31 ?l31 ?aC ?pg ?hd ?po ?sa ?mk ?kc ?nf_most_drift ?nf_stands ?nf_counted ?a0 ?l0 ?c0 ?k0 ?a1 ?l1 ?c1 ?k1 ?a2 ?l2 ?c2 ?k2 ?a3 ?l3 ?c3 ?k3 ?a4 ?l4 ?c4 ?k4 ?a5 ?l5 ?c5 ?k5 ?a6 ?l6 ?c6 ?k6 ?a7 ?l7 ?c7 ?k7 ?a8 ?l8 ?c8 ?k8 ?a9 ?i9 ?l9 ?c9 ?k9 ?lT9 ?a10 ?i10 ?l10 ?c10 ?k10 ?a11 ?i11 ?l11 ?c11 ?k11 ?a12 ?i12 ?l12 ?c12 ?k12 ?lT12 ?a13 ?i13 ?l13 ?c13 ?k13 ?a14 ?i14 ?l14 ?c14 ?k14 ?a15 ?i15 ?l15 ?c15 ?k15 ?a16 ?l16 ?c16 ?k16 ?a17 ?l17 ?c17 ?k17 ?a18 ?l18 ?c18 ?k18 ?a19 ?l19 ?c19 ?k19 ?a20 ?l20 ?c20 ?k20 ?a21 ?l21 ?c21 ?k21 ?a22 ?l22 ?c22 ?k22 ?a23 ?l23 ?c23 ?k23 ?a24 ?l24 ?c24 ?k24 ?a25 ?l25 ?c25 ?k25 ?a26 ?l26 ?c26 ?k26 ?a27 ?l27 ?c27 ?k27 ?z_max ?z_min ?z_len ?z_int ?z_range ?z_isinstance ?z_bool ?z_tuple ?z_all ?z_repr ?z_ValueError ?z_RuntimeError ?aE100 ?aE101 ?aE102 ?aE103 ?aE104 ?aE105 ?tb100 ?tc100 ?tt100 ?ts100 ?tb101 ?tc101 ?tt101 ?ts101 ?tb102 ?tc102 ?tt102 ?ts102 ?tb103 ?tc103 ?tt103 ?ts103 ?tb104 ?tc104 ?tt104 ?ts104 ?tb105 ?tc105 ?tt105 ?ts105 ?j2 ?j3 ?x101 ?sa101 ?xb101 ?ty101 ?kp101 ?in101 ?ga101 ?gg101 ?hd101 ?jc101 ?jm101 ?n0_101 ?x102 ?sa102 ?xb102 ?ty102 ?kp102 ?in102 ?ga102 ?gg102 ?hd102 ?jc102 ?jm102 ?n0_102 ?n1_102 ?x103 ?sa103 ?xb103 ?ty103 ?kp103 ?in103 ?ga103 ?gg103 ?hd103 ?jc103 ?jm103 ?n0_103 ?x104 ?sa104 ?xb104 ?ty104 ?kp104 ?in104 ?ga104 ?gg104 ?hd104 ?jc104 ?jm104 ?n0_104 ?ti150 ?li150 ?cc150 ?kk150 ?lT150 ?ti151 ?li151 ?cc151 ?kk151 ?ti152 ?li152 ?cc152 ?kk152 ?su0 ?su1 ?su2 ?su3 ?su4 ?su5 ?su6 ?su7 ?su8 ?su9 ?su10 ?su11 ?su12 ?su13 ?su14 ?su15 ?su16 ?su17 ?su18 ?su19
    (case g29 => k_is)
    (case l29 => k_is)
    (case g30 => k_is)
    (case g31 => k_is)
    (case l31 => k_is)
    (case aC => k_is)
    (case pg => k_is)
    (case hd => k_is)
    (case po => k_is)
    (case sa => k_is)
    (case mk => k_is)
    (case kc => k_is)
    (case nf_most_drift => k_is)
    (case nf_stands => k_is)
    (case nf_counted => k_is)
    (case a0 => k_is)
    (case l0 => k_is)
    (case c0 => k_is)
    (case k0 => k_is)
    (case a1 => k_is)
    (case l1 => k_is)
    (case c1 => k_is)
    (case k1 => k_is)
    (case a2 => k_is)
    (case l2 => k_is)
    (case c2 => k_is)
    (case k2 => k_is)
    (case a3 => k_is)
    (case l3 => k_is)
    (case c3 => k_is)
    (case k3 => k_is)
    (case a4 => k_is)
    (case l4 => k_is)
    (case c4 => k_is)
    (case k4 => k_is)
    (case a5 => k_is)
    (case l5 => k_is)
    (case c5 => k_is)
    (case k5 => k_is)
    (case a6 => k_is)
    (case l6 => k_is)
    (case c6 => k_is)
    (case k6 => k_is)
    (case a7 => k_is)
    (case l7 => k_is)
    (case c7 => k_is)
    (case k7 => k_is)
    (case a8 => k_is)
    (case l8 => k_is)
    (case c8 => k_is)
    (case k8 => k_is)
    (case a9 => k_is)
    (case i9 => k_is)
    (case l9 => k_is)
    (case c9 => k_is)
    (case k9 => k_is)
    (case lT9 => k_is)
    (case a10 => k_is)
    (case i10 => k_is)
    (case l10 => k_is)
    (case c10 => k_is)
    (case k10 => k_is)
    (case a11 => k_is)
    (case i11 => k_is)
    (case l11 => k_is)
    (case c11 => k_is)
    (case k11 => k_is)
    (case a12 => k_is)
    (case i12 => k_is)
    (case l12 => k_is)
    (case c12 => k_is)
    (case k12 => k_is)
    (case lT12 => k_is)
    (case a13 => k_is)
    (case i13 => k_is)
    (case l13 => k_is)
    (case c13 => k_is)
    (case k13 => k_is)
    (case a14 => k_is)
    (case i14 => k_is)
    (case l14 => k_is)
    (case c14 => k_is)
    (case k14 => k_is)
    (case a15 => k_is)
    (case i15 => k_is)
    (case l15 => k_is)
    (case c15 => k_is)
    (case k15 => k_is)
    (case a16 => k_is)
    (case l16 => k_is)
    (case c16 => k_is)
    (case k16 => k_is)
    (case a17 => k_is)
    (case l17 => k_is)
    (case c17 => k_is)
    (case k17 => k_is)
    (case a18 => k_is)
    (case l18 => k_is)
    (case c18 => k_is)
    (case k18 => k_is)
    (case a19 => k_is)
    (case l19 => k_is)
    (case c19 => k_is)
    (case k19 => k_is)
    (case a20 => k_is)
    (case l20 => k_is)
    (case c20 => k_is)
    (case k20 => k_is)
    (case a21 => k_is)
    (case l21 => k_is)
    (case c21 => k_is)
    (case k21 => k_is)
    (case a22 => k_is)
    (case l22 => k_is)
    (case c22 => k_is)
    (case k22 => k_is)
    (case a23 => k_is)
    (case l23 => k_is)
    (case c23 => k_is)
    (case k23 => k_is)
    (case a24 => k_is)
    (case l24 => k_is)
    (case c24 => k_is)
    (case k24 => k_is)
    (case a25 => k_is)
    (case l25 => k_is)
    (case c25 => k_is)
    (case k25 => k_is)
    (case a26 => k_is)
    (case l26 => k_is)
    (case c26 => k_is)
    (case k26 => k_is)
    (case a27 => k_is)
    (case l27 => k_is)
    (case c27 => k_is)
    (case k27 => k_is)
    (case z_max => k_is)
    (case z_min => k_is)
    (case z_len => k_is)
    (case z_int => k_is)
    (case z_range => k_is)
    (case z_isinstance => k_is)
    (case z_bool => k_is)
    (case z_tuple => k_is)
    (case z_all => k_is)
    (case z_repr => k_is)
    (case z_ValueError => k_is)
    (case z_RuntimeError => k_is)
    (case aE100 => k_is)
    (case aE101 => k_is)
    (case aE102 => k_is)
    (case aE103 => k_is)
    (case aE104 => k_is)
    (case aE105 => k_is)
    (case tb100 => k_is)
    (case tc100 => k_is)
    (case tt100 => k_is)
    (case ts100 => first | rfl | k_is)
    (case tb101 => k_is)
    (case tc101 => k_is)
    (case tt101 => k_is)
    (case ts101 => first | rfl | k_is)
    (case tb102 => k_is)
    (case tc102 => k_is)
    (case tt102 => k_is)
    (case ts102 => first | rfl | k_is)
    (case tb103 => k_is)
    (case tc103 => k_is)
    (case tt103 => k_is)
    (case ts103 => first | rfl | k_is)
    (case tb104 => k_is)
    (case tc104 => k_is)
    (case tt104 => k_is)
    (case ts104 => first | rfl | k_is)
    (case tb105 => k_is)
    (case tc105 => k_is)
    (case tt105 => k_is)
    (case ts105 => first | rfl | k_is)
    (case j2 => k_is)
    (case j3 => k_is)
    (case x101 => k_is)
    (case sa101 => k_is)
    (case xb101 => k_is)
    (case ty101 => k_is)
    (case kp101 => k_is)
    (case in101 => k_is)
    (case ga101 => k_is)
    (case gg101 => k_is)
    (case hd101 => k_is)
    (case jc101 => k_is)
    (case jm101 => k_is)
    (case n0_101 => k_is)
    (case x102 => k_is)
    (case sa102 => k_is)
    (case xb102 => k_is)
    (case ty102 => k_is)
    (case kp102 => k_is)
    (case in102 => k_is)
    (case ga102 => k_is)
    (case gg102 => k_is)
    (case hd102 => k_is)
    (case jc102 => k_is)
    (case jm102 => k_is)
    (case n0_102 => k_is)
    (case n1_102 => k_is)
    (case x103 => k_is)
    (case sa103 => k_is)
    (case xb103 => k_is)
    (case ty103 => k_is)
    (case kp103 => k_is)
    (case in103 => k_is)
    (case ga103 => k_is)
    (case gg103 => k_is)
    (case hd103 => k_is)
    (case jc103 => k_is)
    (case jm103 => k_is)
    (case n0_103 => k_is)
    (case x104 => k_is)
    (case sa104 => k_is)
    (case xb104 => k_is)
    (case ty104 => k_is)
    (case kp104 => k_is)
    (case in104 => k_is)
    (case ga104 => k_is)
    (case gg104 => k_is)
    (case hd104 => k_is)
    (case jc104 => k_is)
    (case jm104 => k_is)
    (case n0_104 => k_is)
    (case ti150 => k_is)
    (case li150 => k_is)
    (case cc150 => k_is)
    (case kk150 => k_is)
    (case lT150 => k_is)
    (case ti151 => k_is)
    (case li151 => k_is)
    (case cc151 => k_is)
    (case kk151 => k_is)
    (case ti152 => k_is)
    (case li152 => k_is)
    (case cc152 => k_is)
    (case kk152 => k_is)
    (case su0 => first | rfl | k_is)
    (case su1 => first | rfl | k_is)
    (case su2 => first | rfl | k_is)
    (case su3 => first | rfl | k_is)
    (case su4 => first | rfl | k_is)
    (case su5 => first | rfl | k_is)
    (case su6 => first | rfl | k_is)
    (case su7 => first | rfl | k_is)
    (case su8 => first | rfl | k_is)
    (case su9 => first | rfl | k_is)
    (case su10 => first | rfl | k_is)
    (case su11 => first | rfl | k_is)
    (case su12 => first | rfl | k_is)
    (case su13 => first | rfl | k_is)
    (case su14 => first | rfl | k_is)
    (case su15 => first | rfl | k_is)
    (case su16 => first | rfl | k_is)
    (case su17 => first | rfl | k_is)
    (case su18 => first | rfl | k_is)
    (case su19 => first | rfl | k_is)
