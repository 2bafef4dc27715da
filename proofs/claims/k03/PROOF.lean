import PyProof.Rows.All
import Wide.All
import OpenK.AllK
import Wide.FinOn
import HandS.ForMost
import HandS.Wide
import HandS.IsInst
import HandS.Defaults
import HandS.Flow
import HandS.TupLe
import HandS.OwnEq
import HandS.More
import HandS.Small
import HandS.EndBits
import HandS.RaiseMore
import HandS.Walk
import HandS.Conv
import HandS.CallSlots
import HandS.Evl
import HandS.ListEq
import KE.KTryMore
import PyProof.ReprRoads
import PyProof.WalksMore
import PyProof.ReprLen
import HandS.ForExc
import HandS.ExcField
import HandS.ExcInit
import HandS.ExcOwn
import HandS.ExcIs
import KE.KExcIs
import PyProof.ExcBaseAll.LookupError
import PyProof.ExcBaseAll.RuntimeError
import PyProof.ExcBaseAll.IndexError
import PyProof.ExcBaseAll.ValueError
import PySem.Challenge.RW_stampedwait_k03_refusals_apart
set_option Elab.async false
set_option linter.all false
set_option maxRecDepth 100000
set_option maxHeartbeats 4000000
namespace M
open PySem L2


section
open PySem PySem.Spec PyProof.Rows L2
/-- the promise of a def that is only called where no object is being shown -/
structure FnG (P : Program) (w : World) (K : PySem.W.Frag) (mg : Str → Option Value) (base : Heap) (k : Nat) (f : Addr) (fd : FuncData) (ps : List Str) (sp : Sp) : Prop where
  size : ∀ vs H Q E, sp vs H Q E → vs.length = ps.length
  go : ∀ (A : Around) (outer : List Env) (s : Shared) (H : Hp) (us : List Value) (vs : List V) (Q : VK) (E : XK) (args : Args), A.guards = some [] → Room k A → Env0 P w K mg base A outer s H →
    BindsTo s fd args (ps.zip us) → Vals vs us → sp vs H Q E → codeAny (model P w) A (.call (.ref f) args) (CR CX0 outer P w H s Q E) s
theorem room66 {A : Around} {k : Nat} (hr : Room k A) : A.units + 66 < cLine := by
  have := hr.un
  omega
theorem guards_deeper (A : Around) (e : Env) : (A.deeper e).guards = A.guards := rfl
section
variable {P : Program} {w : World} {K : PySem.W.Frag} {mg : Str → Option Value} {base : Heap} {x qual : Str} {st : Stmt} {f : Addr} {fd : FuncData} {N ps : List Str} {k : Nat} {sp : Sp}
theorem fnG_mk (F : Fun K x qual st f fd) (S : FnScope N ps (defScope st)) (size : ∀ vs H Q E, sp vs H Q E → vs.length = ps.length)
    (body : ∀ (cdv : Value) (A : Around) (outer : List Env) (s : Shared) (H : Hp) (vs : List V) (Q : VK) (E : XK), (A.deeper (envOfC qual (defScope st) s.heap.objs.size f cdv)).guards = some [] →
      Room k (A.deeper (envOfC qual (defScope st) s.heap.objs.size f cdv)) → sp vs H Q E →
      ∃ t, PSs (cxOf CX0 P w K mg base N qual (defScope st) f cdv A outer s H E).nox (defBody st) t ∧ t { nx := fun _ H' => Q .non H', rt := Q } (start N vs) H) :
    FnG P w K mg base (k + 1) f fd ps sp := by
  obtain ⟨oc, od, kV, doc, pm, an, cdv, ct, osl, rfl, lk, hcd⟩ := F.ex
  refine ⟨size, ?_⟩
  intro A outer s H us vs Q E args gd hr e0 hb r hsp
  have old : ∀ b o, base.get? b = some o → s.heap.get? b = some o := fun b o z => (e0.bs b o z).1
  have kin := e0.mod.kin.keeps old
  have hkind : ∀ y ∈ ps.zip us, (defScope st).names.lookup y.1 = some .local ∨ ((defScope st).names.lookup y.1 = some .cell ∧ ((cellsFrom (s.heap.objs.size + 1) (defScope st).names []).lookup y.1).isSome = true) := by
    rintro ⟨n, v⟩ hy
    have := S.par n (List.of_mem_zip hy).1
    rcases this with z | z
    · exact .inl z
    · exact .inr ⟨z, PySem.W.cellsFrom_some _ _ _ (.inl z)⟩
  obtain ⟨t, ht, hq⟩ := body cdv A outer s H vs Q E gd (hr.deeper _) hsp
  refine codeAny_call_function hr.depth (kin _ _ lk) rfl S.co S.gen rfl (PySem.W.codeRec_of kin hcd) ?_
  refine hb _ _ _ _ (wpAny_newFunctionEnv_cells S.kind hkind ?_)
  rintro env rfl s1 y
  refine ⟨(e0.mod.nolimit.keeps old).keeps y.toInCall.keep, codeAny_func ?_⟩
  have I0 := inv_start (CX := CX0) (E := E) (cd := cdv) (f := f) (qual := qual) S hr.hd e0 (size _ _ _ _ hsp) r y
  refine wpAny_mono (ht.nox.run [] s1 _ H _ I0 hq) ?_ (fun _ _ z => z)
  intro fl s' hs
  cases fl with
  | ret u =>
    obtain ⟨v, σ', H', J, rv, z⟩ := hs
    exact ⟨v, H', J.os, J.bare, J.base, J.hok, rv, z⟩
  | next =>
    obtain ⟨σ', H', J, z⟩ := hs
    exact ⟨V.non, H', J.os, J.bare, J.base, J.hok, rfl, z⟩
  | brk => exact hs.elim fun _ h => h.elim fun _ h => h.2.elim
  | cont => exact hs.elim fun _ h => h.elim fun _ h => h.2.elim
end
section
variable {X : Cx} {k : Nat} {f : Addr} {fd : FuncData} {ps : List Str} {sp : Sp} {x : Str} {p pos : Pos} {e : Expr} {es : List Expr} {t : TA}
theorem pe_callG (F : FnG X.prog X.w X.K X.mg X.base k f fd ps sp) (gd : X.A.guards = some []) (hr : Room k X.A) (hg : Gl X x) (hm : X.mg x = some (.ref f)) (hk : PySem.W.keepIn X.K (.ref f) = true) (hb : Binds X.K fd ps [])
    (hx : Passes CX0 X E0) (ha : PA X (e :: es) t) (hdb : (x == ("__debug__" : Str)) = false := by decide) (he : starEach (e :: es) X.env = (false, eval e X.env) :: starEach es X.env := by rfl) (hpl : (backTo pos (starEach es X.env)).any (·.1) = false := by rfl) :
    PE X (.Call (.Name x p) (e :: es) [] pos) (tCall sp [] E0 t) := by
  constructor
  intro pins s σ H Q I h
  apply wpAny_Call_Name_kw
  refine ld_glob I hg hm ?_ hdb
  refine PySem.W.callWith_K (h₀ := X.base) I.ok.mod.kin hk (thn (ha.run pos pins s σ H _ I h) ?_) he hpl
  rintro us s1 ⟨vs, H1, I1, r, q⟩
  refine ⟨I1.kIn, ?_⟩
  rw [List.append_nil] at q
  have hl : us.length = ps.length := r.length.symm.trans (F.size _ _ _ _ q)
  have b := hb s1 us I1.kIn (by rw [List.append_nil]; exact hl)
  rw [List.append_nil] at b
  refine wpAny_call (codeAny_mono (F.go X.A X.stack s1 H1 us vs Q E0 ⟨us, []⟩ gd hr I1.env0 b r q) ?_)
  intro res s' hq
  cases res with
  | error e => exact hx pins σ H1 s1 e s' I1 hq
  | ok fl => cases fl <;> first | exact I1.after hq | exact False.elim hq
/-- repr of data -/
theorem call_reprD (gd : X.A.guards = some []) (hu : X.A.units + 66 < cLine) : CallR X (.builtin "repr") (fun xs H Q => ∃ (a : Addr) (d : PyData), xs = [.ref a] ∧ Dp X.K H (.ref a) d ∧ d.showable = true ∧ d.hasDict = false ∧ d.depth ≤ 64 ∧ d.shown.length ≤ sizeLine ∧ Q (.str d.shown) H) := by
  intro pins s σ H xs us Q I r h
  obtain ⟨a, d, rfl, hd, sh, nd, dp, sz, q⟩ := h
  cases r with
  | cons r1 r2 =>
    cases r2
    obtain ⟨as, rd⟩ := Dp.reads I d _ _ hd r1
    cases r1
    exact repr_of_reads' rd sh (fun z => by rw [nd] at z; cases z) gd (by omega) (fun _ _ z => z) (fun h' u tk z => ⟨.str d.shown, H, I.kept z, ⟨_, rfl⟩, q⟩) sz
end
/-- the law's call -/
theorem law_callG {P : Program} {w : World} {K : PySem.W.Frag} {mg mb : Str → Option Value} {k : Nat} {fa sa : Addr} {fd : FuncData} {x : Str} {sp : Sp} {s₁ : Shared} {vs : List Value} {ns : List Int}
    (KX : K.In s₁.heap) (hns : s₁.heap.Ns mainGlobals mg) (hb : s₁.heap.Ns builtinsNs mb) (hbb : ∀ x : Str, x ≠ "__name__" → mb x = bootBuiltins x) (hlim : s₁.heap.NoLimit) (hg : s₁.gens = #[])
    (ho : s₁.heap.get? sa = some { cls := .type "list", data := .seq vs.toArray }) (hi : IntsAre vs ns) (hl : ns.length ≤ sizeLine) (hr : Room k callerA)
    (F : ∀ base : Heap, K.In base → base.Ns mainGlobals mg → FnG P w K mg base k fa fd [x] sp) (hbind : ∀ (s : Shared) (u : Value), BindsTo s fd ⟨[u], []⟩ [(x, u)])
    (hsp : ∀ H : Hp, Only H → SqL K H sa (ns.map V.int) → sp [.ref sa] H (fun v _ => v = .bl true) fun _ _ _ => False) :
    codeAny (model P w) callerA (.call (.ref fa) ⟨[.ref sa], []⟩) (fun r s' => r = .ok (.ret (.bool true)) ∧ OldK s₁.heap s'.heap ∧ s'.os = s₁.os ∧ AllBare s'.gens) s₁ := by
  -- H tracks the script or nothing
  suffices main : ∀ H : Hp, Only H → SqL K H sa (ns.map V.int) → HOk P w H s₁.heap → (∀ b, H b ≠ none → b = sa) → (H sa ≠ none → K.lookup sa = none) →
      codeAny (model P w) callerA (.call (.ref fa) ⟨[.ref sa], []⟩) (fun r s' => r = .ok (.ret (.bool true)) ∧ OldK s₁.heap s'.heap ∧ s'.os = s₁.os ∧ AllBare s'.gens) s₁ by
    have rv := vals_ints hi
    cases hk : K.lookup sa with
    | none =>
      let H : Hp := fun b => if b = sa then some (.frz { cls := .type "list", data := .seq vs.toArray } (.lst (ns.map V.int))) else none
      have hH : H sa = some (.frz { cls := .type "list", data := .seq vs.toArray } (.lst (ns.map V.int))) := if_pos rfl
      have hN : ∀ b, b ≠ sa → H b = none := fun b z => if_neg z
      refine main H (fun b => ?_) (.inl (.inr ⟨_, hH⟩)) (fun b u z => ?_) (fun b z => ?_) fun _ => hk
      · by_cases c : b = sa
        · exact .inr ⟨_, _, by rw [c]; exact hH⟩
        · exact .inl (hN b c)
      · by_cases c : b = sa
        · subst c
          rw [hH] at z
          cases z
          exact ⟨ho, by rw [List.length_map]; exact hl, vs, _, rv, ho⟩
        · rw [hN b c] at z
          cases z
      · by_cases c : b = sa
        · exact c
        · exact absurd (hN b c) z
    | some o =>
      have z := KX sa o hk
      rw [ho] at z
      cases z
      exact main (fun _ => none) (fun _ => .inl rfl) (.inr ⟨_, vs.toArray, _, hk, rfl, rfl, rfl, by rw [List.size_toArray, hi.length]; exact hl, by simpa using rv⟩) (fun b u y => by cases y) (fun b y => absurd rfl y) fun y => absurd rfl y
  intro H hO hS hok hA hK
  have free : ∀ {b : Addr}, b ≠ sa → H b = none := fun {b} c => by
    cases z : H b with
    | none => rfl
    | some u => exact absurd (hA b (by rw [z]; simp)) c
  have dictFree : ∀ {b : Addr} {o : Obj} {es : Array DictEntry} {ep : Nat}, s₁.heap.get? b = some o → o.data = .dict es ep → H b = none := fun {b o es ep} e d => free fun c => by
    subst c
    rw [ho] at e
    cases e
    cases d
  have ns2 : ∀ {b : Addr} {m : Str → Option Value}, s₁.heap.Ns b m → (hidT s₁.heap H).Ns b m := by
    rintro b m ⟨o, es, ep, e, d, r⟩
    exact ⟨o, es, ep, hidT_get e (dictFree e d), d, r⟩
  have kin2 : K.In (hidT s₁.heap H) := by
    intro b o e
    refine hidT_get (KX b o e) ?_
    by_cases c : b = sa
    · subst c
      cases z : H b with
      | none => rfl
      | some u =>
        rw [hK (by rw [z]; simp)] at e
        cases e
    · exact free c
  have lim2 : (hidT s₁.heap H).NoLimit := by
    obtain ⟨mc, h1, h2⟩ := hlim
    exact ⟨mc, ns2 h1, h2⟩
  have env : Env0 P w K mg (hidT s₁.heap H) callerA [] s₁ H :=
    { frames := rfl, mod := ⟨kin2, ns2 hns, ⟨mb, ns2 hb, hbb⟩, lim2⟩, bs := fun b o e => of_hidT e, bsz := Nat.le_of_eq (hidT_size _ _), funs := trivial, frf := fun b z => by simp [frs] at z, hok := hok, bare := .of_eq hg }
  refine codeAny_mono ((F _ kin2 (ns2 hns)).go callerA [] s₁ H [.ref sa] [.ref sa] _ _ ⟨[.ref sa], []⟩ rfl hr env (hbind s₁ (.ref sa)) (.cons rfl .nil) (hsp H hO hS)) ?_
  intro res s' hres
  cases res with
  | error e => exact hres.elim
  | ok fl =>
    cases fl with
    | ret u =>
      obtain ⟨v, H', os, bare, un, hok', rv, qv⟩ := hres
      cases (show v = .bl true from qv)
      cases (show u = Value.bool true from rv)
      refine ⟨rfl, OldK.of_keep fun b o e => ?_, os, bare⟩
      rcases hO b with z | ⟨ob, xs, z⟩
      · exact un.keep b o e z (by simp [frs]) (by simp)
      · have z2 := un.frzs b ob _ z
        have e1 := (hok b _ z).1
        have e2 := (hok' b _ z2).1
        rw [e] at e1
        cases e1
        exact e2
    | next => exact hres.elim
    | brk => exact hres.elim
    | cont => exact hres.elim
theorem walkG {l : PySem.W.OpenLaw} {n k : Nat} {q : Program} {loose : List Str} {XP : (Str → Option Value) → Heap → Prop} {YP : World → Heap → Prop} {d : DefRec} {K : Params → PySem.W.Frag} {sp : World → Sp} {x : Str}
    (hn : l.most = some n) (hn2 : n ≤ sizeLine) (hdf : d.params.defaults = []) (hr : Room k callerA) (hY : ∀ (w : World) (h : Heap), YP w h → (K w.params).In h)
    (F : ∀ (w : World) (mg : Str → Option Value) (fa : Addr) (h : Heap), (K w.params).In h → h.Ns mainGlobals mg → mg d.name = some (.ref fa) →
      ∃ fd : FuncData, (∀ (s : Shared) (u : Value), BindsTo s fd ⟨[u], []⟩ [(x, u)]) ∧ ∀ base : Heap, (K w.params).In base → base.Ns mainGlobals mg → FnG l.prog w (K w.params) mg base k fa fd [x] (sp w))
    (hsp : ∀ (w : World) (H : Hp) (a : Addr) (ns : List Int), ns.length ≤ n → (∀ z ∈ ns, Builtin.Int.intBits z ≤ 1048576) → Only H → SqL (K w.params) H a (ns.map V.int) → sp w [.ref a] H (fun v _ => v = .bl true) fun _ _ _ => False) :
    PySem.W.WalkO q loose XP YP l.row.toRowW d [] (fun f vs => PySem.call f vs) := by
  apply Att.attach_callB hn hdf
  intro w s₀ s₁ mg mb fa o pm cd doc sa vs ns G Y ho hd hcd hmg hobj hints hlen hbits hg
  obtain ⟨fd, hb, hF⟩ := F w mg fa _ (hY w _ Y) G.T.g hmg
  exact law_callG (hY w _ Y) G.T.g G.T.b G.T.builtins G.T.nolimit hg hobj hints (Nat.le_trans hlen hn2) hr hF hb (fun H hO hS => hsp w H sa ns hlen hbits hO hS)
end

section
open PySem PySem.Spec PyProof.Rows L2
/-- data, or an empty dict -/
inductive An (K : PySem.W.Frag) (H : Hp) : V → PyData → Prop
  | dp {v : V} {d : PyData} (h : Dp K H v d) : An K H v d
  | dict {p : Addr} (e : H p = some (.dK [])) : An K H (.ref p) (.dict [])
mutual
theorem dp_up {K : PySem.W.Frag} {H H' : Hp} (k : Same H H') : ∀ {v : V} {d : PyData}, Dp K H v d → Dp K H' v d
  | _, _, .non => .non
  | _, _, .bl b => .bl b
  | _, _, .int i => .int i
  | _, _, .str x => .str x
  | _, _, .lst h hs => .lst (k.seq h) (dpall_up k hs)
  | _, _, .tup h hs => .tup (by
      rcases h with (h | ⟨u, h⟩) | h
      · exact .inl (.inl (k _ _ h))
      · exact .inl (.inr ⟨u, k _ _ h⟩)
      · exact .inr h) (dpall_up k hs)
theorem dpall_up {K : PySem.W.Frag} {H H' : Hp} (k : Same H H') : ∀ {vs : List V} {ds : List PyData}, DpAll K H vs ds → DpAll K H' vs ds
  | _, _, .nil => .nil
  | _, _, .cons h hs => .cons (dp_up k h) (dpall_up k hs)
end
mutual
theorem dp_nodict {K : PySem.W.Frag} {H : Hp} : ∀ {v : V} {d : PyData}, Dp K H v d → d.hasDict = false
  | _, _, .non => rfl
  | _, _, .bl b => rfl
  | _, _, .int i => rfl
  | _, _, .str x => rfl
  | _, _, .lst _ hs => by simp only [PyData.hasDict]; exact dpall_nodict hs
  | _, _, .tup _ hs => by simp only [PyData.hasDict]; exact dpall_nodict hs
theorem dpall_nodict {K : PySem.W.Frag} {H : Hp} : ∀ {vs : List V} {ds : List PyData}, DpAll K H vs ds → PyData.hasDictAll ds = false
  | _, _, .nil => rfl
  | _, _, .cons h hs => by simp only [PyData.hasDictAll, dp_nodict h, dpall_nodict hs, Bool.or_self]
end
theorem dpall_len {K : PySem.W.Frag} {H : Hp} : ∀ {vs : List V} {ds : List PyData}, DpAll K H vs ds → vs.length = ds.length
  | _, _, .nil => rfl
  | _, _, .cons _ hs => congrArg Nat.succ (dpall_len hs)
theorem dpall_get {K : PySem.W.Frag} {H : Hp} : ∀ {vs : List V} {ds : List PyData}, DpAll K H vs ds → ∀ {i : Nat} {v : V}, vs[i]? = some v → ∃ d, ds[i]? = some d ∧ Dp K H v d
  | _, _, .nil, i, v, e => by simp at e
  | _, _, .cons h hs, 0, v, e => by
    simp at e
    subst e
    exact ⟨_, rfl, h⟩
  | _, _, .cons h hs, i + 1, v, e => dpall_get hs (i := i) (by simpa using e)
theorem An.up {K : PySem.W.Frag} {H H' : Hp} (k : Same H H') {v : V} {d : PyData} (h : An K H v d) : An K H' v d := by
  cases h with
  | dp h => exact .dp (dp_up k h)
  | dict e => exact .dict (k _ _ e)
def wholeD : PyData → Bool
  | .int _ => true
  | _ => false
def isTup : PyData → Bool
  | .tuple _ => true
  | _ => false
theorem sql_ty {K : PySem.W.Frag} {H : Hp} {p : Addr} {xs : List V} (h : SqL K H p xs) : TyX K H (.ref p) (.type "list") := by
  rcases h with (h | ⟨u, h⟩) | ⟨o, its, n, h1, h2, _⟩
  · exact .base (.lst h)
  · exact .base (.frz h)
  · exact .kList h1 h2
theorem sqt_tyA {K : PySem.W.Frag} {H : Hp} {p : Addr} {xs : List V} (h : SqT K H p xs) : TyX K H (.ref p) (.type "tuple") := by
  rcases h with (h | ⟨u, h⟩) | ⟨o, its, n, h1, h2, _⟩
  · exact .base (.tup h)
  · exact .fTuple h
  · exact .kTuple h1 h2
/-- what isinstance says -/
theorem An.is {K : PySem.W.Frag} {H : Hp} {v : V} {d : PyData} (h : An K H v d) : ∃ (t : Value) (i b c : Bool), TyX K H v t ∧ PySem.W.kitOne K t (.type "int") = some i ∧ PySem.W.kitOne K t (.type "bool") = some b ∧ PySem.W.kitOne K t (.type "tuple") = some c ∧ (i && !b) = wholeD d ∧ c = isTup d := by
  cases h with
  | dict e => exact ⟨_, false, false, false, .base (.dK e), kit_ty (by decide +kernel), kit_ty (by decide +kernel), kit_ty (by decide +kernel), rfl, rfl⟩
  | dp h =>
    cases h with
    | non => exact ⟨_, false, false, false, .base .non, kit_ty (by decide +kernel), kit_ty (by decide +kernel), kit_ty (by decide +kernel), rfl, rfl⟩
    | bl b => exact ⟨_, true, true, false, .base (.bl b), kit_ty (by decide +kernel), kit_ty (by decide +kernel), kit_ty (by decide +kernel), rfl, rfl⟩
    | int i => exact ⟨_, true, false, false, .base (.int i), kit_ty (by decide +kernel), kit_ty (by decide +kernel), kit_ty (by decide +kernel), rfl, rfl⟩
    | str x => exact ⟨_, false, false, false, .base (.str x), kit_ty (by decide +kernel), kit_ty (by decide +kernel), kit_ty (by decide +kernel), rfl, rfl⟩
    | lst h _ => exact ⟨_, false, false, false, sql_ty h, kit_ty (by decide +kernel), kit_ty (by decide +kernel), kit_ty (by decide +kernel), rfl, rfl⟩
    | tup h _ => exact ⟨_, false, false, true, sqt_tyA h, kit_ty (by decide +kernel), kit_ty (by decide +kernel), kit_ty (by decide +kernel), rfl, rfl⟩
/-- a tuple of data -/
theorem An.tup {K : PySem.W.Frag} {H : Hp} {v : V} {ds : List PyData} (h : An K H v (.tuple ds)) : ∃ p xs, v = .ref p ∧ SqT K H p xs ∧ DpAll K H xs ds := by
  cases h with
  | dp h =>
    cases h with
    | tup h hs => exact ⟨_, _, rfl, h, hs⟩
section
variable {X : Cx}
/-- repr of any of these -/
theorem call_reprA (gd : X.A.guards = some []) (hu : X.A.units + 66 < cLine) : CallR X (.builtin "repr") (fun xs H Q => ∃ (x : V) (d : PyData), xs = [x] ∧ An X.K H x d ∧ d.showable = true ∧ d.depth ≤ 64 ∧ d.shown.length ≤ sizeLine ∧ Q (.str d.shown) H) := by
  intro pins s σ H xs us Q I r h
  obtain ⟨x, d, rfl, ha, sh, dp, sz, q⟩ := h
  cases r with
  | cons r1 r2 =>
    cases r2
    cases ha with
    | dict e =>
      cases r1
      obtain ⟨hz, hS, vs, r, o, es, ep, h1, h2, h3, h4⟩ := (show ObjOk X.prog X.w H s.heap _ (.dK []) from I.hok _ _ e)
      cases r
      have hes : es.toList = [] := by
        have z := h4.2.1
        generalize es.toList = l at z
        cases z
        rfl
      have rd : Reads s.heap (.ref _) (.dict []) (_ :: [] ++ []) := Reads.dict (kvs := []) (as := []) (bs := []) h1 h2.1 h3 (by rw [hes]; exact .nil) (by rw [hes]; exact .nil)
      refine repr_of_reads' rd rfl (fun _ z => ?_) gd (by show X.A.units + (1 + 1) < cLine; omega) (fun _ _ z => z) (fun h' u tk z => ⟨.str _, H, I.kept z, ⟨_, rfl⟩, q⟩) sz
      simp at z
      simp [z] at hS
    | dp hd =>
      cases hd with
      | non =>
        cases r1
        exact PySem.P.repr_of_none ⟨.str _, H, I.tok _, ⟨_, rfl⟩, q⟩
      | bl b =>
        cases r1
        exact PySem.P.repr_of_bool ⟨.str _, H, I.tok _, ⟨_, rfl⟩, q⟩
      | int i =>
        obtain ⟨t, rfl⟩ := r1
        exact PySem.P.repr_of_int (of_decide_eq_true sh) ⟨.str _, H, I.tok _, ⟨_, rfl⟩, q⟩
      | str z =>
        obtain ⟨t, rfl⟩ := r1
        exact PySem.P.repr_of_str ⟨.str _, H, I.tok _, ⟨_, rfl⟩, q⟩ sz
      | lst h hs =>
        obtain ⟨as, rd⟩ := Dp.reads I _ _ _ (.lst h hs) r1
        cases r1
        exact repr_of_reads' rd sh (fun z => by rw [dp_nodict (.lst h hs)] at z; cases z) gd (by omega) (fun _ _ z => z) (fun h' u tk z => ⟨.str _, H, I.kept z, ⟨_, rfl⟩, q⟩) sz
      | tup h hs =>
        obtain ⟨as, rd⟩ := Dp.reads I _ _ _ (.tup h hs) r1
        cases r1
        exact repr_of_reads' rd sh (fun z => by rw [dp_nodict (.tup h hs)] at z; cases z) gd (by omega) (fun _ _ z => z) (fun h' u tk z => ⟨.str _, H, I.kept z, ⟨_, rfl⟩, q⟩) sz
/-- min of a tuple of ints -/
theorem cr_minT (hc : X.calm = true) : CallR X (.builtin "min") (fun vs H Q => ∃ (a : Addr) (ns : List Int), vs = [V.ref a] ∧ SqT X.K H a (ns.map V.int) ∧ 0 < ns.length ∧ ∀ m, m ∈ ns → (∀ y, y ∈ ns → m ≤ y) → Q (.int m) H) := by
  intro pins s σ H vs us Q I r h
  obtain ⟨a, ns, rfl, hs, hne, q⟩ := h
  obtain ⟨its, rv, ht, _⟩ := I.tuple hs
  rw [Vals.ref1 r]
  have hi : IntsAre its ns := rv.ints
  obtain ⟨xs, e⟩ := hi.allInts.items
  have hn : numsOf (intItems xs).toList = ns := by rw [← e]; exact hi.numsOf
  rw [nums_intItems] at hn
  subst hn
  rw [e] at ht
  have hsz : 0 < xs.size := by simpa using hne
  have ht' : s.heap.IsTuple a (intItems xs) := ht
  have hlt : a < s.heap.objs.size := by
    obtain ⟨_, z, _⟩ := ht'
    exact Heap.lt_size z
  have hsz1 : ∀ o, (s.heap.push o).objs.size = s.heap.objs.size + 1 := fun o => Heap.size_push ..
  refine call_min_walk (wpAny_pyIter_tuple ht' ⟨_, _, _, _, _, _, _, rfl, Walks.tuple (A := X.A.in1) (I.ok.hd hc) _ a (Nat.ne_of_lt hlt) (intItems xs), ⟨⟨_, Heap.get?_push_size _ rfl, rfl, rfl⟩, ?_⟩, ?_, by simpa [intItems] using hsz, CmpOf.ints_lt (numAt xs) (fun _ _ => intItems_at), ?_⟩)
  · obtain ⟨o, z1, z2⟩ := ht'
    exact ⟨o, Heap.get?_push_of_some _ z1, z2⟩
  · intro b hb
    show b < (s.heap.push _).objs.size
    rw [hsz1]
    rcases List.mem_cons.mp hb with rfl | hb
    · exact Nat.lt_succ_self _
    · rcases List.mem_cons.mp hb with rfl | hb
      · exact Nat.lt_succ_of_lt hlt
      · cases hb
  · intro v h' tk hP hk
    have hv : (intItems xs)[argBest (fun i j => decide (numAt xs i < numAt xs j)) (xs.size - 1)]? = some v := by simpa [intItems] using hP
    obtain ⟨t, rfl⟩ := intItems_at hv
    obtain ⟨h1, h2⟩ := argBest_lt (numAt xs) (xs.size - 1)
    have kept : ∀ b o, s.heap.get? b = some o → h'.get? b = some o := fun b o z => hk b o (by simpa using Nat.ne_of_lt (Heap.lt_size z)) (Heap.get?_push_of_some _ z)
    refine ⟨.int _, H, I.kept kept, ⟨_, rfl⟩, q _ ?_ ?_⟩
    · rw [numAt_eq]; exact PySem.getD_mem (by rw [List.length_map, Array.length_toList]; omega)
    · intro z hz
      obtain ⟨j, hj, rfl⟩ := mem_getD hz
      rw [List.length_map, Array.length_toList] at hj
      rw [← numAt_eq]; exact h2 j (by omega)
end
end
section
open PySem PySem.Spec PyProof.Rows L2
/-- a caught exception that is kept: of the class cls, its dict d -/
def ExK (cls : Value) (d : Option Addr) (a : Addr) : HO := .ext fun h => ∃ (oe : Obj) (vs : Array Value), h.get? a = some oe ∧ Zc cls d oe ∧ oe.data = .fields vs
theorem exK_ok {P : Program} {w : World} {H : Hp} {h : Heap} {a : Addr} {cls : Value} {d : Option Addr} {oe : Obj} {vs : Array Value} (e : h.get? a = some oe) (z : Zc cls d oe) (hd : oe.data = .fields vs) : ObjOk P w H h a (ExK cls d a) :=
  ⟨⟨oe, vs, e, z, hd⟩, ⟨oe, e⟩, fun h1 h2 ⟨o, vs, e, z, hd⟩ k => ⟨o, vs, k _ e, z, hd⟩⟩
theorem exK_at {P : Program} {w : World} {H : Hp} {h : Heap} {a : Addr} {cls : Value} {d : Option Addr} (hok : HOk P w H h) (e : H a = some (ExK cls d a)) : ∃ (oe : Obj) (vs : Array Value), h.get? a = some oe ∧ Zc cls d oe ∧ oe.data = .fields vs := by
  obtain ⟨x, _⟩ := hok a _ e
  exact x
section
variable {X : Cx} {pins : List (Addr × Obj)} {σ : L2.St} {H : Hp} {s sI : Shared} {B : Heap}
/-- an exception that has landed, tracked -/
theorem inv_track {a : Addr} {o : HO} (J : Inv X pins σ H sI) (I : Inv X pins σ H s) (nI : sI.heap.get? a = none) (na : H a = none) (nL : a ≠ X.env.locals) (new : ObjOk X.prog X.w (upd H a o) s.heap a o) : Inv X pins σ (upd H a o) s := by
  refine ⟨I.ok, I.os, I.bare, ⟨I.base.keep, I.base.slot, fun b ob e n hx => ?_, I.base.there, fun b xs e => ?_, fun b ob u e => ?_, fun b ps e => ?_⟩, I.loc, I.cell, ?_, fun y c e => ?_, fun p hp => ?_, fun b u e => ?_, I.len⟩
  · rw [upd_ne (fun z => by
      subst z
      obtain ⟨o', e'⟩ := J.base.there _ _ e hx
      rw [nI] at e'; cases e')]
    exact I.base.free b ob e n hx
  · have z := I.base.tups b xs e
    rw [upd_ne (ne_of_none z na)]; exact z
  · have z := I.base.frzs b ob u e
    rw [upd_ne (ne_of_none z na)]; exact z
  · obtain ⟨m, z⟩ := I.base.tbls b ps e
    exact ⟨m, by rw [upd_ne (ne_of_none z na)]; exact z⟩
  · rw [upd_ne (fun z => nL z.symm)]; exact I.free
  · obtain ⟨v, z⟩ := J.cell y c e
    rw [upd_ne (fun q => by
      subst q
      obtain ⟨o', e', _⟩ := z
      rw [nI] at e'; cases e')]
    exact I.freeC y c e
  · obtain ⟨e1, e2, e3, e4, e5⟩ := I.pin p hp
    refine ⟨e1, ?_, e3, e4, e5⟩
    rw [upd_ne (fun q => by
      have z := (J.pin p hp).1
      rw [q, nI] at z; cases z)]
    exact e2
  · by_cases hb : b = a
    · subst hb
      rw [upd_same] at e
      cases e
      exact new
    · rw [upd_ne hb] at e
      exact (I.hok b u e).stay (fun c v _ q => q) (fun c q => by rw [upd_ne (ne_of_none q na)]; exact q) fun c xs q => by rw [upd_ne (ne_of_none q na)]; exact q
theorem inv_suiteK (I : Inv X pins σ H s) (a : Addr) : Inv (X.suite a (X.pn ++ pins)) [] σ H s where
  ok := I.ok.suite _ _
  os := I.os
  bare := I.bare
  base := I.base
  loc := I.loc
  cell := I.cell
  free := I.free
  freeC := I.freeC
  pin := fun p hp => I.pin p (by simpa using hp)
  hok := I.hok
  len := I.len
theorem inv_unsuiteK {a : Addr} {pn' : List (Addr × Obj)} (I : Inv (X.suite a (X.pn ++ pins)) pn' σ H s) (ok : X.Ok) : Inv X pins σ H s where
  ok := ok
  os := I.os
  bare := I.bare
  base := I.base
  loc := I.loc
  cell := I.cell
  free := I.free
  freeC := I.freeC
  pin := fun p hp => I.pin p (List.mem_append.mpr (.inl hp))
  hok := I.hok
  len := I.len
end
/-- an exception that came down from a try's body: B its ground, sI the state ahead of it, t the state now -/
structure Down (X : Cx) (pins : List (Addr × Obj)) (σ : L2.St) (H : Hp) (cls : Value) (d : Option Addr) (a : Addr) (B : Heap) (sI t : Shared) : Prop where
  inv : Inv X pins σ H sI
  gr : ∀ b o, sI.heap.get? b = some o → b ∉ frs X.stack → B.get? b = some o
  up : sI.heap.UpToSlots t.heap
  fl : HandSPX.FlyingZ B (X.env :: X.outer) a (Zc cls d) t.heap
  na : H a = none
  so : t.os = sI.os
  ag : AllBare t.gens
section
variable {X : Cx} {pins : List (Addr × Obj)} {σ : L2.St} {H : Hp} {cls : Value} {d : Option Addr} {a : Addr} {B : Heap} {sI t : Shared}
theorem Down.here (z : Down X pins σ H cls d a B sI t) : Inv X pins σ H t := z.inv.landed z.gr z.fl.1 z.up z.so z.ag
theorem Down.again (z : Down X pins σ H cls d a B sI t) {h : Heap} (f : HandSPX.FlyingZ B (X.env :: X.outer) a (Zc cls d) h) (u : t.heap.UpToSlots h) : Down X pins σ H cls d a B sI { t with heap := h } :=
  ⟨z.inv, z.gr, z.up.trans u, f, z.na, z.so, z.ag⟩
theorem Down.apart (z : Down X pins σ H cls d a B sI t) : a ∉ frs (X.env :: X.outer) := fun hm => by
  obtain ⟨oe, vs, he, _, hd⟩ := z.fl.there
  obtain ⟨_, o2, e2, no⟩ := z.fl.2.2.1.mem hm
  exact no vs (by rw [he] at e2; cases e2; exact hd)
theorem Down.nloc (z : Down X pins σ H cls d a B sI t) (hf : X.env.frame = some X.env.locals) : a ≠ X.env.locals := fun q => by
  refine z.apart ?_
  rw [q]
  exact List.mem_filterMap.mpr ⟨X.env, .head _, hf⟩
theorem Down.new (z : Down X pins σ H cls d a B sI t) (hs : X.stack = X.env :: X.outer) : sI.heap.get? a = none := by
  have n := z.apart
  rw [← hs] at n
  have nB : B.get? a = none := z.fl.2.1
  by_cases q : sI.heap.get? a = none
  · exact q
  · obtain ⟨o, e⟩ := Option.ne_none_iff_exists'.mp q
    rw [z.gr a o e n] at nB
    cases nB
theorem Down.kept (z : Down X pins σ H cls d a B sI t) (hs : X.stack = X.env :: X.outer) (hf : X.env.frame = some X.env.locals) : Inv X pins σ (upd H a (ExK cls d a)) t := by
  obtain ⟨oe, vs, he, hz, hd⟩ := z.fl.there
  exact inv_track z.inv z.here (z.new hs) z.na (z.nloc hf) (exK_ok he hz hd)
/-- the class of a clause, asked of it -/
theorem Down.asks {x : Str} {c : Value} {b : Bool} {np : Pos} {Q : Bool → Shared → Prop} {E : Value → Shared → Prop} (z : Down X pins σ H cls d a B sI t) (hc : Names X x c) (hb : PySem.W.exmOne X.K cls c = some b) (q : Q b t) :
    wpAny (model X.prog X.w) (X.A.mark (some (.ref a))) (eval (.Name x np) X.env) (fun v s1 => wpAny (model X.prog X.w) (X.A.mark (some (.ref a))) (excMatches (.ref a) v) Q E s1) E t := by
  obtain ⟨oe, vs, he, hz, hd⟩ := z.fl.there
  have ty : PySem.W.Looks (model X.prog X.w) t.heap (typeOf (.ref a)) cls := by
    intro A Q E s k q
    exact wpAny_typeOf_ref (k _ _ he) (hz.1 ▸ q)
  have m := (PySem.W.exm_one (M := model X.prog X.w) z.here.kIn ty hb).here (A := X.A.mark (some (.ref a))) (E := E) q
  have S := inv_suiteK z.here a
  obtain ⟨g, nd, h | ⟨h, v, nn⟩⟩ := hc
  · exact ld_glob S g h m nd
  · exact ld_blt S g h v m nn nd
end
/-- where a suite ends, its name gone -/
def offAt (i : Nat) (D : Ends) : Ends where
  nx := fun σ H => D.nx (σ.set i none) H
  rt := D.rt
  bk := fun σ H => D.bk (σ.set i none) H
  ct := fun σ H => D.ct (σ.set i none) H
/-- the clauses of a try: except x as n (its slot), or except x -/
inductive HK (X : Cx) : List ExceptHandler → List (Value × Option Nat × (Addr → Value → Option Addr → TS)) → Prop
  | nil : HK X [] []
  | named {x n : Str} {c : Value} {i : Nat} {ts : Addr → Value → Option Addr → TS} {b0 : Stmt} {suite : List Stmt} {np pos : Pos} {hds : List ExceptHandler} {l : List (Value × Option Nat × (Addr → Value → Option Addr → TS))}
      (hc : Names X x c) (hi : X.N[i]? = some n) (hk : X.env.kindOf n = some .local) (su : ∀ (a : Addr) (cls : Value) (d : Option Addr) (pn : List (Addr × Obj)), PSs (X.suite a pn) (b0 :: suite) (ts a cls d)) (r : HK X hds l) :
      HK X (.ExceptHandler (some (.Name x np)) (some n) (b0 :: suite) pos :: hds) ((c, some i, ts) :: l)
  | bare {x : Str} {c : Value} {ts : Addr → Value → Option Addr → TS} {b0 : Stmt} {suite : List Stmt} {np pos : Pos} {hds : List ExceptHandler} {l : List (Value × Option Nat × (Addr → Value → Option Addr → TS))}
      (hc : Names X x c) (su : ∀ (a : Addr) (cls : Value) (d : Option Addr) (pn : List (Addr × Obj)), PSs (X.suite a pn) (b0 :: suite) (ts a cls d)) (r : HK X hds l) :
      HK X (.ExceptHandler (some (.Name x np)) none (b0 :: suite) pos :: hds) ((c, none, ts) :: l)
/-- what the clauses wish of an exception of the body -/
def wHK (K : PySem.W.Frag) (W : WX) (D : Ends) : List (Value × Option Nat × (Addr → Value → Option Addr → TS)) → WX
  | [] => W
  | (c, some i, ts) :: l => fun cls d σ H => ∃ b, PySem.W.exmOne K cls c = some b ∧ (b = true → ∀ a, H a = none → ts a cls d (offAt i D) (σ.set i (some (.ref a))) (upd H a (ExK cls d a))) ∧ (b = false → wHK K W D l cls d σ H)
  | (c, none, ts) :: l => fun cls d σ H => ∃ b, PySem.W.exmOne K cls c = some b ∧ (b = true → ∀ a, H a = none → ts a cls d D σ (upd H a (ExK cls d a))) ∧ (b = false → wHK K W D l cls d σ H)
section
variable {X : Cx} {W : WX} {D : Ends} {hds : List ExceptHandler} {l : List (Value × Option Nat × (Addr → Value → Option Addr → TS))}
theorem handledK (hs : X.stack = X.env :: X.outer) (hf : X.env.frame = some X.env.locals) (hN : X.N.Nodup) (tk : Takes X W) (hh : HK X hds l) :
    ∀ {pins : List (Addr × Obj)} {σ : L2.St} {H : Hp} {cls : Value} {d : Option Addr} {a : Addr} {B : Heap} {sI t : Shared}, Down X pins σ H cls d a B sI t → wHK X.K W D l cls d σ H →
      wpAny (model X.prog X.w) X.A (handleBy (.ref a) X.env hds) (SP X pins D) X.xe t := by
  induction hh with
  | nil =>
    intro pins σ H cls d a B sI t z w
    have go : wpAny (model X.prog X.w) X.A (setFlight (.ref a) X.env.frame) (fun _ s4 => wpAny (model X.prog X.w) X.A (throw (.ref a) : Sem Flow) (SP X pins D) X.xe s4) X.xe t := by
      rw [hf]
      refine HandSPX.setFlight_upZ z.fl fun h hh u => ?_
      refine wpAny_throw (tk _ _ ?_)
      exact ⟨a, B, sI, pins, σ, H, cls, d, rfl, z.inv, z.gr, z.up.trans u, .inr (.inr (hs ▸ hh)), z.na, z.so, z.ag, w⟩
    obtain ⟨_, _, _, oe, vs, T, _, _, he, _, hd, h1, _⟩ := id z.fl
    apply wpAny_handleBy_nil
    unfold PySem.passOn
    apply wpAny_bind
    apply wpAny_field he hd h1
    rw [if_neg (by simp)]
    first
      | exact wpAny_bind (wpAny_pure (wpAny_bind go))
      | exact wpAny_bind go
  | @named x n c i ts b0 suite np pos hds l hc hi hk su r ih =>
    intro pins σ H cls d a B sI t z w
    obtain ⟨b, hb, yes, no⟩ := w
    refine wpAny_handleBy_cons (codeAny_handlers_test (z.asks hc hb ?_)) fun q => by cases q
    cases b with
    | false => exact ih z (no rfl)
    | true =>
      refine codeAny_handlers_suite_as (HandSPX.lands_againZ z.fl fun h f u => ?_)
      have S := inv_suiteK ((z.again f u).kept hs hf) a
      refine store_ok (X := X.suite a (X.pn ++ pins)) (v := .ref a) S hN hi (.inl hk) rfl (fun s5 S5 => ?_) (.inr hk)
      refine wpAny_mono ((su a cls d (X.pn ++ pins)).run [] s5 _ _ _ S5 (yes rfl a z.na)) (fun fl s6 e6 => ?_) fun _ _ q => q.elim
      cases fl with
      | next => obtain ⟨σ6, H6, S6, q6⟩ := e6; exact gone_ok (inv_unsuiteK S6 z.inv.ok) hN hi hk fun s7 J7 => ⟨_, _, J7, q6⟩
      | brk => obtain ⟨σ6, H6, S6, q6⟩ := e6; exact gone_ok (inv_unsuiteK S6 z.inv.ok) hN hi hk fun s7 J7 => ⟨_, _, J7, q6⟩
      | cont => obtain ⟨σ6, H6, S6, q6⟩ := e6; exact gone_ok (inv_unsuiteK S6 z.inv.ok) hN hi hk fun s7 J7 => ⟨_, _, J7, q6⟩
      | ret u => obtain ⟨v6, σ6, H6, S6, r6, q6⟩ := e6; exact gone_ok (inv_unsuiteK S6 z.inv.ok) hN hi hk fun s7 J7 => ⟨_, _, _, J7, r6, q6⟩
  | @bare x c ts b0 suite np pos hds l hc su r ih =>
    intro pins σ H cls d a B sI t z w
    obtain ⟨b, hb, yes, no⟩ := w
    refine wpAny_handleBy_cons (codeAny_handlers_test (z.asks hc hb ?_)) fun q => by cases q
    cases b with
    | false => exact ih z (no rfl)
    | true =>
      refine codeAny_handlers_suite (HandSPX.lands_againZ z.fl fun h f u => ?_)
      have S := inv_suiteK ((z.again f u).kept hs hf) a
      refine wpAny_mono ((su a cls d (X.pn ++ pins)).run [] _ _ _ _ S (yes rfl a z.na)) (fun fl s6 e6 => ?_) fun _ _ q => q.elim
      cases fl with
      | next => obtain ⟨σ6, H6, S6, q6⟩ := e6; exact ⟨_, _, inv_unsuiteK S6 z.inv.ok, q6⟩
      | brk => obtain ⟨σ6, H6, S6, q6⟩ := e6; exact ⟨_, _, inv_unsuiteK S6 z.inv.ok, q6⟩
      | cont => obtain ⟨σ6, H6, S6, q6⟩ := e6; exact ⟨_, _, inv_unsuiteK S6 z.inv.ok, q6⟩
      | ret u => obtain ⟨v6, σ6, H6, S6, r6, q6⟩ := e6; exact ⟨_, _, _, inv_unsuiteK S6 z.inv.ok, r6, q6⟩
/-- try: body, any clauses; what is caught stays known behind the suite -/
theorem ps_tryK {body : List Stmt} {h0 : ExceptHandler} {pos : Pos} {tb : WX → TS} (hs : X.stack = X.env :: X.outer) (hf : X.env.frame = some X.env.locals) (hN : X.N.Nodup) (tk : Takes X W) (hh : HK X (h0 :: hds) l)
    (hb : ∀ (V : WX) (pn : List (Addr × Obj)) (xe : Value → Shared → Prop), Takes (X.tr pn xe) V → PassesOwn (model X.prog X.w) X.A X.env xe → PSs (X.tr pn xe) body (tb V)) :
    PS X (.Try body (h0 :: hds) [] [] pos) (fun D σ H => tb (wHK X.K W D l) D σ H) := by
  constructor
  intro pins s σ H D I h
  have fr : X.A.frames = some (X.env :: X.outer) := hs ▸ I.ok.frames
  apply wpAny_Try_except
  let xe : Value → Shared → Prop := fun e s1 => wpAny (model X.prog X.w) X.A (noteFrame e X.env) (fun _ s2 => wpAny (model X.prog X.w) X.A (setFlight e none) (fun _ s3 =>
    wpAny (model X.prog X.w) X.A (handleBy e X.env (h0 :: hds)) (SP X pins D) X.xe s3) X.xe s2) X.xe s1
  have T : Takes (X.tr (X.pn ++ pins) xe) (wHK X.K W D l) := fun u t y => by
    obtain ⟨a, B, sI, _, σ1, H1, cls, d, rfl, J, gr, up, sky, na, so, ag, w⟩ := y
    have sky1 : Sky B (X.env :: X.outer) a (Zc cls d) X.env.locals t.heap := hs ▸ sky
    exact Sky.land Zc.steady fr hf sky1 fun h3 f3 u3 => handledK hs hf hN tk hh ⟨J.ofTry I.ok, gr, up.trans u3, f3, na, so, ag⟩ w
  refine wpAny_mono ((hb (wHK X.K W D l) (X.pn ++ pins) xe T PassesOwn.looking).run [] s σ H D (I.toTry _) h) (fun f s1 e => ?_) fun _ _ q => q
  cases f with
  | next => obtain ⟨σ1, H1, J, q⟩ := e; exact wpAny_execs_nil ⟨σ1, H1, J.ofTry I.ok, q⟩
  | brk => obtain ⟨σ1, H1, J, q⟩ := e; exact ⟨σ1, H1, J.ofTry I.ok, q⟩
  | cont => obtain ⟨σ1, H1, J, q⟩ := e; exact ⟨σ1, H1, J.ofTry I.ok, q⟩
  | ret u => obtain ⟨v, σ1, H1, J, r, q⟩ := e; exact ⟨v, σ1, H1, J.ofTry I.ok, r, q⟩
end
/-- e.f of a kept exception -/
def tXk (C : Addr) (f : Str) (te : TE) : TE := fun σ H Q => te σ H fun x H1 => ∃ (a dd : Addr) (fs : List (Str × V)) (v : V), x = .ref a ∧ H1 a = some (ExK (.ref C) (some dd) a) ∧ H1 dd = some (.xd fs) ∧ fs.lookup f = some v ∧ Q v H1
theorem pe_xk {X : Cx} {C : Addr} {e : Expr} {te : TE} {pos : Pos} {n : Str} (T : XfC X.K C) (hno : PySem.W.findIn X.K (.ref C) n = some none) (he : PE X e te) (hb : attributeBase e n X.env (eval e X.env) = eval e X.env := by rfl) :
    PE X (.Attribute e n pos) (tXk C n te) := by
  constructor
  intro pins s σ H Q I h
  apply attr_of hb
  refine thn (he.run pins s σ H _ I h) ?_
  rintro u s1 ⟨x, H1, I1, rx, a, dd, fs, v, rfl, ek, ea, l, q⟩
  cases rx
  obtain ⟨oe, vs, there, ⟨zc, zd⟩, fv⟩ := exK_at I1.hok ek
  obtain ⟨mA, ns, rel⟩ : ∃ mA, s1.heap.Ns1 dd mA ∧ ∀ g, RelO (fs.lookup g) (mA g) := I1.hok dd _ ea
  obtain ⟨od, look, found⟩ := lookIn_ns ns
  have rv := rel n
  rw [l] at rv
  obtain ⟨u, mu, ru⟩ := RelO.some_of rv
  have no : PySem.W.notCls oe = true := by unfold PySem.W.notCls; rw [fv] <;> rfl
  have at_ : PySem.W.InstAt s1.heap a oe C (some od) := ⟨there, zc, no, by rw [zd]; exact look⟩
  have own := PySem.W.findObj_own (K := X.K) (C := C) (od := od) (name := n) (v := u) T.hdC hno rfl ((found n).trans (congrArg some mu))
  exact HandSPX.exc_get I1.kIn at_ T.ga T.gg T.exC own (handed_of ru) ⟨v, H1, I1.tok _, ru, q⟩
/-- a method called where an exception of it is awaited, by the slots as they stand -/
def tMethS (C : Addr) (m : Str) (sp : Sp) (E : L2.St → XK) (ta : TE) (t : TA) : TE := fun σ H Q => ta σ H fun x H1 => ∃ a dx fs, x = .ref a ∧ H1 a = some (.ins C dx fs) ∧ fs.lookup m = none ∧ t σ H1 fun vs H2 => sp (.ref a :: vs) H2 Q (E σ)
theorem pe_methS {X : Cx} {CX : CXT} {k : Nat} {f C : Addr} {fd : FuncData} {ps : List Str} {sp : Sp} {E : L2.St → XK} {m : Str} {pos apos : Pos} {e o : Expr} {es : List Expr} {ta : TE} {t : TA} {pl : Sem Bool} (he : PE X o ta) (c : Cls X.K C) (hm : Meth X.K C m f)
    (F : FnOk X.prog X.w X.K X.mg X.base CX k f fd ps sp) (hr : Room k X.A) (hb : Binds X.K fd ps []) (hx : ∀ σ, PassesAt CX X σ (E σ)) (ha : PA X (e :: es) t) (hst : starEach (e :: es) X.env = (false, eval e X.env) :: starEach es X.env := by rfl)
    (hpl : (backTo pos (starEach es X.env)).any (·.1) = false := by rfl)
    (ht : eval (.Call (.Attribute o m apos) (e :: es) [] pos) X.env = (do let ov ← eval o X.env; standAt apos.atName; let (f, first) ← holding [ov] (getMethod ov m pl); callWith pos f first (backTo pos (starEach (e :: es) X.env)) (backToKw pos (keywordEach [] X.env))) := by rfl) :
    PE X (.Call (.Attribute o m apos) (e :: es) [] pos) (tMethS C m sp E ta t) := by
  constructor
  intro pins s σ H Q I h
  refine PySem.W.methodCall_KW (pl := pl) (thn (he.run pins s σ H _ I h) ?_) ht
  rintro u s1 ⟨x, H1, I1, rx, a, dx, fs, rfl, ea, l, q⟩
  cases rx
  apply getmeth_ok I1 ea c hm l
  refine PySem.W.callWith_K (first := [.ref a]) (h₀ := X.base) I.ok.mod.kin hm.kp (thn (ha.run pos pins s1 σ H1 _ I1 q) ?_) hst hpl
  rintro us s2 ⟨vs, H2, I2, r, q2⟩
  exact ⟨I2.kIn, run_fnS (us := .ref a :: us) (vs := .ref a :: vs) F hr hb (hx σ) I2 (.cons rfl r) q2⟩
end
section
open PySem PySem.Spec PyProof.Rows L2
/-- isinstance(e, c), e a kept exception of an own class D with a dict -/
def rIsK (K : PySem.W.Frag) : List V → Hp → VK → Prop := fun xs H Q => ∃ (x D dd : Addr) (fs : List (Str × V)) (c : V) (cv : Value) (b : Bool), xs = [.ref x, c] ∧ ExcC K D ∧ H x = some (ExK (.ref D) (some dd) x) ∧ H dd = some (.xd fs) ∧ (∀ u, RelV c u → u = cv) ∧ PySem.W.kitOne K (.ref D) cv = some b ∧ Q (.bl b) H
theorem call_isK {X : Cx} : CallR X (.builtin "isinstance") (rIsK X.K) := by
  intro pins s σ H xs us Q I r h
  obtain ⟨x, D, dd, fs, c, cv, b, rfl, Z, ek, ed, hcv, e, q⟩ := h
  obtain ⟨oe, vs, there, ⟨zc, zd⟩, fv⟩ := exK_at I.hok ek
  obtain ⟨mA, ns, _⟩ : ∃ mA, s.heap.Ns1 dd mA ∧ ∀ g, RelO (fs.lookup g) (mA g) := I.hok dd _ ed
  obtain ⟨od, look, _⟩ := lookIn_ns ns
  have no : PySem.W.notCls oe = true := by unfold PySem.W.notCls; rw [fv] <;> rfl
  have at_ : PySem.W.InstAt s.heap x oe D (some od) := ⟨there, zc, no, by rw [zd]; exact look⟩
  have hcl : (PySem.W.clsIn X.K D).isSome = true := by
    obtain ⟨cd, hc, _⟩ := PySem.W.any_some Z.hd
    rw [hc]; rfl
  match us, r with
  | [_, u], .cons rx (.cons rc .nil) =>
    cases rx
    cases hcv _ rc
    exact PySem.W.kia_one (PySem.W.kitx_exc hcl Z.hg Z.hk Z.hs Z.ha Z.hn Z.ht Z.hm) I.kIn at_ e (fun z => nomatch z) fun tk => ⟨.bl b, H, I.kept (t' := tk) fun _ _ z => z, rfl, q⟩
end
/-! try: .. except (A, B, ..) as n: .., the caught one kept -/
namespace KT
open PySem PySem.Spec PyProof.Rows L2
section
variable {M : Model} {A : Around} {E : Value → Shared → Prop} {s : Shared}
theorem forIn_const {α β : Type} {f : α → β → Sem (ForInStep β)} {b : β} : ∀ {cs : List α} {Q : β → Shared → Prop}, (∀ c ∈ cs, ∀ Q' : ForInStep β → Shared → Prop, Q' (.yield b) s → wpAny M A (f c b) Q' E s) → Q b s → wpAny M A (forIn cs b f) Q E s
  | [], Q, _, q => by
    rw [List.forIn_nil]
    exact wpAny_pure q
  | c :: cs, Q, h, q => by
    rw [List.forIn_cons]
    exact wpAny_bind (h c (.head _) _ (forIn_const (fun d hd => h d (.tail _ hd)) q))
theorem forIn_stop {α β : Type} {f : α → β → Sem (ForInStep β)} {b0 b1 : β} {v : α → Bool} : ∀ {cs : List α} {Q : β → Shared → Prop}, (∀ c ∈ cs, ∀ Q' : ForInStep β → Shared → Prop, Q' (if v c = true then .done b1 else .yield b0) s → wpAny M A (f c b0) Q' E s) →
    Q (if cs.any v = true then b1 else b0) s → wpAny M A (forIn cs b0 f) Q E s
  | [], Q, _, q => by
    rw [List.forIn_nil]
    exact wpAny_pure q
  | c :: cs, Q, h, q => by
    rw [List.forIn_cons]
    refine wpAny_bind (h c (.head _) _ ?_)
    rw [List.any_cons] at q
    cases e : v c with
    | true =>
      rw [e] at q
      simp only [Bool.true_or, if_true] at q ⊢
      exact wpAny_pure q
    | false =>
      rw [e] at q
      simp only [Bool.false_or, Bool.false_eq_true, if_false] at q ⊢
      exact forIn_stop (fun d hd => h d (.tail _ hd)) q
end
def vOf (K : PySem.W.Frag) (cls : Value) (c : Value) : Bool := (PySem.W.exmOne K cls c).getD false
theorem any_each {K : PySem.W.Frag} {cls : Value} : ∀ {cs : List Value} {b : Bool}, PySem.W.exmAny K cls cs = some b → (∀ c ∈ cs, PySem.W.exmOne K cls c = some (vOf K cls c)) ∧ b = cs.any (vOf K cls)
  | [], b, h => by
    cases h
    exact ⟨fun c hc => absurd hc (by simp), rfl⟩
  | c :: cs, b, h => by
    obtain ⟨b1, d1, e1, e2, rfl⟩ := PySem.W.exmAny_cons h
    obtain ⟨i1, i2⟩ := any_each e2
    have e0 : vOf K cls c = b1 := by
      unfold vOf
      rw [e1] <;> rfl
    refine ⟨fun d hd => ?_, ?_⟩
    · rcases List.mem_cons.mp hd with rfl | hd
      · rw [e0]
        exact e1
      · exact i1 d hd
    · rw [List.any_cons, e0, i2]
open PySem.W in
theorem exm_tupN {M : Model} {K : PySem.W.Frag} {cs : List Value} {cls : Value} {tp e : Addr} {b : Bool} {h : Heap} (X : K.In h) (LT : Looks M h (typeOf (.ref e)) cls) (hp : h.get? tp = some { cls := .type "tuple", data := .seq cs.toArray }) (hx : exmAny K cls cs = some b) :
    Looks M h (excMatches (.ref e) (.ref tp)) b := by
  obtain ⟨h1, h2⟩ := any_each hx
  intro A Q E s k₀ q
  obtain ⟨hh, g, d, tk, os⟩ := s
  have k : ∀ b o, h.get? b = some o → hh.get? b = some o := k₀
  have LT0 : Looks M h (isInstance (.ref tp) (.type "tuple")) true := ((Looks.ld hp).andThen .now).andThen (Looks.of_pure isSubtype_tuple_tuple)
  have LT := LT.keeps k
  have LT0 := LT0.keeps k
  have hp' := k _ _ hp
  unfold excMatches
  refine wpAny_bind (LT0.at ?_)
  dsimp only
  rw [if_pos rfl]
  first
    | refine wpAny_bind (wpAny_seqItems hp' rfl ?_)
    | refine wpAny_bind (wpAny_bind (wpAny_seqItems hp' rfl (wpAny_pure ?_)))
  dsimp only [Option.getD_some, Option.getD]
  refine wpAny_bind (wpAny_pure ?_)
  refine wpAny_bind (forIn_const (fun c hc Q' q' => ?_) ?_)
  · have z := (exm_cls (M := M) X (h1 c hc)).1.keeps k
    refine wpAny_bind (z.at ?_)
    simp only [Bool.not_true, Bool.false_eq_true, if_false]
    exact wpAny_pure q'
  · refine wpAny_bind (LT.at ?_)
    refine wpAny_bind (forIn_stop (v := vOf K cls) (b1 := (some true, ())) (fun c hc Q' q' => ?_) ?_)
    · have z := (exm_cls (M := M) X (h1 c hc)).2.keeps k
      refine wpAny_bind (z.at ?_)
      cases e1 : vOf K cls c with
      | true =>
        rw [e1] at q'
        exact wpAny_pure q'
      | false =>
        rw [e1] at q'
        exact wpAny_pure q'
    · rw [← h2]
      cases b with
      | true => exact wpAny_pure q
      | false => exact wpAny_pure q
theorem flying_keeps {B h h' : Heap} {l : List Env} {e : Addr} {Z : Obj → Prop} (R : HandSPX.FlyingZ B l e Z h) (k : ∀ b o, h.get? b = some o → h'.get? b = some o) : HandSPX.FlyingZ B l e Z h' := by
  obtain ⟨f1, f2, f3, oe, ws, T, oT, ts, he, hc, hd, h1, hn, hne, hT, hdT, h3⟩ := R
  exact ⟨fun b o q => k b o (f1 b o q), f2, f3.of_keeps fun b o q _ => ⟨o, k b o q, rfl⟩, oe, ws, T, oT, ts, k _ _ he, hc, hd, h1, hn, hne, k _ _ hT, hdT, h3⟩
/-- names of a tuple of classes -/
inductive NL (X : Cx) : List Expr → List Value → Prop
  | nil : NL X [] []
  | cons {x : Str} {np : Pos} {c : Value} {es : List Expr} {cs : List Value} (hc : Names X x c) (r : NL X es cs) : NL X (.Name x np :: es) (c :: cs)
section
variable {X : Cx} {pins : List (Addr × Obj)} {σ : L2.St} {H : Hp} {cls : Value} {d : Option Addr} {a : Addr} {B : Heap} {sI t : Shared}
theorem down_keeps (z : Down X pins σ H cls d a B sI t) {h : Heap} (k : ∀ b o, t.heap.get? b = some o → h.get? b = some o) : Down X pins σ H cls d a B sI { t with heap := h } :=
  ⟨z.inv, z.gr, z.up.trans (Heap.UpToSlots.of_keeps k), flying_keeps z.fl k, z.na, z.so, z.ag⟩
theorem items (z : Down X pins σ H cls d a B sI t) {pos : Pos} {E : Value → Shared → Prop} : ∀ {es : List Expr} {cs : List Value} {Q : List Value → Shared → Prop}, NL X es cs → Q cs t →
    wpAny (model X.prog X.w) (X.A.mark (some (.ref a))) (spliced (backTo pos (starEach es X.env))) Q E t := by
  intro es cs Q n
  induction n generalizing Q with
  | nil => exact fun q => wpAny_items_nil q
  | cons hc r ih =>
    intro q
    have S := inv_suiteK z.here a
    obtain ⟨g, nd, h | ⟨h, v, nn⟩⟩ := hc
    · exact wpAny_items_cons (ld_glob S g h (ih q) nd)
    · exact wpAny_items_cons (ld_blt S g h v (ih q) nn nd)
theorem nl_len {es : List Expr} {cs : List Value} (n : NL X es cs) : es.length = cs.length := by
  induction n with
  | nil => rfl
  | cons _ _ ih => exact congrArg Nat.succ ih
theorem asks {es : List Expr} {cs : List Value} {b : Bool} {kk : Nat} {tpos : Pos} {Q : Bool → Shared → Prop} {E : Value → Shared → Prop} (z : Down X pins σ H cls d a B sI t) (n : NL X es cs) (hl : es.length ≤ sizeLine) (hb : PySem.W.exmAny X.K cls cs = some b)
    (q : ∀ h, (∀ b o, t.heap.get? b = some o → h.get? b = some o) → Q b { t with heap := h }) :
    wpAny (model X.prog X.w) (X.A.mark (some (.ref a))) (eval (.Tuple es kk tpos) X.env) (fun v s1 => wpAny (model X.prog X.w) (X.A.mark (some (.ref a))) (excMatches (.ref a) v) Q E s1) E t := by
  obtain ⟨oe, vs, he, hz, hd⟩ := z.fl.there
  have ty : PySem.W.Looks (model X.prog X.w) t.heap (typeOf (.ref a)) cls := by
    intro A Q E s k q
    exact wpAny_typeOf_ref (k _ _ he) (hz.1 ▸ q)
  refine wpAny_Tuple (items z n ⟨by rw [← nl_len n]; exact hl, ?_⟩)
  have kp : ∀ b o, t.heap.get? b = some o → (t.heap.push { cls := .type "tuple", data := .seq cs.toArray }).get? b = some o := fun _ _ e => Heap.get?_push_of_some _ e
  exact (exm_tupN (z.here.kIn.keeps kp) (ty.keeps kp) (Heap.get?_push_size t.heap rfl) hb).here (q _ kp)
end
/-- the clauses of a try: except (A, B, ..) as n -/
inductive HKT (X : Cx) : List ExceptHandler → List (List Value × Nat × (Addr → Value → Option Addr → TS)) → Prop
  | nil : HKT X [] []
  | named {n : Str} {es : List Expr} {cs : List Value} {i kk : Nat} {ts : Addr → Value → Option Addr → TS} {b0 : Stmt} {suite : List Stmt} {tpos pos : Pos} {hds : List ExceptHandler} {l : List (List Value × Nat × (Addr → Value → Option Addr → TS))}
      (hc : NL X es cs) (hl : es.length ≤ sizeLine) (hi : X.N[i]? = some n) (hk : X.env.kindOf n = some .local) (su : ∀ (a : Addr) (cls : Value) (d : Option Addr) (pn : List (Addr × Obj)), PSs (X.suite a pn) (b0 :: suite) (ts a cls d)) (r : HKT X hds l) :
      HKT X (.ExceptHandler (some (.Tuple es kk tpos)) (some n) (b0 :: suite) pos :: hds) ((cs, i, ts) :: l)
def wHKT (K : PySem.W.Frag) (W : WX) (D : Ends) : List (List Value × Nat × (Addr → Value → Option Addr → TS)) → WX
  | [] => W
  | (cs, i, ts) :: l => fun cls d σ H => ∃ b, PySem.W.exmAny K cls cs = some b ∧ (b = true → ∀ a, H a = none → ts a cls d (offAt i D) (σ.set i (some (.ref a))) (upd H a (ExK cls d a))) ∧ (b = false → wHKT K W D l cls d σ H)
section
variable {X : Cx} {W : WX} {D : Ends} {hds : List ExceptHandler} {l : List (List Value × Nat × (Addr → Value → Option Addr → TS))}
theorem handledT (hs : X.stack = X.env :: X.outer) (hf : X.env.frame = some X.env.locals) (hN : X.N.Nodup) (tk : Takes X W) (hh : HKT X hds l) :
    ∀ {pins : List (Addr × Obj)} {σ : L2.St} {H : Hp} {cls : Value} {d : Option Addr} {a : Addr} {B : Heap} {sI t : Shared}, Down X pins σ H cls d a B sI t → wHKT X.K W D l cls d σ H →
      wpAny (model X.prog X.w) X.A (handleBy (.ref a) X.env hds) (SP X pins D) X.xe t := by
  induction hh with
  | nil =>
    intro pins σ H cls d a B sI t z w
    have go : wpAny (model X.prog X.w) X.A (setFlight (.ref a) X.env.frame) (fun _ s4 => wpAny (model X.prog X.w) X.A (throw (.ref a) : Sem Flow) (SP X pins D) X.xe s4) X.xe t := by
      rw [hf]
      refine HandSPX.setFlight_upZ z.fl fun h hh u => ?_
      refine wpAny_throw (tk _ _ ?_)
      exact ⟨a, B, sI, pins, σ, H, cls, d, rfl, z.inv, z.gr, z.up.trans u, .inr (.inr (hs ▸ hh)), z.na, z.so, z.ag, w⟩
    obtain ⟨_, _, _, oe, vs, T, _, _, he, _, hd, h1, _⟩ := id z.fl
    apply wpAny_handleBy_nil
    unfold PySem.passOn
    apply wpAny_bind
    apply wpAny_field he hd h1
    rw [if_neg (by simp)]
    first
      | exact wpAny_bind (wpAny_pure (wpAny_bind go))
      | exact wpAny_bind go
  | @named n es cs i kk ts b0 suite tpos pos hds l hc hl hi hk su r ih =>
    intro pins σ H cls d a B sI t z w
    obtain ⟨b, hb, yes, no⟩ := w
    refine wpAny_handleBy_cons (codeAny_handlers_test (asks z hc hl hb fun h kp => ?_)) fun q => by cases q
    have z := down_keeps z kp
    cases b with
    | false => exact ih z (no rfl)
    | true =>
      refine codeAny_handlers_suite_as (HandSPX.lands_againZ z.fl fun h f u => ?_)
      have S := inv_suiteK ((z.again f u).kept hs hf) a
      refine store_ok (X := X.suite a (X.pn ++ pins)) (v := .ref a) S hN hi (.inl hk) rfl (fun s5 S5 => ?_) (.inr hk)
      refine wpAny_mono ((su a cls d (X.pn ++ pins)).run [] s5 _ _ _ S5 (yes rfl a z.na)) (fun fl s6 e6 => ?_) fun _ _ q => q.elim
      cases fl with
      | next => obtain ⟨σ6, H6, S6, q6⟩ := e6; exact gone_ok (inv_unsuiteK S6 z.inv.ok) hN hi hk fun s7 J7 => ⟨_, _, J7, q6⟩
      | brk => obtain ⟨σ6, H6, S6, q6⟩ := e6; exact gone_ok (inv_unsuiteK S6 z.inv.ok) hN hi hk fun s7 J7 => ⟨_, _, J7, q6⟩
      | cont => obtain ⟨σ6, H6, S6, q6⟩ := e6; exact gone_ok (inv_unsuiteK S6 z.inv.ok) hN hi hk fun s7 J7 => ⟨_, _, J7, q6⟩
      | ret u => obtain ⟨v6, σ6, H6, S6, r6, q6⟩ := e6; exact gone_ok (inv_unsuiteK S6 z.inv.ok) hN hi hk fun s7 J7 => ⟨_, _, _, J7, r6, q6⟩
theorem ps_tryT {body : List Stmt} {h0 : ExceptHandler} {pos : Pos} {tb : WX → TS} (hs : X.stack = X.env :: X.outer) (hf : X.env.frame = some X.env.locals) (hN : X.N.Nodup) (tk : Takes X W) (hh : HKT X (h0 :: hds) l)
    (hb : ∀ (V : WX) (pn : List (Addr × Obj)) (xe : Value → Shared → Prop), Takes (X.tr pn xe) V → PassesOwn (model X.prog X.w) X.A X.env xe → PSs (X.tr pn xe) body (tb V)) :
    PS X (.Try body (h0 :: hds) [] [] pos) (fun D σ H => tb (wHKT X.K W D l) D σ H) := by
  constructor
  intro pins s σ H D I h
  have fr : X.A.frames = some (X.env :: X.outer) := hs ▸ I.ok.frames
  apply wpAny_Try_except
  let xe : Value → Shared → Prop := fun e s1 => wpAny (model X.prog X.w) X.A (noteFrame e X.env) (fun _ s2 => wpAny (model X.prog X.w) X.A (setFlight e none) (fun _ s3 =>
    wpAny (model X.prog X.w) X.A (handleBy e X.env (h0 :: hds)) (SP X pins D) X.xe s3) X.xe s2) X.xe s1
  have T : Takes (X.tr (X.pn ++ pins) xe) (wHKT X.K W D l) := fun u t y => by
    obtain ⟨a, B, sI, _, σ1, H1, cls, d, rfl, J, gr, up, sky, na, so, ag, w⟩ := y
    have sky1 : Sky B (X.env :: X.outer) a (Zc cls d) X.env.locals t.heap := hs ▸ sky
    exact Sky.land Zc.steady fr hf sky1 fun h3 f3 u3 => handledT hs hf hN tk hh ⟨J.ofTry I.ok, gr, up.trans u3, f3, na, so, ag⟩ w
  refine wpAny_mono ((hb (wHKT X.K W D l) (X.pn ++ pins) xe T PassesOwn.looking).run [] s σ H D (I.toTry _) h) (fun f s1 e => ?_) fun _ _ q => q
  cases f with
  | next => obtain ⟨σ1, H1, J, q⟩ := e; exact wpAny_execs_nil ⟨σ1, H1, J.ofTry I.ok, q⟩
  | brk => obtain ⟨σ1, H1, J, q⟩ := e; exact ⟨σ1, H1, J.ofTry I.ok, q⟩
  | cont => obtain ⟨σ1, H1, J, q⟩ := e; exact ⟨σ1, H1, J.ofTry I.ok, q⟩
  | ret u => obtain ⟨v, σ1, H1, J, r, q⟩ := e; exact ⟨v, σ1, H1, J.ofTry I.ok, r, q⟩
end
end KT
namespace XB
open PySem PySem.Spec PyProof.Rows PySem.Builtin PySem.Builtin.ObjectAttr
/-- what is asked of a built-in error class that own ones stand under: B the one whose __new__ makes them, bm the line of the one they stand under -/
structure Facts (B newId initId : String) (bm : List Value) : Prop where
  base : ∃ bmB, ExcBaseFacts B newId initId bmB
  hB : bm.contains (.type B) = true
  hA : bm.contains (.type "AttributeError") = false
  hN : bm.contains (.type "NameError") = false
  free : ∀ self : Value, refuseLoop self "__setattr__" bm = pure ()
  thing : bm.contains (.type "object") = true
theorem lookupError : Facts "LookupError" "LookupError.__new__" "LookupError.__init__" [.type "LookupError", .type "Exception", .type "BaseException", .type "object"] := ⟨⟨_, PySem.F.excBase_LookupError⟩, by decide +kernel, by decide +kernel, by decide +kernel, fun _ => by kernel_rfl, by decide +kernel⟩
theorem runtimeError : Facts "RuntimeError" "RuntimeError.__new__" "RuntimeError.__init__" [.type "RuntimeError", .type "Exception", .type "BaseException", .type "object"] := ⟨⟨_, PySem.F.excBase_RuntimeError⟩, by decide +kernel, by decide +kernel, by decide +kernel, fun _ => by kernel_rfl, by decide +kernel⟩
theorem indexError : Facts "IndexError" "IndexError.__new__" "IndexError.__init__" [.type "IndexError", .type "LookupError", .type "Exception", .type "BaseException", .type "object"] := ⟨⟨_, PySem.F.excBase_IndexError⟩, by decide +kernel, by decide +kernel, by decide +kernel, fun _ => by kernel_rfl, by decide +kernel⟩
theorem valueError : Facts "ValueError" "ValueError.__new__" "ValueError.__init__" [.type "ValueError", .type "Exception", .type "BaseException", .type "object"] := ⟨⟨_, PySem.F.excBase_ValueError⟩, by decide +kernel, by decide +kernel, by decide +kernel, fun _ => by kernel_rfl, by decide +kernel⟩
/-- under an own class that stands there -/
theorem Facts.under {W : Addr} {B newId initId : String} {bm : List Value} (T : Facts B newId initId bm) : Facts B newId initId (.ref W :: bm) :=
  ⟨T.base, by rw [List.contains_cons, T.hB, Bool.or_true], by rw [List.contains_cons, T.hA]; rfl, by rw [List.contains_cons, T.hN]; rfl, fun self => by rw [refuseLoop_ref]; exact T.free self, by rw [List.contains_cons, T.thing, Bool.or_true]⟩
/-- a KeyError has no __new__ of its own -/
theorem keyError : Facts "LookupError" "LookupError.__new__" "LookupError.__init__" [.type "KeyError", .type "LookupError", .type "Exception", .type "BaseException", .type "object"] := ⟨⟨_, PySem.F.excBase_LookupError⟩, by decide +kernel, by decide +kernel, by decide +kernel, fun _ => by kernel_rfl, by decide +kernel⟩
section
variable {prog : Program} {w : World} {A : Around} {E : Value → Shared → Prop} {R : Result → Shared → Prop} {h : Heap} {g : Array GenState} {d : Drawn} {t : Nat} {os : OsState}
variable {nm q : Str} {C N : Addr} {bs bm : List Value} {hdct : Bool} {sn : List Str} {sub : List Value} {ab : Bool} {col : Option Bool} {dd : Option Addr} {k0 k1 k2 k3 k5 : Option Value} {B newId initId : String}
/-- the new one is laid by __new__ -/
theorem mk_new (T : Facts B newId initId bm) {rest : List Value} (hC : h.get? C = some (excClassObj nm q C N bs bm hdct sn sub ab col dd k0 k1 k2 k3 k5 newId)) (few : rest.length ≤ sizeLine)
    (go : R (.ok (.ret (.ref (h.objs.size + 1)))) ⟨(h.push (W.kdv_tup rest)).push (PySem.HandSPX.excO C h.objs.size), g, d, t, os⟩) : codeAny (model prog w) A (.builtin newId ⟨.ref C :: rest, []⟩) R ⟨h, g, d, t, os⟩ := by
  obtain ⟨bmB, F⟩ := T.base
  have e1 : (Value.ref C :: bm).contains (.type B) = true := by rw [List.contains_cons, T.hB, Bool.or_true]
  have e2 : (Value.ref C :: bm).contains (.type "AttributeError") = false := by rw [List.contains_cons, T.hA]; rfl
  have e3 : (Value.ref C :: bm).contains (.type "NameError") = false := by rw [List.contains_cons, T.hN]; rfl
  have e4 := F.ends
  refine codeAny_builtinAt F.entry ?_
  unfold Builtin.«BaseException.__new__»
  refine PySem.wpAt_bind (?_ : PySem.wpAt _ _ _ (stack >>= _) _ _ _)
  refine PySem.wpAt_bind (PySem.wpAt_stack fun _ _ => PySem.wpAt_of_wpAny ?_)
  wp_walk
  refine PySem.wpAt_of_wpAny (?_)
  rw [F.owner]
  repeat (first | (with_reducible refine wpAny_madeHere_exc F.canon hC ?_) | (with_reducible refine wpAny_loadPart_at hC ?_) | (with_reducible refine wpAny_isSubtype_exc hC ?_; (first | rw [e1] | rw [e2] | rw [e3])) | wp_step)
  show R _ _
  rw [Heap.size_push]
  exact go
theorem chk_new (T : Facts B newId initId bm) {rest : List Value} {Q : Unit → Shared → Prop} (hC : h.get? C = some (excClassObj nm q C N bs bm hdct sn sub ab col dd k0 k1 k2 k3 k5 newId)) (go : Q () ⟨h, g, d, t, os⟩) :
    wpAny (model prog w) A (checkBuiltinCall newId ⟨.ref C :: rest, []⟩) Q E ⟨h, g, d, t, os⟩ := by
  obtain ⟨bmB, F⟩ := T.base
  have e1 : (Value.ref C :: bm).contains (.type B) = true := by rw [List.contains_cons, T.hB, Bool.or_true]
  have e4 := F.noStar
  simp only [checkBuiltinCall, F.newRow, F.newSplit, F.newKind]
  repeat (first | refine wpAny_loadPart_at hC ?_ | (refine wpAny_isSubtype_exc hC ?_; (rw [e1])) | refine wpAny_madeBy_exc hC ?_ | refine wpAny_staticBase_exc hC ?_ | (simp only [bne_self_eq_false, Bool.false_eq_true, if_false]) | wp_step)
  exact go
theorem call_typ (T : Facts B newId initId bm) {rest : List Value} {fI : Addr} {Q : Fin → Shared → Prop} (hC : h.get? C = some (excClassObj nm q C N bs bm hdct sn sub ab col dd k0 k1 k2 k3 k5 newId)) (few : rest.length ≤ sizeLine)
    (hi : W.Looks (model prog w) h (typeLookup (.ref C) "__init__") (some (.ref fI))) (hb : ∀ self, W.Looks (model prog w) h (bindSpecial (.ref fI) self) (.ref fI, [self]))
    (go : codeAny (model prog w) A (.call (.ref fI) ⟨.ref (h.objs.size + 1) :: rest, []⟩) (fun r s' => match r with | .ok (.ret v) => v = .none ∧ Q (.done (.ret (.ref (h.objs.size + 1)))) s' | .ok _ => False | .error e => E e s') ⟨(h.push (W.kdv_tup rest)).push (PySem.HandSPX.excO C h.objs.size), g, d, t, os⟩) :
    wpAny (model prog w) A (Builtin.«type.__call__» ⟨.ref C :: rest, []⟩) Q E ⟨h, g, d, t, os⟩ := by
  obtain ⟨bmB, F⟩ := T.base
  repeat (first | (with_reducible refine wpAny_loadPart_at hC ?_) | (with_reducible refine wpAny_madeBy_exc hC ?_) | wp_step)
  refine codeAny_call_builtin_code (Code.quiet_builtin _ F.quiet) (chk_new T hC (mk_new T hC few ?_))
  show wpAny _ _ _ _ _ _
  have up : ∀ b o, h.get? b = some o → ((h.push (W.kdv_tup rest)).push (PySem.HandSPX.excO C h.objs.size)).get? b = some o := fun _ _ z => Heap.get?_push_of_some _ (Heap.get?_push_of_some _ z)
  have hC1 := up _ _ hC
  have at1 : ((h.push (W.kdv_tup rest)).push (PySem.HandSPX.excO C h.objs.size)).get? (h.objs.size + 1) = some (PySem.HandSPX.excO C h.objs.size) := by heap_get
  have e1 : (Value.ref C :: bm).contains (.ref C) = true := by simp
  have i1 := hi.keeps up
  have b1 := (hb (.ref (h.objs.size + 1))).keeps up
  unfold isInstance
  repeat (first | (with_reducible refine wpAny_loadPart_at at1 ?_) | (with_reducible refine wpAny_isSubtype_exc hC1 ?_; (rw [e1])) | wp_step)
  refine (i1.at ?_ : wpAny _ _ (typeLookup (.ref C) _) _ _ _)
  refine wpAny_holding (wpAny_bind (b1.at (wpAny_bind (wpAny_call (codeAny_mono go fun r s' z => ?_)))))
  rcases r with e | (v | _ | _ | _) <;> first | exact z.elim | exact z | skip
  obtain ⟨rfl, z⟩ := z
  first | exact wpAny_pure (wpAny_pure z) | (wp_walk; exact z)
theorem call_cls (T : Facts B newId initId bm) {rest : List Value} {fI : Addr} (hC : h.get? C = some (excClassObj nm q C N bs bm hdct sn sub ab col dd k0 k1 k2 k3 k5 newId))
    (hi : W.Looks (model prog w) h (typeLookup (.ref C) "__init__") (some (.ref fI))) (hb : ∀ self, W.Looks (model prog w) h (bindSpecial (.ref fI) self) (.ref fI, [self])) (few : rest.length ≤ sizeLine)
    (go : codeAny (model prog w) (A.under (.builtin "type.__call__" ⟨.ref C :: rest, []⟩)) (.call (.ref fI) ⟨.ref (h.objs.size + 1) :: rest, []⟩) (W.InitBack (h.objs.size + 1) R) ⟨(h.push (W.kdv_tup rest)).push (PySem.HandSPX.excO C h.objs.size), g, d, t, os⟩) :
    codeAny (model prog w) A (.call (.ref C) ⟨rest, []⟩) R ⟨h, g, d, t, os⟩ := by
  have z1 := tc_lookup
  have z2 := tc_bind (.ref C)
  have z3 : (⟨h, g, d, t, os⟩ : Shared).TypeIs (.ref C) "type" := ⟨_, hC, rfl⟩
  refine codeAny_of_tree (?_ : wpAny _ _ (callAny (.ref C) _) _ _ _)
  repeat (any_goals (first | assumption | (with_reducible refine wpAny_loadPart_at hC ?_) | wp_step))
  refine ⟨rfl, codeAny_call_builtin_at (Code.quiet_builtin _ (by decide +kernel)) entry_typeCall (wpAny_check_type_call_sub hC (call_typ T hC few hi hb ?_))⟩
  refine codeAny_mono go fun r s' z => ?_
  rcases r with e | (v | _ | _ | _) <;> exact z
end
/-- the first field of a new error, whatever built-in class its own class stands under -/
theorem first_field {prog : Program} {w : World} {A : Around} {R : Result → Shared → Prop} {h : Heap} {g : Array GenState} {d : Drawn} {t : Nat} {os : OsState} {K : W.Frag} {name : Str} {tk : Tok} {v : Value} {x C : Addr} {fv : Array Value} {cd : ClassData}
    (X : K.In h) (hx : h.get? x = some { cls := .ref C, data := .fields fv }) (hcd : W.clsIn K C = some cd) (some_ : cd.mro.isEmpty = false) (thing : cd.mro.contains (.type "object") = true) (free : ∀ self : Value, refuseLoop self "__setattr__" cd.mro = pure ())
    (own : cd.hasDict = true) (no : W.findIn K (.ref C) name = some none)
    (q : ∀ h' tk' dx, (∀ b o, b ≠ x → h.get? b = some o → h'.get? b = some o) → h.objs.size ≤ dx → dx ≠ x → h'.get? x = some { cls := .ref C, dict := some dx, data := .fields fv } → h'.Ns1 dx (fun y => if y = name then some v else none) → R (.ok (.ret .none)) ⟨h', g, d, tk', os⟩) :
    codeAny (model prog w) A (.call (.builtin "object.__setattr__") ⟨[.ref x, .str name tk, v], []⟩) R ⟨h, g, d, t, os⟩ := by
  have at_ : W.InstAt h x { cls := .ref C, data := .fields fv } C none := ⟨hx, rfl, rfl, trivial⟩
  have apart : x ≠ h.objs.size := Nat.ne_of_lt (Heap.lt_size hx)
  have class_ : W.Looks (model prog w) h (classData C) cd := W.looks_clsIn X hcd
  have line_ : W.Looks (model prog w) h (mroOf (.ref C)) cd.mro := class_.andThen .now
  have under : W.Looks (model prog w) h (isInstance (.ref x) (.type "object")) true := at_.type.andThen (W.looks_mroIn X (by unfold W.mroIn; rw [hcd, Option.bind_some, if_neg (by rw [some_]; decide), thing]))
  have st := PySem.F.store_object
  refine codeAny_call_builtin st.slot.plain st.entry (@W.check_slot (model prog w) _ _ ⟨h, g, d, t, os⟩ "object.__setattr__" "object" "__setattr__" (.ref x) [.str name tk, v] [] _ st.kind st.split under (st.args (.ref x) (.str name tk) v) ?_)
  have none_ : W.Looks (model prog w) h (storeTaker? none) none := .now
  rw [W.osa_eq, refuse_eq]
  refine wpAny_bind (wpAny_bind (at_.type.at (wpAny_bind (line_.at ?_))))
  rw [free]
  refine wpAny_pure ?_
  refine wpAny_bind (at_.type.at (wpAny_bind ((W.looks_findIn X no).at (wpAny_bind (none_.at ?_)))))
  show wpAny _ _ (storeInOwnDict (.ref x) (.ref C) (.str name tk) name v false) _ _ _
  cases cd
  cases own
  unfold storeInOwnDict ownDictForStores
  repeat (first | with_reducible refine PySem.HandSPX.store_in_new ?_ ?_ | with_reducible refine wpAny_loadPart_at hx ?_ | with_reducible refine class_.at ?_ | wp_step)
  · exact ⟨_, #[], _, (Heap.get?_update_ne _ _ _ _ apart.symm).trans (Heap.get?_push_at rfl rfl), rfl, fun e he => absurd he (by simp), fun _ => rfl⟩
  · intro h' tk' new only
    have hx1 : (h.push { cls := .type "dict", data := .dict #[] }).get? x = some { cls := .ref C, data := .fields fv } := Heap.get?_push_of_some _ hx
    exact q h' tk' h.objs.size (fun b o nb ob => (only.2 b (Nat.ne_of_lt (Heap.lt_size ob))).trans ((Heap.get?_update_ne _ _ _ _ nb).trans (Heap.get?_push_of_some _ ob))) (Nat.le_refl _) apart.symm ((only.2 x apart).trans (Heap.get?_update_self _ hx1 rfl)) new

open L2
/-- what the written part says of an own error class that stands straight under a built-in one -/
structure Own (K : PySem.W.Frag) (C : Addr) (B newId initId : String) (bm : List Value) : Prop where
  fx : Facts B newId initId bm
  cls : ∃ nm q N bs sn sub ab col dd k0 k1 k2 k3 k5, K.lookup C = some (excClassObj nm q C N bs bm true sn sub ab col dd k0 k1 k2 k3 k5 newId)
  sa : PySem.W.findIn K (.ref C) "__setattr__" = some (some (.builtin "object.__setattr__"))
  exC : PySem.W.subIn K (.ref C) (.type "BaseException") = some true
  tyC : PySem.W.typeIn K (.ref C) = some (.type "type")
  kC : PySem.W.keepIn K (.ref C) = true
section
variable {X : Cx} {pins : List (Addr × Obj)} {σ : L2.St} {H : Hp} {s : Shared} {a C : Addr} {f : Str} {y : V} {u : Value} {Q : Unit → Shared → Prop} {E : Value → Shared → Prop} {A : Around} {B newId initId : String} {bm : List Value}
/-- self.f = y of a new error that has no field yet -/
theorem put_first (T : Own X.K C B newId initId bm) (I : Inv X pins σ H s) (e : H a = some (exo a C none)) (no : PySem.W.findIn X.K (.ref C) f = some none) (ry : RelV y u)
    (q : ∀ dx s', H dx = none → dx ≠ a → Inv X pins σ (upd (upd H dx (exd dx [(f, y)])) a (exo a C (some dx))) s' → Q () s') : wpAny (model X.prog X.w) A (setAttr (.ref a) f u) Q E s := by
  obtain ⟨nm, qn, N, bs, sn, sub, ab, col, dd, k0, k1, k2, k3, k5, hC⟩ := T.cls
  have cl : PySem.W.clsIn X.K C = some { name := nm, bases := bs, mro := .ref C :: bm, ns := N, qualname := qn, hasDict := true, slotNames := sn, subclasses := sub, abstract := ab, collection := col, hasDel := false } := by
    unfold PySem.W.clsIn
    rw [hC] <;> rfl
  obtain ⟨t1, there⟩ := exo_at I.hok e
  obtain ⟨h, g, d, t, os⟩ := s
  refine PySem.W.set_plain I.kIn (ox := { cls := .ref C, dict := none, data := .fields #[.ref t1, .none, .none, .none, .bool false, .none] }) (od := none) ⟨there, rfl, rfl, trivial⟩ T.sa ?_
  refine first_field I.kIn there cl rfl (by show (Value.ref C :: bm).contains _ = true; rw [List.contains_cons, T.fx.thing, Bool.or_true]) (fun self => by show refuseLoop self _ (.ref C :: bm) = _; rw [refuseLoop_ref]; exact T.fx.free self) rfl no ?_
  intro h' tk' dx keep new na here ns
  have fresh : H dx = none := I.hok.fresh new
  have off : ∀ {b : Addr} {o : Obj}, h.get? b = some o → b ≠ dx := fun z => Nat.ne_of_lt (Nat.lt_of_lt_of_le (Heap.lt_size z) new)
  have other : ∀ {b : Addr}, H b = none → b ≠ a := fun n z => by
    rw [z, e] at n
    cases n
  have two : ∀ {b : Addr}, b ≠ a → b ≠ dx → (upd (upd H dx (exd dx [(f, y)])) a (exo a C (some dx))) b = H b := fun n1 n2 => by rw [upd_ne n1, upd_ne n2]
  refine q dx _ fresh na (I.un (t' := tk') ⟨fun b o z n _ _ => keep b o (other n) z, fun b o z n _ _ => ⟨o.slots, keep b o (other n) z⟩, fun b o z n _ => by rw [two (other n) (off z)]; exact n, fun b o z _ => ?_,
    fun b xs z => by rw [two (at_ne e z exo_tup) (ne_of_none z fresh)]; exact z, fun b o v z => by rw [two (at_ne e z exo_frz) (ne_of_none z fresh)]; exact z, fun b ps z => ⟨#[], by rw [two (at_ne e z exo_tbl) (ne_of_none z fresh), z]; simp⟩⟩ fun b o z => ?_)
  · by_cases c : b = a
    · exact ⟨_, by rw [c]; exact here⟩
    · exact ⟨o, keep b o c z⟩
  · by_cases c : b = a
    · subst c
      rw [upd_same] at z
      cases z
      exact exo_ok here
    · by_cases c2 : b = dx
      · subst c2
        rw [upd_ne c, upd_same] at z
        cases z
        exact exd_ok ns (relO_put (fs := []) ry fun g => True.intro)
      · rw [two c c2] at z
        refine (I.hok b o z).stay (fun b' v hb z' => keep b' v ?_ z') (fun b' hb => by rw [two (at_ne e hb exo_own) (ne_of_none hb fresh)]; exact hb) (fun b' xs hb => by rw [two (at_ne e hb exo_tup) (ne_of_none hb fresh)]; exact hb)
        rcases hb with hb | hb
        · rw [hb]
          exact c
        · exact at_ne e hb exo_own
end
/-- self.f = e in the own __init__, the first one -/
def tPut (K : PySem.W.Frag) (C : Addr) (f : Str) (to te : TE) : TS := fun D σ H => te σ H fun y H1 => to σ H1 fun x H2 => ∃ a : Addr, x = .ref a ∧ H2 a = some (exo a C none) ∧ ∀ dx, H2 dx = none → dx ≠ a → D.nx σ (upd (upd H2 dx (exd dx [(f, y)])) a (exo a C (some dx)))
section
variable {X : Cx} {C : Addr} {B newId initId : String} {bm : List Value} {o e : Expr} {es : List Expr} {to te : TE} {ta : TA} {f : Str} {p p' pos : Pos}
theorem ps_put (T : Own X.K C B newId initId bm) (no : PySem.W.findIn X.K (.ref C) f = some none) (ho : PE X o to) (he : PE X e te) (hs : swapsWith e (some (.Attribute o f p')) pos.line X.env = pure false := by rfl) : PS X (.Assign [.Attribute o f p'] e pos) (tPut X.K C f to te) := by
  constructor
  intro pins s σ H D I h
  refine plainObj_wpAny_Assign_Attribute (thn (he.run pins s σ H _ I h) ?_) hs
  rintro v s1 ⟨y, H1, I1, r1, q1⟩
  refine thn (ho.run pins s1 σ H1 _ I1 q1) ?_
  rintro u s2 ⟨x, H2, I2, r2, a, rfl, ea, q⟩
  cases r2
  exact put_first T I2 ea no r1 fun dx s' n ne J => ⟨σ, _, J, q dx n ne⟩
/-- C(e, ..) of such a class, to be raised -/
theorem pmk {CX : CXT} {x : Str} {fI : Addr} {k : Nat} {fd : FuncData} {ps : List Str} {sp : Sp} (T : Own X.K C B newId initId bm) (iC : PySem.W.findIn X.K (.ref C) "__init__" = some (some (.ref fI))) (tI : PySem.W.typeIn X.K (.ref fI) = some (.type "function"))
    (F1 : FnOk X.prog X.w X.K X.mg X.base CX k fI fd ps sp) (hr : Room (k + 1) X.A) (hb : Binds X.K fd ps []) (hx : Passes CX X (fun _ _ _ => False)) (hg : Gl X x) (hm : X.mg x = some (.ref C)) (ha : PA X (e :: es) ta)
    (hdb : (x == ("__debug__" : Str)) = false := by decide) (he : starEach (e :: es) X.env = (false, eval e X.env) :: starEach es X.env := by rfl) (hpl : (backTo pos (starEach es X.env)).any (·.1) = false := by rfl) :
    PMk X (.Call (.Name x p) (e :: es) [] pos) (tMkO C sp [] ta) := by
  intro pins s σ H Q I h
  obtain ⟨nm, qn, N, bs, sn, sub, ab, col, dd, k0, k1, k2, k3, k5, hC⟩ := T.cls
  refine wpAny_Call_Name_kw (ld_glob I hg hm ?_ hdb)
  refine PySem.W.callWith_K (h₀ := X.base) I.ok.mod.kin T.kC (thn (ha.run pos pins s σ H _ I h) ?_) he hpl
  rintro us ⟨hp, g, dr, tk, os⟩ ⟨vs, H1, I1, r1, hz, q1⟩
  refine ⟨I1.kIn, ?_⟩
  have new : hp.objs.size ≤ hp.objs.size + 1 := Nat.le_succ _
  have hq := q1 (hp.objs.size + 1) (I1.hok.fresh new)
  have grow : ∀ b o, hp.get? b = some o → ((hp.push (PySem.W.kdv_tup us)).push (PySem.HandSPX.excO C hp.objs.size)).get? b = some o := fun b o z => Heap.get?_push_of_some _ (Heap.get?_push_of_some _ z)
  have there : ((hp.push (PySem.W.kdv_tup us)).push (PySem.HandSPX.excO C hp.objs.size)).get? (hp.objs.size + 1) = some (PySem.HandSPX.excO C hp.objs.size) := by heap_get
  have I2 := I1.laid (t' := tk) (a := hp.objs.size + 1) (o := exo (hp.objs.size + 1) C none) (h' := (hp.push (PySem.W.kdv_tup us)).push (PySem.HandSPX.excO C hp.objs.size)) grow new (exo_ok there)
  rw [List.append_nil] at hq
  have r2 : Vals (V.ref (hp.objs.size + 1) :: vs) (Value.ref (hp.objs.size + 1) :: us) := .cons rfl r1
  have len : (Value.ref (hp.objs.size + 1) :: us ++ []).length = ps.length := by
    have z := r2.length
    rw [F1.len _ _ _ _ hq] at z
    rw [List.append_nil]
    exact z.symm
  have few : us.length ≤ sizeLine := by
    rw [← Paired.length r1, sizeLine_eq]
    omega
  have bd := hb _ (Value.ref (hp.objs.size + 1) :: us) I2.kIn len
  rw [List.append_nil] at bd
  refine wpAny_call (call_cls T.fx (I1.kIn _ _ hC) (PySem.W.looks_findIn I1.kIn iC) (fun self => PySem.W.bind_fn I1.kIn self tI) few
    (codeAny_mono (F1.run _ X.stack _ _ ⟨Value.ref (hp.objs.size + 1) :: us, []⟩ (Value.ref (hp.objs.size + 1) :: us) _ _ (fun _ _ _ => False) (hr.make C us []) (I2.env0.make C us []) bd r2 hq) fun r s' z => ?_))
  cases r with
  | error er => exact hx pins σ _ _ er s' I2 z
  | ok fl =>
    cases fl with
    | ret u =>
      obtain ⟨v, H2, os2, bare2, un2, hok2, rv, ev, d, fs, ea, ed, hd1, q2⟩ := z
      cases ev
      obtain ⟨h2, g2, d2, t2, os'⟩ := s'
      exact ⟨rv, mk_end (raises_own T.exC T.tyC) I1 new grow un2 hok2 os2 bare2 ea ed hd1 q2⟩
    | next => exact z.elim
    | brk => exact z.elim
    | cont => exact z.elim
end
end XB
namespace XB
open PySem PySem.Spec PyProof.Rows PySem.Builtin PySem.Builtin.ObjectAttr
/-- a further field of a new error -/
theorem next_field {prog : Program} {w : World} {A : Around} {R : Result → Shared → Prop} {h : Heap} {g : Array GenState} {d : Drawn} {t : Nat} {os : OsState} {K : W.Frag} {name : Str} {tk : Tok} {v : Value} {x C dx : Addr} {fv : Array Value} {cd : ClassData} {m0 : Str → Option Value} {nl : List Str}
    (X : K.In h) (hx : h.get? x = some { cls := .ref C, dict := some dx, data := .fields fv }) (hns : h.Ns1 dx m0) (hw : Within m0 nl) (hz : nl.length ≤ 1000) (hcd : W.clsIn K C = some cd) (some_ : cd.mro.isEmpty = false) (thing : cd.mro.contains (.type "object") = true)
    (free : ∀ self : Value, refuseLoop self "__setattr__" cd.mro = pure ()) (own : cd.hasDict = true) (no : W.findIn K (.ref C) name = some none)
    (q : ∀ h' tk', (∀ b o, b ≠ dx → h.get? b = some o → h'.get? b = some o) → h'.Ns1 dx (fun y => if y = name then some v else m0 y) → R (.ok (.ret .none)) ⟨h', g, d, tk', os⟩) :
    codeAny (model prog w) A (.call (.builtin "object.__setattr__") ⟨[.ref x, .str name tk, v], []⟩) R ⟨h, g, d, t, os⟩ := by
  obtain ⟨oD, esD, epD, hoD, hdD, _⟩ := hns.count hw
  have at_ : W.InstAt h x { cls := .ref C, dict := some dx, data := .fields fv } C (some oD) := ⟨hx, rfl, rfl, hoD⟩
  have class_ : W.Looks (model prog w) h (classData C) cd := W.looks_clsIn X hcd
  have line_ : W.Looks (model prog w) h (mroOf (.ref C)) cd.mro := class_.andThen .now
  have under : W.Looks (model prog w) h (isInstance (.ref x) (.type "object")) true := at_.type.andThen (W.looks_mroIn X (by unfold W.mroIn; rw [hcd, Option.bind_some, if_neg (by rw [some_]; decide), thing]))
  have st := PySem.F.store_object
  refine codeAny_call_builtin st.slot.plain st.entry (@W.check_slot (model prog w) _ _ ⟨h, g, d, t, os⟩ "object.__setattr__" "object" "__setattr__" (.ref x) [.str name tk, v] [] _ st.kind st.split under (st.args (.ref x) (.str name tk) v) ?_)
  have none_ : W.Looks (model prog w) h (storeTaker? none) none := .now
  rw [W.osa_eq, refuse_eq]
  refine wpAny_bind (wpAny_bind (at_.type.at (wpAny_bind (line_.at ?_))))
  rw [free]
  refine wpAny_pure ?_
  refine wpAny_bind (at_.type.at (wpAny_bind ((W.looks_findIn X no).at (wpAny_bind (none_.at ?_)))))
  show wpAny _ _ (storeInOwnDict (.ref x) (.ref C) (.str name tk) name v false) _ _ _
  cases cd
  cases own
  unfold storeInOwnDict ownDictForStores
  repeat (first | with_reducible refine PySem.OEX.store_in_old hns hw hz ?_ | with_reducible refine wpAny_loadPart_at hx ?_ | with_reducible refine class_.at ?_ | wp_step)
  intro h' tk' hn' hs
  exact q h' tk' (fun b o hb ho => (hs.2 b hb).trans ho) hn'
open L2
section
variable {X : Cx} {pins : List (Addr × Obj)} {σ : L2.St} {H : Hp} {s : Shared} {a C dx : Addr} {f : Str} {y : V} {u : Value} {Q : Unit → Shared → Prop} {B newId initId : String} {bm : List Value} {fs : List (Str × V)}
theorem put_next (T : Own X.K C B newId initId bm) (I : Inv X pins σ H s) (e : H a = some (exo a C (some dx))) (ed : H dx = some (exd dx fs)) (hl : fs.length ≤ 900) (no : PySem.W.findIn X.K (.ref C) f = some none) (ry : RelV y u)
    (h : ∀ s', Inv X pins σ (upd H dx (exd dx ((f, y) :: fs))) s' → Q () s') : wpAny (model X.prog X.w) X.A (setAttr (.ref a) f u) Q X.xe s := by
  obtain ⟨nm, qn, N, bs, sn, sub, ab, col, dd, k0, k1, k2, k3, k5, hC⟩ := T.cls
  have cl : PySem.W.clsIn X.K C = some { name := nm, bases := bs, mro := .ref C :: bm, ns := N, qualname := qn, hasDict := true, slotNames := sn, subclasses := sub, abstract := ab, collection := col, hasDel := false } := by
    unfold PySem.W.clsIn
    rw [hC] <;> rfl
  obtain ⟨t1, ho⟩ := exo_at I.hok e
  obtain ⟨mA, hns, rel⟩ := exd_at I.hok ed
  have hw := within_of rel
  obtain ⟨hp, g, d, t, os⟩ := s
  obtain ⟨oD, _, _, hoD, _, _⟩ := hns.count hw
  refine PySem.W.set_plain I.kIn (ox := { cls := .ref C, dict := some dx, data := .fields #[.ref t1, .none, .none, .none, .bool false, .none] }) (od := some oD) ⟨ho, rfl, rfl, hoD⟩ T.sa ?_
  refine next_field I.kIn ho hns hw (by rw [List.length_map]; omega) cl rfl (by show (Value.ref C :: bm).contains _ = true; rw [List.contains_cons, T.fx.thing, Bool.or_true]) (fun self => by show refuseLoop self _ (.ref C :: bm) = _; rw [refuseLoop_ref]; exact T.fx.free self) rfl no (fun h' tk' k hn => ?_)
  have hd : ∃ o, h'.get? dx = some o := by
    obtain ⟨o, _, _, e', _⟩ := hn
    exact ⟨o, e'⟩
  exact h _ (I.write (t' := tk') (x := dx) (e := dx) (o := exd dx ((f, y) :: fs)) (by rw [ed]; exact True.intro) (.inl rfl) k hd (exd_ok hn (relO_put ry rel)))
end
/-- self.f = e in the own __init__, a further one -/
def tPutN (K : PySem.W.Frag) (C : Addr) (f : Str) (to te : TE) : TS := fun D σ H => te σ H fun y H1 => to σ H1 fun x H2 => ∃ (a dx : Addr) (fs : List (Str × V)), x = .ref a ∧ H2 a = some (exo a C (some dx)) ∧ H2 dx = some (exd dx fs) ∧ fs.length ≤ 900 ∧ D.nx σ (upd H2 dx (exd dx ((f, y) :: fs)))
section
variable {X : Cx} {C : Addr} {B newId initId : String} {bm : List Value} {o e : Expr} {to te : TE} {f : Str} {p' pos : Pos}
theorem ps_putN (T : Own X.K C B newId initId bm) (no : PySem.W.findIn X.K (.ref C) f = some none) (ho : PE X o to) (he : PE X e te) (hs : swapsWith e (some (.Attribute o f p')) pos.line X.env = pure false := by rfl) : PS X (.Assign [.Attribute o f p'] e pos) (tPutN X.K C f to te) := by
  constructor
  intro pins s σ H D I h
  refine plainObj_wpAny_Assign_Attribute (thn (he.run pins s σ H _ I h) ?_) hs
  rintro v s1 ⟨y, H1, I1, r1, q1⟩
  refine thn (ho.run pins s1 σ H1 _ I1 q1) ?_
  rintro u s2 ⟨x, H2, I2, r2, a, dx, fs, rfl, ea, ed, hl, q⟩
  cases r2
  exact put_next T I2 ea ed hl no r1 fun s' J => ⟨σ, _, J, q⟩
end
end XB
abbrev s_IWaitError : Stmt := inClass (PySem.Challenge.pw_stampedwait_k03_refusals_apart.main.body.getD 1 (.Pass ⟨0, 0, 0, 0⟩)) 0
theorem sc_IWaitError : FnScope ["self", "text"] ["self", "text"] (defScope s_IWaitError) := ⟨rfl, rfl, rfl, by decide +kernel, rfl, by decide +kernel, by decide +kernel⟩
abbrev s_INoBounds : Stmt := inClass (PySem.Challenge.pw_stampedwait_k03_refusals_apart.main.body.getD 2 (.Pass ⟨0, 0, 0, 0⟩)) 0
theorem sc_INoBounds : FnScope ["self", "low", "high"] ["self", "low", "high"] (defScope s_INoBounds) := ⟨rfl, rfl, rfl, by decide +kernel, rfl, by decide +kernel, by decide +kernel⟩
abbrev s_INoText : Stmt := inClass (PySem.Challenge.pw_stampedwait_k03_refusals_apart.main.body.getD 3 (.Pass ⟨0, 0, 0, 0⟩)) 0
theorem sc_INoText : FnScope ["self", "row"] ["self", "row"] (defScope s_INoText) := ⟨rfl, rfl, rfl, by decide +kernel, rfl, by decide +kernel, by decide +kernel⟩
abbrev s_INoKey : Stmt := inClass (PySem.Challenge.pw_stampedwait_k03_refusals_apart.main.body.getD 15 (.Pass ⟨0, 0, 0, 0⟩)) 0
theorem sc_INoKey : FnScope ["self", "key"] ["self", "key"] (defScope s_INoKey) := ⟨rfl, rfl, rfl, by decide +kernel, rfl, by decide +kernel, by decide +kernel⟩
abbrev s_INoName : Stmt := inClass (PySem.Challenge.pw_stampedwait_k03_refusals_apart.main.body.getD 16 (.Pass ⟨0, 0, 0, 0⟩)) 0
theorem sc_INoName : FnScope ["self", "name"] ["self", "name"] (defScope s_INoName) := ⟨rfl, rfl, rfl, by decide +kernel, rfl, by decide +kernel, by decide +kernel⟩
abbrev s_IGone : Stmt := inClass (PySem.Challenge.pw_stampedwait_k03_refusals_apart.main.body.getD 17 (.Pass ⟨0, 0, 0, 0⟩)) 0
theorem sc_IGone : FnScope ["self", "time"] ["self", "time"] (defScope s_IGone) := ⟨rfl, rfl, rfl, by decide +kernel, rfl, by decide +kernel, by decide +kernel⟩
abbrev s_IElsewhere : Stmt := inClass (PySem.Challenge.pw_stampedwait_k03_refusals_apart.main.body.getD 18 (.Pass ⟨0, 0, 0, 0⟩)) 0
theorem sc_IElsewhere : FnScope ["self", "key", "house"] ["self", "key", "house"] (defScope s_IElsewhere) := ⟨rfl, rfl, rfl, by decide +kernel, rfl, by decide +kernel, by decide +kernel⟩
abbrev s_INoCopy : Stmt := inClass (PySem.Challenge.pw_stampedwait_k03_refusals_apart.main.body.getD 19 (.Pass ⟨0, 0, 0, 0⟩)) 0
theorem sc_INoCopy : FnScope ["self", "copy"] ["self", "copy"] (defScope s_INoCopy) := ⟨rfl, rfl, rfl, by decide +kernel, rfl, by decide +kernel, by decide +kernel⟩
abbrev s_INoDealing : Stmt := inClass (PySem.Challenge.pw_stampedwait_k03_refusals_apart.main.body.getD 20 (.Pass ⟨0, 0, 0, 0⟩)) 0
theorem sc_INoDealing : FnScope ["self", "dealing"] ["self", "dealing"] (defScope s_INoDealing) := ⟨rfl, rfl, rfl, by decide +kernel, rfl, by decide +kernel, by decide +kernel⟩
abbrev s_INoHold : Stmt := inClass (PySem.Challenge.pw_stampedwait_k03_refusals_apart.main.body.getD 21 (.Pass ⟨0, 0, 0, 0⟩)) 0
theorem sc_INoHold : FnScope ["self", "key"] ["self", "key"] (defScope s_INoHold) := ⟨rfl, rfl, rfl, by decide +kernel, rfl, by decide +kernel, by decide +kernel⟩
abbrev s_INoHead : Stmt := inClass (PySem.Challenge.pw_stampedwait_k03_refusals_apart.main.body.getD 22 (.Pass ⟨0, 0, 0, 0⟩)) 0
theorem sc_INoHead : FnScope ["self", "house"] ["self", "house"] (defScope s_INoHead) := ⟨rfl, rfl, rfl, by decide +kernel, rfl, by decide +kernel, by decide +kernel⟩
abbrev s_IWaits : Stmt := inClass (PySem.Challenge.pw_stampedwait_k03_refusals_apart.main.body.getD 23 (.Pass ⟨0, 0, 0, 0⟩)) 0
theorem sc_IWaits : FnScope ["self", "time"] ["self", "time"] (defScope s_IWaits) := ⟨rfl, rfl, rfl, by decide +kernel, rfl, by decide +kernel, by decide +kernel⟩
abbrev s_IEarly : Stmt := inClass (PySem.Challenge.pw_stampedwait_k03_refusals_apart.main.body.getD 24 (.Pass ⟨0, 0, 0, 0⟩)) 0
theorem sc_IEarly : FnScope ["self", "time"] ["self", "time"] (defScope s_IEarly) := ⟨rfl, rfl, rfl, by decide +kernel, rfl, by decide +kernel, by decide +kernel⟩
abbrev s_IOff : Stmt := inClass (PySem.Challenge.pw_stampedwait_k03_refusals_apart.main.body.getD 25 (.Pass ⟨0, 0, 0, 0⟩)) 0
theorem sc_IOff : FnScope ["self", "dealing"] ["self", "dealing"] (defScope s_IOff) := ⟨rfl, rfl, rfl, by decide +kernel, rfl, by decide +kernel, by decide +kernel⟩
abbrev s_ISure : Stmt := inClass (PySem.Challenge.pw_stampedwait_k03_refusals_apart.main.body.getD 26 (.Pass ⟨0, 0, 0, 0⟩)) 0
theorem sc_ISure : FnScope ["self", "stamp"] ["self", "stamp"] (defScope s_ISure) := ⟨rfl, rfl, rfl, by decide +kernel, rfl, by decide +kernel, by decide +kernel⟩
abbrev s_IUnset : Stmt := inClass (PySem.Challenge.pw_stampedwait_k03_refusals_apart.main.body.getD 27 (.Pass ⟨0, 0, 0, 0⟩)) 0
theorem sc_IUnset : FnScope ["self", "text"] ["self", "text"] (defScope s_IUnset) := ⟨rfl, rfl, rfl, by decide +kernel, rfl, by decide +kernel, by decide +kernel⟩
abbrev s_IBare : Stmt := inClass (PySem.Challenge.pw_stampedwait_k03_refusals_apart.main.body.getD 28 (.Pass ⟨0, 0, 0, 0⟩)) 0
theorem sc_IBare : FnScope ["self", "text"] ["self", "text"] (defScope s_IBare) := ⟨rfl, rfl, rfl, by decide +kernel, rfl, by decide +kernel, by decide +kernel⟩

def kiB (i j : Nat) : Bool := match j with
  | 27 => decide (i < 13)
  | 28 => decide (i < 13)
  | 29 => decide (i = 13 ∨ i = 14)
  | 30 => decide (i = 17 ∨ i = 18)
  | 31 => decide (13 ≤ i ∧ i ≤ 18)
  | 32 => decide (18 < i)
  | j => decide (j = i)

def top (i : Nat) : Stmt := PySem.Challenge.pw_stampedwait_k03_refusals_apart.main.body.getD i (.Pass ⟨0, 0, 0, 0⟩)
abbrev s_l_begun : Stmt := top 30
abbrev s_l_take : Stmt := top 31
abbrev s_l_by_text : Stmt := top 32
abbrev s_l_by_value : Stmt := top 33
abbrev s_l_by_another : Stmt := top 34
abbrev s_l_raised : Stmt := top 35
abbrev s_l_own : Stmt := top 36
abbrev s_l_fields : Stmt := top 37
abbrev s_l_apart : Stmt := top 38
abbrev s_law : Stmt := top 39
theorem sc_l_begun : FnScope ["_law_script", "_law_k", "_law_cell", "_law_number", "_law_mixed"] ["_law_script", "_law_k"] (defScope s_l_begun) := ⟨rfl, rfl, rfl, by decide +kernel, rfl, by decide +kernel, by decide +kernel⟩
theorem sc_l_take : FnScope ["_law_state", "_law_many", "_law_digit", "_law_made", "_law_turn"] ["_law_state", "_law_many"] (defScope s_l_take) := ⟨rfl, rfl, rfl, by decide +kernel, rfl, by decide +kernel, by decide +kernel⟩
theorem sc_l_by_text : FnScope ["_law_number", "_law_one", "_law_two"] ["_law_number", "_law_one", "_law_two"] (defScope s_l_by_text) := ⟨rfl, rfl, rfl, by decide +kernel, rfl, by decide +kernel, by decide +kernel⟩
theorem sc_l_by_value : FnScope ["_law_number", "_law_one", "_law_two"] ["_law_number", "_law_one", "_law_two"] (defScope s_l_by_value) := ⟨rfl, rfl, rfl, by decide +kernel, rfl, by decide +kernel, by decide +kernel⟩
theorem sc_l_by_another : FnScope ["_law_number", "_law_one", "_law_two"] ["_law_number", "_law_one", "_law_two"] (defScope s_l_by_another) := ⟨rfl, rfl, rfl, by decide +kernel, rfl, by decide +kernel, by decide +kernel⟩
theorem sc_l_raised : FnScope ["_law_number", "_law_one", "_law_two", "_law_caught", "e"] ["_law_number", "_law_one", "_law_two"] (defScope s_l_raised) := ⟨rfl, rfl, rfl, by decide +kernel, rfl, by decide +kernel, by decide +kernel⟩
theorem sc_l_own : FnScope ["_law_error", "_law_found"] ["_law_error"] (defScope s_l_own) := ⟨rfl, rfl, rfl, by decide +kernel, rfl, by decide +kernel, by decide +kernel⟩
theorem sc_l_fields : FnScope ["_law_errors", "_law_bounds", "_law_text", "_law_found"] ["_law_errors"] (defScope s_l_fields) := ⟨rfl, rfl, rfl, by decide +kernel, rfl, by decide +kernel, by decide +kernel⟩
theorem sc_l_apart : FnScope ["_law_number", "_law_caught", "_law_k"] ["_law_number", "_law_caught"] (defScope s_l_apart) := ⟨rfl, rfl, rfl, by decide +kernel, rfl, by decide +kernel, by decide +kernel⟩
theorem sc_law : FnScope ["_law_script", "_law_k", "_law_state", "_law_some", "_law_one", "_law_two", "_law_errors", "_law_due", "_law_number", "_law_error"] ["_law_script"] (defScope s_law) := ⟨rfl, rfl, rfl, by decide +kernel, rfl, by decide +kernel, by decide +kernel⟩
/-- what the top has written -/
structure Txt (K : PySem.W.Frag) (mg : Str → Option Value) (a : Nat → Addr) (d : Nat → FuncData) : Prop where
  g_l_begun : mg "_law_begun" = some (.ref (a 0))
  F_l_begun : Fun K "_law_begun" "_law_begun" s_l_begun (a 0) (d 0)
  b_l_begun : Binds K (d 0) ["_law_script", "_law_k"] []
  g_l_take : mg "_law_take" = some (.ref (a 1))
  F_l_take : Fun K "_law_take" "_law_take" s_l_take (a 1) (d 1)
  b_l_take : Binds K (d 1) ["_law_state", "_law_many"] []
  g_l_by_text : mg "_law_by_text" = some (.ref (a 2))
  F_l_by_text : Fun K "_law_by_text" "_law_by_text" s_l_by_text (a 2) (d 2)
  b_l_by_text : Binds K (d 2) ["_law_number", "_law_one", "_law_two"] []
  g_l_by_value : mg "_law_by_value" = some (.ref (a 3))
  F_l_by_value : Fun K "_law_by_value" "_law_by_value" s_l_by_value (a 3) (d 3)
  b_l_by_value : Binds K (d 3) ["_law_number", "_law_one", "_law_two"] []
  g_l_by_another : mg "_law_by_another" = some (.ref (a 4))
  F_l_by_another : Fun K "_law_by_another" "_law_by_another" s_l_by_another (a 4) (d 4)
  b_l_by_another : Binds K (d 4) ["_law_number", "_law_one", "_law_two"] []
  g_l_raised : mg "_law_raised" = some (.ref (a 5))
  F_l_raised : Fun K "_law_raised" "_law_raised" s_l_raised (a 5) (d 5)
  b_l_raised : Binds K (d 5) ["_law_number", "_law_one", "_law_two"] []
  g_l_own : mg "_law_own" = some (.ref (a 6))
  F_l_own : Fun K "_law_own" "_law_own" s_l_own (a 6) (d 6)
  b_l_own : Binds K (d 6) ["_law_error"] []
  g_l_fields : mg "_law_fields" = some (.ref (a 7))
  F_l_fields : Fun K "_law_fields" "_law_fields" s_l_fields (a 7) (d 7)
  b_l_fields : Binds K (d 7) ["_law_errors"] []
  g_l_apart : mg "_law_apart" = some (.ref (a 8))
  F_l_apart : Fun K "_law_apart" "_law_apart" s_l_apart (a 8) (d 8)
  b_l_apart : Binds K (d 8) ["_law_number", "_law_caught"] []
  g_law : mg "law" = some (.ref (a 9))
  F_law : Fun K "law" "law" s_law (a 9) (d 9)
  b_law : Binds K (d 9) ["_law_script"] []
  z_max : mg "max" = none
  z_min : mg "min" = none
  z_len : mg "len" = none
  z_int : mg "int" = none
  z_range : mg "range" = none
  z_isinstance : mg "isinstance" = none
  z_repr : mg "repr" = none
  z_enumerate : mg "enumerate" = none
  z_ValueError : mg "ValueError" = none
  z_KeyError : mg "KeyError" = none
  z_IndexError : mg "IndexError" = none
  z_LookupError : mg "LookupError" = none
  z_RuntimeError : mg "RuntimeError" = none
  gE_WaitError : mg "WaitError" = some (.ref (a 100))
  gE_NoNumber : mg "NoNumber" = some (.ref (a 101))
  gE_NoDrift : mg "NoDrift" = some (.ref (a 102))
  gE_NoShare : mg "NoShare" = some (.ref (a 103))
  gE_NoPace : mg "NoPace" = some (.ref (a 104))
  gE_NoStamp : mg "NoStamp" = some (.ref (a 105))
  gE_NoWorth : mg "NoWorth" = some (.ref (a 106))
  gE_NoLetter : mg "NoLetter" = some (.ref (a 107))
  gE_NoForm : mg "NoForm" = some (.ref (a 108))
  gE_NoDeed : mg "NoDeed" = some (.ref (a 109))
  gE_NoHistory : mg "NoHistory" = some (.ref (a 110))
  gE_NoRow : mg "NoRow" = some (.ref (a 111))
  gE_NoBounds : mg "NoBounds" = some (.ref (a 112))
  gE_NoText : mg "NoText" = some (.ref (a 113))
  gE_NoKey : mg "NoKey" = some (.ref (a 114))
  gE_NoName : mg "NoName" = some (.ref (a 115))
  gE_Gone : mg "Gone" = some (.ref (a 116))
  gE_Elsewhere : mg "Elsewhere" = some (.ref (a 117))
  gE_NoCopy : mg "NoCopy" = some (.ref (a 118))
  gE_NoDealing : mg "NoDealing" = some (.ref (a 119))
  gE_NoHold : mg "NoHold" = some (.ref (a 120))
  gE_NoHead : mg "NoHead" = some (.ref (a 121))
  gE_Waits : mg "Waits" = some (.ref (a 122))
  gE_Early : mg "Early" = some (.ref (a 123))
  gE_Off : mg "Off" = some (.ref (a 124))
  gE_Sure : mg "Sure" = some (.ref (a 125))
  gE_Unset : mg "Unset" = some (.ref (a 126))
  gE_Bare : mg "Bare" = some (.ref (a 127))
  xo_NoNumber : XB.Own K (a 101) "ValueError" "ValueError.__new__" "ValueError.__init__" [.ref (a 100), .type "ValueError", .type "Exception", .type "BaseException", .type "object"]
  ie_NoNumber : PySem.W.findIn K (.ref (a 101)) "__init__" = some (some (.ref (a 150)))
  ne_NoNumber_text : PySem.W.findIn K (.ref (a 101)) "text" = some none
  xf_NoNumber : XfC K (a 101)
  xc_NoNumber : ExcC K (a 101)
  xo_NoDrift : XB.Own K (a 102) "ValueError" "ValueError.__new__" "ValueError.__init__" [.ref (a 100), .type "ValueError", .type "Exception", .type "BaseException", .type "object"]
  ie_NoDrift : PySem.W.findIn K (.ref (a 102)) "__init__" = some (some (.ref (a 150)))
  ne_NoDrift_text : PySem.W.findIn K (.ref (a 102)) "text" = some none
  xf_NoDrift : XfC K (a 102)
  xc_NoDrift : ExcC K (a 102)
  xo_NoShare : XB.Own K (a 103) "ValueError" "ValueError.__new__" "ValueError.__init__" [.ref (a 100), .type "ValueError", .type "Exception", .type "BaseException", .type "object"]
  ie_NoShare : PySem.W.findIn K (.ref (a 103)) "__init__" = some (some (.ref (a 150)))
  ne_NoShare_text : PySem.W.findIn K (.ref (a 103)) "text" = some none
  xf_NoShare : XfC K (a 103)
  xc_NoShare : ExcC K (a 103)
  xo_NoPace : XB.Own K (a 104) "ValueError" "ValueError.__new__" "ValueError.__init__" [.ref (a 100), .type "ValueError", .type "Exception", .type "BaseException", .type "object"]
  ie_NoPace : PySem.W.findIn K (.ref (a 104)) "__init__" = some (some (.ref (a 150)))
  ne_NoPace_text : PySem.W.findIn K (.ref (a 104)) "text" = some none
  xf_NoPace : XfC K (a 104)
  xc_NoPace : ExcC K (a 104)
  xo_NoStamp : XB.Own K (a 105) "ValueError" "ValueError.__new__" "ValueError.__init__" [.ref (a 100), .type "ValueError", .type "Exception", .type "BaseException", .type "object"]
  ie_NoStamp : PySem.W.findIn K (.ref (a 105)) "__init__" = some (some (.ref (a 150)))
  ne_NoStamp_text : PySem.W.findIn K (.ref (a 105)) "text" = some none
  xf_NoStamp : XfC K (a 105)
  xc_NoStamp : ExcC K (a 105)
  xo_NoWorth : XB.Own K (a 106) "ValueError" "ValueError.__new__" "ValueError.__init__" [.ref (a 100), .type "ValueError", .type "Exception", .type "BaseException", .type "object"]
  ie_NoWorth : PySem.W.findIn K (.ref (a 106)) "__init__" = some (some (.ref (a 150)))
  ne_NoWorth_text : PySem.W.findIn K (.ref (a 106)) "text" = some none
  xf_NoWorth : XfC K (a 106)
  xc_NoWorth : ExcC K (a 106)
  xo_NoLetter : XB.Own K (a 107) "ValueError" "ValueError.__new__" "ValueError.__init__" [.ref (a 100), .type "ValueError", .type "Exception", .type "BaseException", .type "object"]
  ie_NoLetter : PySem.W.findIn K (.ref (a 107)) "__init__" = some (some (.ref (a 150)))
  ne_NoLetter_text : PySem.W.findIn K (.ref (a 107)) "text" = some none
  xf_NoLetter : XfC K (a 107)
  xc_NoLetter : ExcC K (a 107)
  xo_NoForm : XB.Own K (a 108) "ValueError" "ValueError.__new__" "ValueError.__init__" [.ref (a 100), .type "ValueError", .type "Exception", .type "BaseException", .type "object"]
  ie_NoForm : PySem.W.findIn K (.ref (a 108)) "__init__" = some (some (.ref (a 150)))
  ne_NoForm_text : PySem.W.findIn K (.ref (a 108)) "text" = some none
  xf_NoForm : XfC K (a 108)
  xc_NoForm : ExcC K (a 108)
  xo_NoDeed : XB.Own K (a 109) "ValueError" "ValueError.__new__" "ValueError.__init__" [.ref (a 100), .type "ValueError", .type "Exception", .type "BaseException", .type "object"]
  ie_NoDeed : PySem.W.findIn K (.ref (a 109)) "__init__" = some (some (.ref (a 150)))
  ne_NoDeed_text : PySem.W.findIn K (.ref (a 109)) "text" = some none
  xf_NoDeed : XfC K (a 109)
  xc_NoDeed : ExcC K (a 109)
  xo_NoHistory : XB.Own K (a 110) "ValueError" "ValueError.__new__" "ValueError.__init__" [.ref (a 100), .type "ValueError", .type "Exception", .type "BaseException", .type "object"]
  ie_NoHistory : PySem.W.findIn K (.ref (a 110)) "__init__" = some (some (.ref (a 150)))
  ne_NoHistory_text : PySem.W.findIn K (.ref (a 110)) "text" = some none
  xf_NoHistory : XfC K (a 110)
  xc_NoHistory : ExcC K (a 110)
  xo_NoRow : XB.Own K (a 111) "ValueError" "ValueError.__new__" "ValueError.__init__" [.ref (a 100), .type "ValueError", .type "Exception", .type "BaseException", .type "object"]
  ie_NoRow : PySem.W.findIn K (.ref (a 111)) "__init__" = some (some (.ref (a 150)))
  ne_NoRow_text : PySem.W.findIn K (.ref (a 111)) "text" = some none
  xf_NoRow : XfC K (a 111)
  xc_NoRow : ExcC K (a 111)
  xo_NoBounds : XB.Own K (a 112) "ValueError" "ValueError.__new__" "ValueError.__init__" [.ref (a 100), .type "ValueError", .type "Exception", .type "BaseException", .type "object"]
  ie_NoBounds : PySem.W.findIn K (.ref (a 112)) "__init__" = some (some (.ref (a 151)))
  ne_NoBounds_low : PySem.W.findIn K (.ref (a 112)) "low" = some none
  ne_NoBounds_high : PySem.W.findIn K (.ref (a 112)) "high" = some none
  xf_NoBounds : XfC K (a 112)
  xc_NoBounds : ExcC K (a 112)
  xo_NoText : XB.Own K (a 113) "ValueError" "ValueError.__new__" "ValueError.__init__" [.ref (a 100), .type "ValueError", .type "Exception", .type "BaseException", .type "object"]
  ie_NoText : PySem.W.findIn K (.ref (a 113)) "__init__" = some (some (.ref (a 152)))
  ne_NoText_row : PySem.W.findIn K (.ref (a 113)) "row" = some none
  xf_NoText : XfC K (a 113)
  xc_NoText : ExcC K (a 113)
  xo_NoKey : XB.Own K (a 114) "LookupError" "LookupError.__new__" "LookupError.__init__" [.type "KeyError", .type "LookupError", .type "Exception", .type "BaseException", .type "object"]
  ie_NoKey : PySem.W.findIn K (.ref (a 114)) "__init__" = some (some (.ref (a 153)))
  ne_NoKey_key : PySem.W.findIn K (.ref (a 114)) "key" = some none
  xf_NoKey : XfC K (a 114)
  xc_NoKey : ExcC K (a 114)
  xo_NoName : XB.Own K (a 115) "LookupError" "LookupError.__new__" "LookupError.__init__" [.type "KeyError", .type "LookupError", .type "Exception", .type "BaseException", .type "object"]
  ie_NoName : PySem.W.findIn K (.ref (a 115)) "__init__" = some (some (.ref (a 154)))
  ne_NoName_name : PySem.W.findIn K (.ref (a 115)) "name" = some none
  xf_NoName : XfC K (a 115)
  xc_NoName : ExcC K (a 115)
  xo_Gone : XB.Own K (a 116) "LookupError" "LookupError.__new__" "LookupError.__init__" [.type "LookupError", .type "Exception", .type "BaseException", .type "object"]
  ie_Gone : PySem.W.findIn K (.ref (a 116)) "__init__" = some (some (.ref (a 155)))
  ne_Gone_time : PySem.W.findIn K (.ref (a 116)) "time" = some none
  xf_Gone : XfC K (a 116)
  xc_Gone : ExcC K (a 116)
  xo_Elsewhere : XB.Own K (a 117) "LookupError" "LookupError.__new__" "LookupError.__init__" [.type "LookupError", .type "Exception", .type "BaseException", .type "object"]
  ie_Elsewhere : PySem.W.findIn K (.ref (a 117)) "__init__" = some (some (.ref (a 156)))
  ne_Elsewhere_key : PySem.W.findIn K (.ref (a 117)) "key" = some none
  ne_Elsewhere_house : PySem.W.findIn K (.ref (a 117)) "house" = some none
  xf_Elsewhere : XfC K (a 117)
  xc_Elsewhere : ExcC K (a 117)
  xo_NoCopy : XB.Own K (a 118) "IndexError" "IndexError.__new__" "IndexError.__init__" [.type "IndexError", .type "LookupError", .type "Exception", .type "BaseException", .type "object"]
  ie_NoCopy : PySem.W.findIn K (.ref (a 118)) "__init__" = some (some (.ref (a 157)))
  ne_NoCopy_copy : PySem.W.findIn K (.ref (a 118)) "copy" = some none
  xf_NoCopy : XfC K (a 118)
  xc_NoCopy : ExcC K (a 118)
  xo_NoDealing : XB.Own K (a 119) "IndexError" "IndexError.__new__" "IndexError.__init__" [.type "IndexError", .type "LookupError", .type "Exception", .type "BaseException", .type "object"]
  ie_NoDealing : PySem.W.findIn K (.ref (a 119)) "__init__" = some (some (.ref (a 158)))
  ne_NoDealing_dealing : PySem.W.findIn K (.ref (a 119)) "dealing" = some none
  xf_NoDealing : XfC K (a 119)
  xc_NoDealing : ExcC K (a 119)
  xo_NoHold : XB.Own K (a 120) "RuntimeError" "RuntimeError.__new__" "RuntimeError.__init__" [.type "RuntimeError", .type "Exception", .type "BaseException", .type "object"]
  ie_NoHold : PySem.W.findIn K (.ref (a 120)) "__init__" = some (some (.ref (a 159)))
  ne_NoHold_key : PySem.W.findIn K (.ref (a 120)) "key" = some none
  xf_NoHold : XfC K (a 120)
  xc_NoHold : ExcC K (a 120)
  xo_NoHead : XB.Own K (a 121) "RuntimeError" "RuntimeError.__new__" "RuntimeError.__init__" [.type "RuntimeError", .type "Exception", .type "BaseException", .type "object"]
  ie_NoHead : PySem.W.findIn K (.ref (a 121)) "__init__" = some (some (.ref (a 160)))
  ne_NoHead_house : PySem.W.findIn K (.ref (a 121)) "house" = some none
  xf_NoHead : XfC K (a 121)
  xc_NoHead : ExcC K (a 121)
  xo_Waits : XB.Own K (a 122) "RuntimeError" "RuntimeError.__new__" "RuntimeError.__init__" [.type "RuntimeError", .type "Exception", .type "BaseException", .type "object"]
  ie_Waits : PySem.W.findIn K (.ref (a 122)) "__init__" = some (some (.ref (a 161)))
  ne_Waits_time : PySem.W.findIn K (.ref (a 122)) "time" = some none
  xf_Waits : XfC K (a 122)
  xc_Waits : ExcC K (a 122)
  xo_Early : XB.Own K (a 123) "RuntimeError" "RuntimeError.__new__" "RuntimeError.__init__" [.type "RuntimeError", .type "Exception", .type "BaseException", .type "object"]
  ie_Early : PySem.W.findIn K (.ref (a 123)) "__init__" = some (some (.ref (a 162)))
  ne_Early_time : PySem.W.findIn K (.ref (a 123)) "time" = some none
  xf_Early : XfC K (a 123)
  xc_Early : ExcC K (a 123)
  xo_Off : XB.Own K (a 124) "RuntimeError" "RuntimeError.__new__" "RuntimeError.__init__" [.type "RuntimeError", .type "Exception", .type "BaseException", .type "object"]
  ie_Off : PySem.W.findIn K (.ref (a 124)) "__init__" = some (some (.ref (a 163)))
  ne_Off_dealing : PySem.W.findIn K (.ref (a 124)) "dealing" = some none
  xf_Off : XfC K (a 124)
  xc_Off : ExcC K (a 124)
  xo_Sure : XB.Own K (a 125) "RuntimeError" "RuntimeError.__new__" "RuntimeError.__init__" [.type "RuntimeError", .type "Exception", .type "BaseException", .type "object"]
  ie_Sure : PySem.W.findIn K (.ref (a 125)) "__init__" = some (some (.ref (a 164)))
  ne_Sure_stamp : PySem.W.findIn K (.ref (a 125)) "stamp" = some none
  xf_Sure : XfC K (a 125)
  xc_Sure : ExcC K (a 125)
  xo_Unset : XB.Own K (a 126) "RuntimeError" "RuntimeError.__new__" "RuntimeError.__init__" [.type "RuntimeError", .type "Exception", .type "BaseException", .type "object"]
  ie_Unset : PySem.W.findIn K (.ref (a 126)) "__init__" = some (some (.ref (a 165)))
  ne_Unset_text : PySem.W.findIn K (.ref (a 126)) "text" = some none
  xf_Unset : XfC K (a 126)
  xc_Unset : ExcC K (a 126)
  xo_Bare : XB.Own K (a 127) "RuntimeError" "RuntimeError.__new__" "RuntimeError.__init__" [.type "RuntimeError", .type "Exception", .type "BaseException", .type "object"]
  ie_Bare : PySem.W.findIn K (.ref (a 127)) "__init__" = some (some (.ref (a 166)))
  ne_Bare_text : PySem.W.findIn K (.ref (a 127)) "text" = some none
  xf_Bare : XfC K (a 127)
  xc_Bare : ExcC K (a 127)
  te_WaitError : PySem.W.typeIn K (.ref (a 150)) = some (.type "function")
  F_IWaitError : FunD K "__init__" "WaitError.__init__" (defArgs s_IWaitError) (defBody s_IWaitError) (defScope s_IWaitError) [.str ""] [] (a 150) (d 150)
  b_IWaitError : Binds K (d 150) ["self", "text"] []
  te_NoBounds : PySem.W.typeIn K (.ref (a 151)) = some (.type "function")
  F_INoBounds : Fun K "__init__" "NoBounds.__init__" s_INoBounds (a 151) (d 151)
  b_INoBounds : Binds K (d 151) ["self", "low", "high"] []
  te_NoText : PySem.W.typeIn K (.ref (a 152)) = some (.type "function")
  F_INoText : Fun K "__init__" "NoText.__init__" s_INoText (a 152) (d 152)
  b_INoText : Binds K (d 152) ["self", "row"] []
  te_NoKey : PySem.W.typeIn K (.ref (a 153)) = some (.type "function")
  F_INoKey : Fun K "__init__" "NoKey.__init__" s_INoKey (a 153) (d 153)
  b_INoKey : Binds K (d 153) ["self", "key"] []
  te_NoName : PySem.W.typeIn K (.ref (a 154)) = some (.type "function")
  F_INoName : Fun K "__init__" "NoName.__init__" s_INoName (a 154) (d 154)
  b_INoName : Binds K (d 154) ["self", "name"] []
  te_Gone : PySem.W.typeIn K (.ref (a 155)) = some (.type "function")
  F_IGone : Fun K "__init__" "Gone.__init__" s_IGone (a 155) (d 155)
  b_IGone : Binds K (d 155) ["self", "time"] []
  te_Elsewhere : PySem.W.typeIn K (.ref (a 156)) = some (.type "function")
  F_IElsewhere : Fun K "__init__" "Elsewhere.__init__" s_IElsewhere (a 156) (d 156)
  b_IElsewhere : Binds K (d 156) ["self", "key", "house"] []
  te_NoCopy : PySem.W.typeIn K (.ref (a 157)) = some (.type "function")
  F_INoCopy : Fun K "__init__" "NoCopy.__init__" s_INoCopy (a 157) (d 157)
  b_INoCopy : Binds K (d 157) ["self", "copy"] []
  te_NoDealing : PySem.W.typeIn K (.ref (a 158)) = some (.type "function")
  F_INoDealing : Fun K "__init__" "NoDealing.__init__" s_INoDealing (a 158) (d 158)
  b_INoDealing : Binds K (d 158) ["self", "dealing"] []
  te_NoHold : PySem.W.typeIn K (.ref (a 159)) = some (.type "function")
  F_INoHold : Fun K "__init__" "NoHold.__init__" s_INoHold (a 159) (d 159)
  b_INoHold : Binds K (d 159) ["self", "key"] []
  te_NoHead : PySem.W.typeIn K (.ref (a 160)) = some (.type "function")
  F_INoHead : Fun K "__init__" "NoHead.__init__" s_INoHead (a 160) (d 160)
  b_INoHead : Binds K (d 160) ["self", "house"] []
  te_Waits : PySem.W.typeIn K (.ref (a 161)) = some (.type "function")
  F_IWaits : Fun K "__init__" "Waits.__init__" s_IWaits (a 161) (d 161)
  b_IWaits : Binds K (d 161) ["self", "time"] []
  te_Early : PySem.W.typeIn K (.ref (a 162)) = some (.type "function")
  F_IEarly : Fun K "__init__" "Early.__init__" s_IEarly (a 162) (d 162)
  b_IEarly : Binds K (d 162) ["self", "time"] []
  te_Off : PySem.W.typeIn K (.ref (a 163)) = some (.type "function")
  F_IOff : Fun K "__init__" "Off.__init__" s_IOff (a 163) (d 163)
  b_IOff : Binds K (d 163) ["self", "dealing"] []
  te_Sure : PySem.W.typeIn K (.ref (a 164)) = some (.type "function")
  F_ISure : Fun K "__init__" "Sure.__init__" s_ISure (a 164) (d 164)
  b_ISure : Binds K (d 164) ["self", "stamp"] []
  te_Unset : PySem.W.typeIn K (.ref (a 165)) = some (.type "function")
  F_IUnset : Fun K "__init__" "Unset.__init__" s_IUnset (a 165) (d 165)
  b_IUnset : Binds K (d 165) ["self", "text"] []
  te_Bare : PySem.W.typeIn K (.ref (a 166)) = some (.type "function")
  F_IBare : Fun K "__init__" "Bare.__init__" s_IBare (a 166) (d 166)
  b_IBare : Binds K (d 166) ["self", "text"] []
  exT : ((([.ref (a 101), .ref (a 102), .ref (a 103), .ref (a 104), .ref (a 105), .ref (a 106), .ref (a 107), .ref (a 108), .ref (a 109), .ref (a 110), .ref (a 111), .ref (a 112), .ref (a 113), .ref (a 114), .ref (a 115), .ref (a 116), .ref (a 117), .ref (a 118), .ref (a 119), .ref (a 120), .ref (a 121), .ref (a 122), .ref (a 123), .ref (a 124), .ref (a 125), .ref (a 126), .ref (a 127)] : List Value)).zip (List.range 27)).all (fun p => PySem.W.exmAny K p.1 [.ref (a 100), .ref (a 114), .ref (a 115), .ref (a 116), .ref (a 117), .ref (a 118), .ref (a 119), .ref (a 120)] == some (decide (p.2 < 20)) && PySem.W.exmAny K p.1 [.ref (a 121), .ref (a 122), .ref (a 123), .ref (a 124), .ref (a 125), .ref (a 126), .ref (a 127)] == some (decide (20 ≤ p.2))) = true
  kiT : ((([.ref (a 101), .ref (a 102), .ref (a 103), .ref (a 104), .ref (a 105), .ref (a 106), .ref (a 107), .ref (a 108), .ref (a 109), .ref (a 110), .ref (a 111), .ref (a 112), .ref (a 113), .ref (a 114), .ref (a 115), .ref (a 116), .ref (a 117), .ref (a 118), .ref (a 119), .ref (a 120), .ref (a 121), .ref (a 122), .ref (a 123), .ref (a 124), .ref (a 125), .ref (a 126), .ref (a 127)] : List Value)).zip (List.range 27)).all (fun p => ((([.ref (a 101), .ref (a 102), .ref (a 103), .ref (a 104), .ref (a 105), .ref (a 106), .ref (a 107), .ref (a 108), .ref (a 109), .ref (a 110), .ref (a 111), .ref (a 112), .ref (a 113), .ref (a 114), .ref (a 115), .ref (a 116), .ref (a 117), .ref (a 118), .ref (a 119), .ref (a 120), .ref (a 121), .ref (a 122), .ref (a 123), .ref (a 124), .ref (a 125), .ref (a 126), .ref (a 127), .ref (a 100), .type "ValueError", .type "KeyError", .type "IndexError", .type "LookupError", .type "RuntimeError"] : List Value)).zip (List.range 33)).all fun q => PySem.W.kitOne K p.1 q.1 == some (kiB p.2 q.2)) = true


/-- a state of draws stands at s -/
def StAt (H : Hp) (s : Addr) : Prop := ∃ (a b : Int) (c : Bool), H s = some (.lst [.int a, .int b, .bl c]) ∧ 0 ≤ b ∧ b < 2147483647
/-- all else that was tracked stands; at s a state -/
def Kp (s : Addr) (H H' : Hp) : Prop := (∀ b o, b ≠ s → H b = some o → H' b = some o) ∧ StAt H' s
theorem StAt.kp {H : Hp} {s : Addr} (h : StAt H s) : Kp s H H := ⟨fun _ _ _ e => e, h⟩
theorem Kp.trans {s : Addr} {H H1 H2 : Hp} (a : Kp s H H1) (b : Kp s H1 H2) : Kp s H H2 := ⟨fun c o n e => b.1 c o n (a.1 c o n e), b.2⟩
theorem StAt.ne_new {H : Hp} {s p : Addr} (h : StAt H s) (hp : H p = none) : p ≠ s := by
  obtain ⟨a, b, c, e, _⟩ := h
  exact (ne_of_none e hp).symm
theorem StAt.new {H : Hp} {s p : Addr} {o : HO} (h : StAt H s) (hp : H p = none) : StAt (upd H p o) s := by
  obtain ⟨a, b, c, e, r⟩ := h
  exact ⟨a, b, c, by rw [upd_ne (ne_of_none e hp)]; exact e, r⟩
theorem Kp.new {s p : Addr} {H H1 : Hp} {o : HO} (k : Kp s H H1) (hp : H1 p = none) : Kp s H (upd H1 p o) :=
  ⟨fun b u n e => by rw [upd_ne (ne_of_none (k.1 b u n e) hp)]; exact k.1 b u n e, k.2.new hp⟩
theorem StAt.ne_tup {H : Hp} {s p : Addr} {xs : List V} (h : StAt H s) (hp : H p = some (.tup xs)) : p ≠ s := by
  obtain ⟨a, b, c, e, _⟩ := h
  exact ne_of hp e (by intro q; cases q)
theorem Kp.tup {s p : Addr} {H H1 : Hp} {xs : List V} (k : Kp s H H1) (h0 : StAt H s) (hp : H p = some (.tup xs)) : H1 p = some (.tup xs) := k.1 p _ (h0.ne_tup hp) hp
theorem Kp.free {s p : Addr} {H H1 : Hp} (k : Kp s H H1) (h0 : StAt H s) (hp : H1 p = none) : H p = none := by
  cases e : H p with
  | none => rfl
  | some o =>
    have z := k.1 p o (k.2.ne_new hp) e
    rw [hp] at z
    cases z
theorem Kp.same {s : Addr} {H0 H H1 : Hp} (a : Same H0 H) (hs : H0 s = none) (k : Kp s H H1) : Same H0 H1 := fun b o e => k.1 b o (ne_of_none e hs) (a b o e)
theorem same_new {H0 H : Hp} {p : Addr} {o : HO} (a : Same H0 H) (hp : H p = none) : Same H0 (upd H p o) := fun b u e => by
  rw [upd_ne (ne_of_none (a b u e) hp)]
  exact a b u e
theorem m64 {i : Int} (a : -18446744073709551616 < i) (b : i < 18446744073709551616) : -(2 ^ 64) < i ∧ i < 2 ^ 64 := by
  have e : (2 : Int) ^ 64 = 18446744073709551616 := by decide
  rw [e]
  exact ⟨a, b⟩
theorem divW {i j : Int} (h : 0 < j) (hb : j < 2 ^ 2000) : CDivW i j := wide_div (b := 2000) h (by
  have e : (j.natAbs : Int) = j := by omega
  have q : (j.natAbs : Int) < ((2 ^ 2000 : Nat) : Int) := by rw [e]; exact hb
  exact Int.ofNat_lt.mp q) (by decide) (by decide)
theorem p2000 {j : Int} (h : j ≤ 1000000000000000000000000000000) : j < 2 ^ 2000 := Int.lt_of_le_of_lt h (by decide)
theorem cell_at (ns : List Int) (lo hi : Option Int) : ∃ c : Int, atI (cutV (ns.map V.int) lo hi ++ [V.int 0]) 0 = some (V.int c) := by
  unfold cutV
  rw [← List.map_drop, ← List.map_take]
  generalize ((List.drop _ ns).take _) = l
  cases l with
  | nil => exact ⟨0, rfl⟩
  | cons x xs => exact ⟨x, atI_nat (j := 0) rfl⟩
theorem cut_len (xs : List V) (lo hi : Option Int) : (cutV xs lo hi).length ≤ xs.length := by
  unfold cutV
  rw [List.length_take, List.length_drop]
  omega
theorem bl_of {Q : VK} {H : Hp} {c : Prop} [Decidable c] (h : c) (q : Q (.bl true) H) : Q (.bl (decide c)) H := by
  rw [decide_eq_true h]
  exact q
theorem iteDT {c A B : Prop} [Decidable c] (h : c) (a : A) : if decide c = true then A else B := by
  rw [if_pos (decide_eq_true h)]
  exact a
theorem iteDF {c A B : Prop} [Decidable c] (h : ¬ c) (b : B) : if decide c = true then A else B := by
  rw [decide_eq_false h]
  exact iteF b
theorem iteND {c A B : Prop} [Decidable c] (h : ¬ c) (a : A) : if (!decide c) = true then A else B := by
  rw [decide_eq_false h]
  exact iteT a
theorem len3 : 3 ≤ sizeLine := by decide
theorem len2 : 2 ≤ sizeLine := by decide
theorem len1 : 1 ≤ sizeLine := by decide
def spBegun (K : PySem.W.Frag) : Sp := fun vs H Q _ => ∃ (l : Addr) (ns : List Int) (k : Int), vs = [.ref l, .int k] ∧ SqL K H l (ns.map V.int) ∧ ns.length ≤ 63 ∧ 0 ≤ k ∧ k ≤ 100 ∧ ∀ (p : Addr) (H' : Hp), H p = none → Same H H' → StAt H' p → Q (.ref p) H'
def spTake : Sp := fun vs H Q _ => ∃ (s : Addr) (m : Int), vs = [.ref s, .int m] ∧ StAt H s ∧ 0 < m ∧ m ≤ 1000000000000000000000000000000 ∧ ∀ (r : Int) (H' : Hp), 0 ≤ r → r < m → Kp s H H' → Q (.int r) H'

/-! ### errors -/
theorem exm_of {K : PySem.W.Frag} {S D : Addr} {b : Bool} (h1 : PySem.W.subIn K (.ref D) (.type "BaseException") = some true) (h2 : PySem.W.isClsIn K D = true) (h3 : PySem.W.typeIn K (.ref D) = some (.type "type")) (h4 : PySem.W.subIn K (.ref S) (.ref D) = some b) : PySem.W.exmOne K (.ref S) (.ref D) = some b := by
  have h5 : (PySem.W.clsIn K D).isSome = true := h2
  unfold PySem.W.exmOne PySem.W.kitCls
  simp [h1, h3, h4, h5]
theorem kit_of {K : PySem.W.Frag} {S D : Addr} {b : Bool} (h0 : PySem.W.subIn K (.ref D) (.ref D) = some true) (h2 : PySem.W.isClsIn K D = true) (h3 : PySem.W.typeIn K (.ref D) = some (.type "type")) (h4 : PySem.W.subIn K (.ref S) (.ref D) = some b) : PySem.W.kitOne K (.ref S) (.ref D) = some b := by
  have h5 : (PySem.W.clsIn K D).isSome = true := h2
  unfold PySem.W.kitOne PySem.W.kitCls
  by_cases e : S = D
  · subst e
    rw [h0] at h4
    cases h4
    simp
  · have e2 : ((Value.ref S) == (Value.ref D)) = false := by
      rw [beq_eq_false_iff_ne]
      intro z
      exact e (Value.ref.inj z)
    simp [e2, h3, h4, h5]
theorem kit_blt {K : PySem.W.Frag} {S : Addr} {T : String} {b : Bool} (h1 : PySem.W.kitMeta T = true) (h4 : PySem.W.subIn K (.ref S) (.type T) = some b) : PySem.W.kitOne K (.ref S) (.type T) = some b := by
  unfold PySem.W.kitOne PySem.W.kitCls
  simp [h1, h4]
theorem same_err3 {H H2 : Hp} {x dx : Addr} {o1 o4 : HO} (hx : H x = none) (hd : H dx = none) (k : ∀ b, b ≠ x → b ≠ dx → H2 b = upd H x o1 b) : Same H (upd (del H2 x) dx o4) := fun b o e => by
  have n1 : b ≠ x := ne_of_none e hx
  have n2 : b ≠ dx := ne_of_none e hd
  rw [upd_ne n2, del_ne n1, k b n1 n2, upd_ne n1]
  exact e
/-- an own __init__ of one field -/
def spI1 (C : Addr) (f : Str) : Sp := fun vs H Q _ => ∃ (x : Addr) (y : V), vs = [.ref x, y] ∧ H x = some (exo x C none) ∧ ∀ (dx : Addr) (H' : Hp), H dx = none → dx ≠ x → H' x = some (exo x C (some dx)) → H' dx = some (exd dx [(f, y)]) → (∀ b, b ≠ x → b ≠ dx → H' b = H b) → Q .non H'
/-- an own __init__ of two fields -/
def spI2 (C : Addr) (f g : Str) : Sp := fun vs H Q _ => ∃ (x : Addr) (y z : V), vs = [.ref x, y, z] ∧ H x = some (exo x C none) ∧ ∀ (dx : Addr) (H' : Hp), H dx = none → dx ≠ x → H' x = some (exo x C (some dx)) → H' dx = some (exd dx [(g, z), (f, y)]) → (∀ b, b ≠ x → b ≠ dx → H' b = H b) → Q .non H'
def Out2 (E : XK) (C : Addr) (f g : Str) (y z : V) (H : Hp) : Prop := ∀ (dx : Addr) (H' : Hp), Same H H' → H' dx = some (.xd [(g, z), (f, y)]) → E (.ref C) (some dx) H'
theorem xd_one (f : Str) (y : V) : ([(f, y)] : List (Str × V)).lookup f = some y := by
  have e2 : (f == f) = true := by simp
  simp [List.lookup, e2]
/-- an error is let out: of the class C, its one field f the value y -/
def Out (E : XK) (C : Addr) (f : Str) (y : V) (H : Hp) : Prop := ∀ (dx : Addr) (H' : Hp), Same H H' → H' dx = some (.xd [(f, y)]) → E (.ref C) (some dx) H'
theorem Out.up {E : XK} {C : Addr} {f : Str} {y : V} {H H1 : Hp} (h : Out E C f y H) (k : Same H H1) : Out E C f y H1 := fun dx H' s e => h dx H' (k.trans s) e
/-- two promises of one def: one that lets nothing out, and one that may -/
theorem fn_or {P : Program} {w : World} {K : PySem.W.Frag} {mg : Str → Option Value} {base : Heap} {CX : CXT} {k : Nat} {f : Addr} {fd : FuncData} {ps : List Str} {s1 s2 : Sp} (F1 : FnOk P w K mg base CX0 k f fd ps s1) (F2 : FnOk P w K mg base CX k f fd ps s2) :
    FnOk P w K mg base CX k f fd ps (fun vs H Q E => s1 vs H Q E ∨ s2 vs H Q E) := by
  refine ⟨fun vs H Q E h => ?_, fun A outer s H args us vs Q E hr he hb hv hs => ?_⟩
  · rcases h with h | h
    · exact F1.len _ _ _ _ h
    · exact F2.len _ _ _ _ h
  · rcases hs with h | h
    · refine PySem.codeAny_mono (F1.run A outer s H args us vs Q E hr he hb hv h) fun r s' z => ?_
      cases r with
      | error e => exact z.elim
      | ok fl => cases fl <;> exact z
    · exact F2.run A outer s H args us vs Q E hr he hb hv h
theorem fn_up {P : Program} {w : World} {K : PySem.W.Frag} {mg : Str → Option Value} {base : Heap} {CX : CXT} {k j : Nat} {f : Addr} {fd : FuncData} {ps : List Str} {s1 : Sp} (F1 : FnOk P w K mg base CX k f fd ps s1) (h : k ≤ j) : FnOk P w K mg base CX j f fd ps s1 :=
  ⟨F1.len, fun A outer s H args us vs Q E hr he hb hv hs => F1.run A outer s H args us vs Q E (hr.mono h) he hb hv hs⟩
theorem fn_weak {P : Program} {w : World} {K : PySem.W.Frag} {mg : Str → Option Value} {base : Heap} {CX : CXT} {k : Nat} {f : Addr} {fd : FuncData} {ps : List Str} {s1 s2 : Sp} (F1 : FnOk P w K mg base CX k f fd ps s1) (h : ∀ vs H Q E, s2 vs H Q E → s1 vs H Q E) : FnOk P w K mg base CX k f fd ps s2 :=
  ⟨fun vs H Q E z => F1.len _ _ _ _ (h _ _ _ _ z), fun A outer s H args us vs Q E hr he hb hv hs => F1.run A outer s H args us vs Q E hr he hb hv (h _ _ _ _ hs)⟩

theorem bq {Q : VK} {H : Hp} {a b : Bool} (e : a = b) (q : Q (.bl b) H) : Q (.bl a) H := by rw [e]; exact q
def fsO (i : Nat) (y z : V) : List (Str × V) := match i with
  | 0 => [("text", .str "word")]
  | 1 => [("text", .str "word")]
  | 2 => [("text", .str "word")]
  | 3 => [("text", .str "word")]
  | 4 => [("text", .str "word")]
  | 5 => [("text", .str "word")]
  | 6 => [("text", .str "word")]
  | 7 => [("text", .str "word")]
  | 8 => [("text", .str "word")]
  | 9 => [("text", .str "word")]
  | 10 => [("text", .str "word")]
  | 11 => [("high", z), ("low", y)]
  | 12 => [("row", y)]
  | 13 => [("key", y)]
  | 14 => [("name", z)]
  | 15 => [("time", y)]
  | 16 => [("house", z), ("key", y)]
  | 17 => [("copy", y)]
  | 18 => [("dealing", z)]
  | 19 => [("key", y)]
  | 20 => [("house", z)]
  | 21 => [("time", y)]
  | 22 => [("time", z)]
  | 23 => [("dealing", y)]
  | 24 => [("stamp", z)]
  | 25 => [("text", .str "word")]
  | 26 => [("text", .str "word")]
  | _ => []
/-- an error of the i-th class stands at v -/
def ErrAt (a : Nat → Addr) (H : Hp) (i : Nat) (y z : V) (v : V) : Prop := ∃ x dx, v = .ref x ∧ H x = some (ExK (.ref (a (101 + i))) (some dx) x) ∧ H dx = some (.xd (fsO i y z))
theorem ErrAt.up {a : Nat → Addr} {H H' : Hp} {i : Nat} {y z v : V} (e : ErrAt a H i y z v) (k : Same H H') : ErrAt a H' i y z v := by
  obtain ⟨x, dx, h1, h2, h3⟩ := e
  exact ⟨x, dx, h1, k _ _ h2, k _ _ h3⟩
def spBy (lo hi : Nat) (a : Nat → Addr) : Sp := fun vs H _ E => ∃ (i : Nat) (y z : V), vs = [.int i, y, z] ∧ lo ≤ i ∧ i < hi ∧ ∀ (dx : Addr) (H' : Hp), Same H H' → H' dx = some (.xd (fsO i y z)) → E (.ref (a (101 + i))) (some dx) H'
def spRaised (a : Nat → Addr) : Sp := fun vs H Q _ => ∃ (i : Nat) (y z : V), vs = [.int i, y, z] ∧ i < 27 ∧ ∀ (v : V) (H' : Hp), Same H H' → ErrAt a H' i y z v → Q v H'
def spOwn (a : Nat → Addr) : Sp := fun vs H Q _ => ∃ (i : Nat) (y z v : V), vs = [v] ∧ i < 27 ∧ ErrAt a H i y z v ∧ ∀ (p : Addr) (H' : Hp), Same H H' → H' p = some (.lst ((List.range 27).map fun j => V.bl (decide (j = i)))) → Q (.ref p) H'
def spApart (a : Nat → Addr) : Sp := fun vs H Q _ => ∃ (i : Nat) (y z v : V), vs = [.int i, v] ∧ i < 27 ∧ ErrAt a H i y z v ∧ ∀ (H' : Hp), Same H H' → Q (.bl true) H'
def dueO (y z : V) : List V := [y, z, y, y, z, y, y, z, y, z, y, z, y, z, y, z]
def spFields (a : Nat → Addr) : Sp := fun vs H Q _ => ∃ (l : Addr) (xs : List V) (y z : V), vs = [.ref l] ∧ H l = some (.lst xs) ∧ xs.length = 27 ∧ (∀ i v, xs[i]? = some v → ErrAt a H i y z v) ∧ ∀ (p : Addr) (H' : Hp), Same H H' → H' p = some (.lst (dueO y z)) → Q (.ref p) H'
def spLaw (K : PySem.W.Frag) : Sp := fun vs H Q _ => ∃ (a : Addr) (ns : List Int), vs = [.ref a] ∧ SqL K H a (ns.map V.int) ∧ ns.length ≤ 63 ∧ ∀ H', Q (.bl true) H'

theorem es_at {a : Nat → Addr} : ∀ i, i < 27 → (([.ref (a 101), .ref (a 102), .ref (a 103), .ref (a 104), .ref (a 105), .ref (a 106), .ref (a 107), .ref (a 108), .ref (a 109), .ref (a 110), .ref (a 111), .ref (a 112), .ref (a 113), .ref (a 114), .ref (a 115), .ref (a 116), .ref (a 117), .ref (a 118), .ref (a 119), .ref (a 120), .ref (a 121), .ref (a 122), .ref (a 123), .ref (a 124), .ref (a 125), .ref (a 126), .ref (a 127)] : List Value).zip (List.range 27))[i]? = some (Value.ref (a (101 + i)), i)
  | 0, _ => rfl
  | 1, _ => rfl
  | 2, _ => rfl
  | 3, _ => rfl
  | 4, _ => rfl
  | 5, _ => rfl
  | 6, _ => rfl
  | 7, _ => rfl
  | 8, _ => rfl
  | 9, _ => rfl
  | 10, _ => rfl
  | 11, _ => rfl
  | 12, _ => rfl
  | 13, _ => rfl
  | 14, _ => rfl
  | 15, _ => rfl
  | 16, _ => rfl
  | 17, _ => rfl
  | 18, _ => rfl
  | 19, _ => rfl
  | 20, _ => rfl
  | 21, _ => rfl
  | 22, _ => rfl
  | 23, _ => rfl
  | 24, _ => rfl
  | 25, _ => rfl
  | 26, _ => rfl
  | n + 27, h => absurd h (by omega)
theorem ds_at {a : Nat → Addr} : ∀ j, j < 27 → (([.ref (a 101), .ref (a 102), .ref (a 103), .ref (a 104), .ref (a 105), .ref (a 106), .ref (a 107), .ref (a 108), .ref (a 109), .ref (a 110), .ref (a 111), .ref (a 112), .ref (a 113), .ref (a 114), .ref (a 115), .ref (a 116), .ref (a 117), .ref (a 118), .ref (a 119), .ref (a 120), .ref (a 121), .ref (a 122), .ref (a 123), .ref (a 124), .ref (a 125), .ref (a 126), .ref (a 127), .ref (a 100), .type "ValueError", .type "KeyError", .type "IndexError", .type "LookupError", .type "RuntimeError"] : List Value).zip (List.range 33))[j]? = some (Value.ref (a (101 + j)), j)
  | 0, _ => rfl
  | 1, _ => rfl
  | 2, _ => rfl
  | 3, _ => rfl
  | 4, _ => rfl
  | 5, _ => rfl
  | 6, _ => rfl
  | 7, _ => rfl
  | 8, _ => rfl
  | 9, _ => rfl
  | 10, _ => rfl
  | 11, _ => rfl
  | 12, _ => rfl
  | 13, _ => rfl
  | 14, _ => rfl
  | 15, _ => rfl
  | 16, _ => rfl
  | 17, _ => rfl
  | 18, _ => rfl
  | 19, _ => rfl
  | 20, _ => rfl
  | 21, _ => rfl
  | 22, _ => rfl
  | 23, _ => rfl
  | 24, _ => rfl
  | 25, _ => rfl
  | 26, _ => rfl
  | n + 27, h => absurd h (by omega)
theorem ki_row {K : PySem.W.Frag} {mg : Str → Option Value} {a : Nat → Addr} {d : Nat → FuncData} (T : Txt K mg a d) {i : Nat} (hi : i < 27) {j : Nat} {c : Value} (hj : (([.ref (a 101), .ref (a 102), .ref (a 103), .ref (a 104), .ref (a 105), .ref (a 106), .ref (a 107), .ref (a 108), .ref (a 109), .ref (a 110), .ref (a 111), .ref (a 112), .ref (a 113), .ref (a 114), .ref (a 115), .ref (a 116), .ref (a 117), .ref (a 118), .ref (a 119), .ref (a 120), .ref (a 121), .ref (a 122), .ref (a 123), .ref (a 124), .ref (a 125), .ref (a 126), .ref (a 127), .ref (a 100), .type "ValueError", .type "KeyError", .type "IndexError", .type "LookupError", .type "RuntimeError"] : List Value).zip (List.range 33))[j]? = some (c, j)) : PySem.W.kitOne K (.ref (a (101 + i))) c = some (kiB i j) := by
  have h := T.kiT
  rw [List.all_eq_true] at h
  have h1 := h _ (List.mem_of_getElem? (es_at i hi))
  rw [List.all_eq_true] at h1
  exact eq_of_beq (h1 _ (List.mem_of_getElem? hj))
theorem ki_own {K : PySem.W.Frag} {mg : Str → Option Value} {a : Nat → Addr} {d : Nat → FuncData} (T : Txt K mg a d) {i j : Nat} (hi : i < 27) (hj : j < 27) : PySem.W.kitOne K (.ref (a (101 + i))) (.ref (a (101 + j))) = some (decide (j = i)) := by
  have h := ki_row T hi (ds_at (a := a) j hj)
  rw [h]
  unfold kiB
  split <;> first | rfl | omega
theorem ex_row {K : PySem.W.Frag} {mg : Str → Option Value} {a : Nat → Addr} {d : Nat → FuncData} (T : Txt K mg a d) {i : Nat} (hi : i < 27) : PySem.W.exmAny K (.ref (a (101 + i))) [.ref (a 100), .ref (a 114), .ref (a 115), .ref (a 116), .ref (a 117), .ref (a 118), .ref (a 119), .ref (a 120)] = some (decide (i < 20)) ∧ PySem.W.exmAny K (.ref (a (101 + i))) [.ref (a 121), .ref (a 122), .ref (a 123), .ref (a 124), .ref (a 125), .ref (a 126), .ref (a 127)] = some (decide (20 ≤ i)) := by
  have h := T.exT
  rw [List.all_eq_true] at h
  have h1 := h _ (List.mem_of_getElem? (es_at i hi))
  rw [Bool.and_eq_true] at h1
  exact ⟨eq_of_beq h1.1, eq_of_beq h1.2⟩

theorem xc_at {K : PySem.W.Frag} {mg : Str → Option Value} {a : Nat → Addr} {d : Nat → FuncData} (T : Txt K mg a d) : ∀ i, i < 27 → ExcC K (a (101 + i))
  | 0, _ => T.xc_NoNumber
  | 1, _ => T.xc_NoDrift
  | 2, _ => T.xc_NoShare
  | 3, _ => T.xc_NoPace
  | 4, _ => T.xc_NoStamp
  | 5, _ => T.xc_NoWorth
  | 6, _ => T.xc_NoLetter
  | 7, _ => T.xc_NoForm
  | 8, _ => T.xc_NoDeed
  | 9, _ => T.xc_NoHistory
  | 10, _ => T.xc_NoRow
  | 11, _ => T.xc_NoBounds
  | 12, _ => T.xc_NoText
  | 13, _ => T.xc_NoKey
  | 14, _ => T.xc_NoName
  | 15, _ => T.xc_Gone
  | 16, _ => T.xc_Elsewhere
  | 17, _ => T.xc_NoCopy
  | 18, _ => T.xc_NoDealing
  | 19, _ => T.xc_NoHold
  | 20, _ => T.xc_NoHead
  | 21, _ => T.xc_Waits
  | 22, _ => T.xc_Early
  | 23, _ => T.xc_Off
  | 24, _ => T.xc_Sure
  | 25, _ => T.xc_Unset
  | 26, _ => T.xc_Bare
  | n + 27, h => absurd h (by omega)
theorem ki_x {K : PySem.W.Frag} {mg : Str → Option Value} {a : Nat → Addr} {d : Nat → FuncData} (T : Txt K mg a d) {i : Nat} (hi : i < 27) : PySem.W.kitOne K (.ref (a (101 + i))) (.ref (a 100)) = some (kiB i 27) ∧ PySem.W.kitOne K (.ref (a (101 + i))) (.type "ValueError") = some (kiB i 28) ∧ PySem.W.kitOne K (.ref (a (101 + i))) (.type "KeyError") = some (kiB i 29) ∧ PySem.W.kitOne K (.ref (a (101 + i))) (.type "IndexError") = some (kiB i 30) ∧ PySem.W.kitOne K (.ref (a (101 + i))) (.type "LookupError") = some (kiB i 31) ∧ PySem.W.kitOne K (.ref (a (101 + i))) (.type "RuntimeError") = some (kiB i 32) :=
  ⟨ki_row T hi (j := 27) rfl, ki_row T hi (j := 28) rfl, ki_row T hi (j := 29) rfl, ki_row T hi (j := 30) rfl, ki_row T hi (j := 31) rfl, ki_row T hi (j := 32) rfl⟩


theorem iteBF {b : Bool} {A B : Prop} (h : b = false) (y : B) : if b = true then A else B := by
  rw [h]
  exact iteF y
theorem iteBT {b : Bool} {A B : Prop} (h : b = true) (x : A) : if b = true then A else B := by
  rw [h]
  exact iteT x
theorem ne_same {a b : Bool} (e : a = b) : (!decide (V.bl a = V.bl b)) = false := by
  subst e
  simp
theorem eq_same {a b : Bool} (e : a = b) : decide (V.bl a = V.bl b) = true := by
  subst e
  simp
theorem lay_bools : ∀ l : List Bool, PyData.canLayAll0 (l.map PyData.bool) = true ∧ PyData.depthAll (l.map PyData.bool) = 0
  | [] => ⟨by simp [PyData.canLayAll0], by simp [PyData.depthAll]⟩
  | b :: l => ⟨by simp [PyData.canLayAll0, PyData.canLay0, (lay_bools l).1], by simp [PyData.depthAll, PyData.depth, (lay_bools l).2]⟩
theorem shaped_bools (l : List Bool) : SeqAt.shaped (.list (l.map PyData.bool)) = true ∧ (PyData.list (l.map PyData.bool)).canLay0 = true := by
  have h : (PyData.list (l.map PyData.bool)).canLay0 = true := by simp [PyData.canLay0, (lay_bools l).1]
  refine ⟨?_, h⟩
  unfold SeqAt.shaped
  rw [h, Bool.true_and]
  simp [PyData.depth, (lay_bools l).2]
theorem dp_bools {K : PySem.W.Frag} {H : Hp} : ∀ l : List Bool, DpAll K H (l.map V.bl) (l.map PyData.bool)
  | [] => .nil
  | b :: l => .cons (.bl b) (dp_bools l)
theorem kiB_lt : ∀ i, i < 27 → kiB i 27 = decide ((i : Int) < 13) ∧ kiB i 28 = decide ((i : Int) < 13) ∧ kiB i 29 = inV (.int i) [.int 13, .int 14] ∧ kiB i 30 = inV (.int i) [.int 17, .int 18] ∧ kiB i 32 = decide (18 < (i : Int)) ∧ (13 ≤ (i : Int) → kiB i 31 = decide ((i : Int) ≤ 18)) ∧ (¬ 13 ≤ (i : Int) → kiB i 31 = false) := by decide +kernel

theorem int_len {i : Int} (h : i.natAbs < 2 ^ 110) : (Str.ofString (toString i)).length ≤ 200 := by
  have z := PySem.int_text_length_le (k := 110) (by decide) (PySem.Flt.log2_lt_of (by decide) h)
  rw [ofString_length]
  omega

structure Sml (d : PyData) : Prop where
  nd : d.hasDict = false
  sh : d.showable = true
  dp : d.depth ≤ 3
  ls : d.leavesShort 200 = true
  w : d.weight ≤ 300
def Good (K : PySem.W.Frag) (H : Hp) (v : V) : Prop := ∃ d, Dp K H v d ∧ Sml d
theorem Good.up {K : PySem.W.Frag} {H H' : Hp} {v : V} (h : Good K H v) (k : Same H H') : Good K H' v := by
  obtain ⟨d, a, s⟩ := h
  exact ⟨d, dp_up k a, s⟩
theorem int_sml {i : Int} (h : i.natAbs < 2 ^ 110) : Sml (.int i) := by
  have hl : i.natAbs.log2 < 110 := PySem.Flt.log2_lt_of (by decide) h
  refine ⟨rfl, decide_eq_true (by omega), by simp [PyData.depth], ?_, ?_⟩
  · refine decide_eq_true ?_
    show (Str.ofString (toString i)).length ≤ 200
    exact int_len h
  · show Builtin.Int.intBits i ≤ 300
    unfold Builtin.Int.intBits
    split <;> omega
def someO (r1 r2 : Int) (p3 p4 : Addr) : List V := [.int r1, .int (0 - r2), .non, .str "x", .bl true, .ref p3, .ref p4, .int (10 ^ (29 : Int).toNat)]
theorem some_good {K : PySem.W.Frag} {H : Hp} {r1 r2 : Int} {p3 p4 : Addr} (h1 : 0 ≤ r1) (h2 : r1 < 100) (h3 : 0 ≤ r2) (h4 : r2 < 9) (e3 : H p3 = some (.lst [.int 3])) (e4 : H p4 = some (.tup [.int 1, .int 2])) : ∀ v ∈ someO r1 r2 p3 p4, Good K H v := by
  have b : (100 : Nat) ≤ 2 ^ 110 := by decide
  intro v hv
  unfold someO at hv
  simp only [List.mem_cons, List.not_mem_nil, or_false] at hv
  rcases hv with rfl | rfl | rfl | rfl | rfl | rfl | rfl | rfl
  · exact ⟨_, .int _, int_sml (Nat.lt_of_lt_of_le (by omega) b)⟩
  · exact ⟨_, .int _, int_sml (Nat.lt_of_lt_of_le (by omega) b)⟩
  · exact ⟨_, .non, ⟨rfl, by decide +kernel, by decide +kernel, by decide +kernel, by decide +kernel⟩⟩
  · exact ⟨_, .str _, ⟨rfl, by decide +kernel, by decide +kernel, by decide +kernel, by decide +kernel⟩⟩
  · exact ⟨_, .bl _, ⟨rfl, by decide +kernel, by decide +kernel, by decide +kernel, by decide +kernel⟩⟩
  · exact ⟨_, .lst (SqL.of e3) (.cons (.int _) .nil), ⟨by decide +kernel, by decide +kernel, by decide +kernel, by decide +kernel, by decide +kernel⟩⟩
  · exact ⟨_, .tup (SqT.of e4) (.cons (.int _) (.cons (.int _) .nil)), ⟨by decide +kernel, by decide +kernel, by decide +kernel, by decide +kernel, by decide +kernel⟩⟩
  · exact ⟨_, .int _, int_sml (by decide +kernel)⟩
theorem idx_of {L : List V} {n : Nat} (hl : L.length = n) {r : Int} (h0 : 0 ≤ r) (h1 : r < n) : ∃ v, atI L r = some v ∧ v ∈ L := by
  obtain ⟨m, rfl⟩ := Int.eq_ofNat_of_zero_le h0
  have hm : m < L.length := by omega
  exact ⟨L[m], atI_nat (j := m) (by simp [hm]), List.getElem_mem _⟩
def dueD (y z : PyData) : List PyData := [y, z, y, y, z, y, y, z, y, z, y, z, y, z, y, z]
theorem due_dp {K : PySem.W.Frag} {H : Hp} {y z : V} {dy dz : PyData} (a : Dp K H y dy) (b : Dp K H z dz) : DpAll K H (dueO y z) (dueD dy dz) :=
  .cons a (.cons b (.cons a (.cons a (.cons b (.cons a (.cons a (.cons b (.cons a (.cons b (.cons a (.cons b (.cons a (.cons b (.cons a (.cons b .nil)))))))))))))))
theorem due_shw {y z : PyData} (a : Sml y) (b : Sml z) : (PyData.list (dueD y z)).showable = true ∧ (PyData.list (dueD y z)).hasDict = false ∧ (PyData.list (dueD y z)).depth ≤ 64 ∧ (PyData.list (dueD y z)).shown.length ≤ sizeLine := by
  have h3 : PyData.leavesShortAll 200 (dueD y z) = true := by simp only [dueD, PyData.leavesShortAll, a.ls, b.ls, Bool.and_self]
  have hw : (PyData.list (dueD y z)).weight ≤ 5000 := by
    have := a.w
    have := b.w
    simp only [dueD, PyData.weight, PyData.weightAll]
    omega
  refine ⟨by simp only [dueD, PyData.showable, PyData.showableAll, a.sh, b.sh, Bool.and_self], by simp only [dueD, PyData.hasDict, PyData.hasDictAll, a.nd, b.nd, Bool.or_self], ?_, ?_⟩
  · have := a.dp
    have := b.dp
    simp only [dueD, PyData.depth, PyData.depthAll]
    omega
  · have z := PyData.shown_le 200 (by decide) (.list (dueD y z)) (by simp only [PyData.leavesShort]; exact h3)
    rw [sizeLine_eq]
    omega
theorem ErrAt.new {a : Nat → Addr} {H : Hp} {i : Nat} {y z v : V} {D : Addr} {xs : List V} {o : HO} (e : ErrAt a H i y z v) (hD : H D = some (.lst xs)) : ErrAt a (upd H D o) i y z v := by
  obtain ⟨x, dx, h1, h2, h3⟩ := e
  refine ⟨x, dx, h1, ?_, ?_⟩
  · rw [upd_ne (fun e => by
      rw [e, hD] at h2
      unfold ExK at h2
      cases h2)]
    exact h2
  · rw [upd_ne (fun e => by
      rw [e, hD] at h3
      cases h3)]
    exact h3

theorem ok_IWaitError {P : Program} {w : World} {K : PySem.W.Frag} {mg : Str → Option Value} {base : Heap} {a : Nat → Addr} {d : Nat → FuncData} (T : Txt K mg a d) {C : Addr} {B newId initId : String} {bm : List Value} (xo : XB.Own K C B newId initId bm) (no : PySem.W.findIn K (.ref C) "text" = some none) : FnOk P w K mg base CX0 1 (a 150) (d 150) ["self", "text"] (spI1 C "text") := by
  refine T.F_IWaitError.ok (CX := CX0) sc_IWaitError (fun vs H Q E h => ?_) (fun cdv A outer s0 H vs Q E hr h => ?_)
  · obtain ⟨x, y, rfl, _⟩ := h
    rfl
  · obtain ⟨x, y, rfl, hx, q⟩ := h
    refine ⟨_, PSs.nox (pss_one (XB.ps_put xo no (pv 0) (pv 1))), ?_⟩
    refine ⟨_, rfl, _, rfl, x, rfl, hx, fun dx n ne => ?_⟩
    exact q dx _ n ne upd_same (by rw [upd_ne ne]; exact upd_same) fun b n1 n2 => by rw [upd_ne n1, upd_ne n2]

theorem ok_INoBounds {P : Program} {w : World} {K : PySem.W.Frag} {mg : Str → Option Value} {base : Heap} {a : Nat → Addr} {d : Nat → FuncData} (T : Txt K mg a d) : FnOk P w K mg base CX0 1 (a 151) (d 151) ["self", "low", "high"] (spI2 (a 112) "low" "high") := by
  refine T.F_INoBounds.ok sc_INoBounds (fun vs H Q E h => ?_) (fun cdv A outer s0 H vs Q E hr h => ?_)
  · obtain ⟨x, y, z, rfl, _⟩ := h
    rfl
  · obtain ⟨x, y, z, rfl, hx, q⟩ := h
    refine ⟨_, pss_cons (XB.ps_put T.xo_NoBounds T.ne_NoBounds_low (pv 0) (pv 1)) (pss_one (XB.ps_putN T.xo_NoBounds T.ne_NoBounds_high (pv 0) (pv 2))), ?_⟩
    refine ⟨_, rfl, _, rfl, x, rfl, hx, fun dx n ne => ?_⟩
    refine ⟨_, rfl, _, rfl, x, dx, _, rfl, upd_same, (by rw [upd_ne ne]; exact upd_same), (by show 1 ≤ 900; decide), ?_⟩
    refine q dx _ n ne (by rw [upd_ne ne.symm]; exact upd_same) upd_same fun b n1 n2 => ?_
    rw [upd_ne n2, upd_ne n1, upd_ne n2]

theorem ok_INoText {P : Program} {w : World} {K : PySem.W.Frag} {mg : Str → Option Value} {base : Heap} {a : Nat → Addr} {d : Nat → FuncData} (T : Txt K mg a d) {C : Addr} {B newId initId : String} {bm : List Value} (xo : XB.Own K C B newId initId bm) (no : PySem.W.findIn K (.ref C) "row" = some none) : FnOk P w K mg base CX0 1 (a 152) (d 152) ["self", "row"] (spI1 C "row") := by
  refine T.F_INoText.ok sc_INoText (fun vs H Q E h => ?_) (fun cdv A outer s0 H vs Q E hr h => ?_)
  · obtain ⟨x, y, rfl, _⟩ := h
    rfl
  · obtain ⟨x, y, rfl, hx, q⟩ := h
    refine ⟨_, (pss_one (XB.ps_put xo no (pv 0) (pv 1))), ?_⟩
    refine ⟨_, rfl, _, rfl, x, rfl, hx, fun dx n ne => ?_⟩
    exact q dx _ n ne upd_same (by rw [upd_ne ne]; exact upd_same) fun b n1 n2 => by rw [upd_ne n1, upd_ne n2]

theorem ok_INoKey {P : Program} {w : World} {K : PySem.W.Frag} {mg : Str → Option Value} {base : Heap} {a : Nat → Addr} {d : Nat → FuncData} (T : Txt K mg a d) {C : Addr} {B newId initId : String} {bm : List Value} (xo : XB.Own K C B newId initId bm) (no : PySem.W.findIn K (.ref C) "key" = some none) : FnOk P w K mg base CX0 1 (a 153) (d 153) ["self", "key"] (spI1 C "key") := by
  refine T.F_INoKey.ok sc_INoKey (fun vs H Q E h => ?_) (fun cdv A outer s0 H vs Q E hr h => ?_)
  · obtain ⟨x, y, rfl, _⟩ := h
    rfl
  · obtain ⟨x, y, rfl, hx, q⟩ := h
    refine ⟨_, (pss_one (XB.ps_put xo no (pv 0) (pv 1))), ?_⟩
    refine ⟨_, rfl, _, rfl, x, rfl, hx, fun dx n ne => ?_⟩
    exact q dx _ n ne upd_same (by rw [upd_ne ne]; exact upd_same) fun b n1 n2 => by rw [upd_ne n1, upd_ne n2]

theorem ok_INoName {P : Program} {w : World} {K : PySem.W.Frag} {mg : Str → Option Value} {base : Heap} {a : Nat → Addr} {d : Nat → FuncData} (T : Txt K mg a d) {C : Addr} {B newId initId : String} {bm : List Value} (xo : XB.Own K C B newId initId bm) (no : PySem.W.findIn K (.ref C) "name" = some none) : FnOk P w K mg base CX0 1 (a 154) (d 154) ["self", "name"] (spI1 C "name") := by
  refine T.F_INoName.ok sc_INoName (fun vs H Q E h => ?_) (fun cdv A outer s0 H vs Q E hr h => ?_)
  · obtain ⟨x, y, rfl, _⟩ := h
    rfl
  · obtain ⟨x, y, rfl, hx, q⟩ := h
    refine ⟨_, (pss_one (XB.ps_put xo no (pv 0) (pv 1))), ?_⟩
    refine ⟨_, rfl, _, rfl, x, rfl, hx, fun dx n ne => ?_⟩
    exact q dx _ n ne upd_same (by rw [upd_ne ne]; exact upd_same) fun b n1 n2 => by rw [upd_ne n1, upd_ne n2]

theorem ok_IGone {P : Program} {w : World} {K : PySem.W.Frag} {mg : Str → Option Value} {base : Heap} {a : Nat → Addr} {d : Nat → FuncData} (T : Txt K mg a d) {C : Addr} {B newId initId : String} {bm : List Value} (xo : XB.Own K C B newId initId bm) (no : PySem.W.findIn K (.ref C) "time" = some none) : FnOk P w K mg base CX0 1 (a 155) (d 155) ["self", "time"] (spI1 C "time") := by
  refine T.F_IGone.ok sc_IGone (fun vs H Q E h => ?_) (fun cdv A outer s0 H vs Q E hr h => ?_)
  · obtain ⟨x, y, rfl, _⟩ := h
    rfl
  · obtain ⟨x, y, rfl, hx, q⟩ := h
    refine ⟨_, (pss_one (XB.ps_put xo no (pv 0) (pv 1))), ?_⟩
    refine ⟨_, rfl, _, rfl, x, rfl, hx, fun dx n ne => ?_⟩
    exact q dx _ n ne upd_same (by rw [upd_ne ne]; exact upd_same) fun b n1 n2 => by rw [upd_ne n1, upd_ne n2]

theorem ok_IElsewhere {P : Program} {w : World} {K : PySem.W.Frag} {mg : Str → Option Value} {base : Heap} {a : Nat → Addr} {d : Nat → FuncData} (T : Txt K mg a d) : FnOk P w K mg base CX0 1 (a 156) (d 156) ["self", "key", "house"] (spI2 (a 117) "key" "house") := by
  refine T.F_IElsewhere.ok sc_IElsewhere (fun vs H Q E h => ?_) (fun cdv A outer s0 H vs Q E hr h => ?_)
  · obtain ⟨x, y, z, rfl, _⟩ := h
    rfl
  · obtain ⟨x, y, z, rfl, hx, q⟩ := h
    refine ⟨_, pss_cons (XB.ps_put T.xo_Elsewhere T.ne_Elsewhere_key (pv 0) (pv 1)) (pss_one (XB.ps_putN T.xo_Elsewhere T.ne_Elsewhere_house (pv 0) (pv 2))), ?_⟩
    refine ⟨_, rfl, _, rfl, x, rfl, hx, fun dx n ne => ?_⟩
    refine ⟨_, rfl, _, rfl, x, dx, _, rfl, upd_same, (by rw [upd_ne ne]; exact upd_same), (by show 1 ≤ 900; decide), ?_⟩
    refine q dx _ n ne (by rw [upd_ne ne.symm]; exact upd_same) upd_same fun b n1 n2 => ?_
    rw [upd_ne n2, upd_ne n1, upd_ne n2]

theorem ok_INoCopy {P : Program} {w : World} {K : PySem.W.Frag} {mg : Str → Option Value} {base : Heap} {a : Nat → Addr} {d : Nat → FuncData} (T : Txt K mg a d) {C : Addr} {B newId initId : String} {bm : List Value} (xo : XB.Own K C B newId initId bm) (no : PySem.W.findIn K (.ref C) "copy" = some none) : FnOk P w K mg base CX0 1 (a 157) (d 157) ["self", "copy"] (spI1 C "copy") := by
  refine T.F_INoCopy.ok sc_INoCopy (fun vs H Q E h => ?_) (fun cdv A outer s0 H vs Q E hr h => ?_)
  · obtain ⟨x, y, rfl, _⟩ := h
    rfl
  · obtain ⟨x, y, rfl, hx, q⟩ := h
    refine ⟨_, (pss_one (XB.ps_put xo no (pv 0) (pv 1))), ?_⟩
    refine ⟨_, rfl, _, rfl, x, rfl, hx, fun dx n ne => ?_⟩
    exact q dx _ n ne upd_same (by rw [upd_ne ne]; exact upd_same) fun b n1 n2 => by rw [upd_ne n1, upd_ne n2]

theorem ok_INoDealing {P : Program} {w : World} {K : PySem.W.Frag} {mg : Str → Option Value} {base : Heap} {a : Nat → Addr} {d : Nat → FuncData} (T : Txt K mg a d) {C : Addr} {B newId initId : String} {bm : List Value} (xo : XB.Own K C B newId initId bm) (no : PySem.W.findIn K (.ref C) "dealing" = some none) : FnOk P w K mg base CX0 1 (a 158) (d 158) ["self", "dealing"] (spI1 C "dealing") := by
  refine T.F_INoDealing.ok sc_INoDealing (fun vs H Q E h => ?_) (fun cdv A outer s0 H vs Q E hr h => ?_)
  · obtain ⟨x, y, rfl, _⟩ := h
    rfl
  · obtain ⟨x, y, rfl, hx, q⟩ := h
    refine ⟨_, (pss_one (XB.ps_put xo no (pv 0) (pv 1))), ?_⟩
    refine ⟨_, rfl, _, rfl, x, rfl, hx, fun dx n ne => ?_⟩
    exact q dx _ n ne upd_same (by rw [upd_ne ne]; exact upd_same) fun b n1 n2 => by rw [upd_ne n1, upd_ne n2]

theorem ok_INoHold {P : Program} {w : World} {K : PySem.W.Frag} {mg : Str → Option Value} {base : Heap} {a : Nat → Addr} {d : Nat → FuncData} (T : Txt K mg a d) {C : Addr} {B newId initId : String} {bm : List Value} (xo : XB.Own K C B newId initId bm) (no : PySem.W.findIn K (.ref C) "key" = some none) : FnOk P w K mg base CX0 1 (a 159) (d 159) ["self", "key"] (spI1 C "key") := by
  refine T.F_INoHold.ok sc_INoHold (fun vs H Q E h => ?_) (fun cdv A outer s0 H vs Q E hr h => ?_)
  · obtain ⟨x, y, rfl, _⟩ := h
    rfl
  · obtain ⟨x, y, rfl, hx, q⟩ := h
    refine ⟨_, (pss_one (XB.ps_put xo no (pv 0) (pv 1))), ?_⟩
    refine ⟨_, rfl, _, rfl, x, rfl, hx, fun dx n ne => ?_⟩
    exact q dx _ n ne upd_same (by rw [upd_ne ne]; exact upd_same) fun b n1 n2 => by rw [upd_ne n1, upd_ne n2]

theorem ok_INoHead {P : Program} {w : World} {K : PySem.W.Frag} {mg : Str → Option Value} {base : Heap} {a : Nat → Addr} {d : Nat → FuncData} (T : Txt K mg a d) {C : Addr} {B newId initId : String} {bm : List Value} (xo : XB.Own K C B newId initId bm) (no : PySem.W.findIn K (.ref C) "house" = some none) : FnOk P w K mg base CX0 1 (a 160) (d 160) ["self", "house"] (spI1 C "house") := by
  refine T.F_INoHead.ok sc_INoHead (fun vs H Q E h => ?_) (fun cdv A outer s0 H vs Q E hr h => ?_)
  · obtain ⟨x, y, rfl, _⟩ := h
    rfl
  · obtain ⟨x, y, rfl, hx, q⟩ := h
    refine ⟨_, (pss_one (XB.ps_put xo no (pv 0) (pv 1))), ?_⟩
    refine ⟨_, rfl, _, rfl, x, rfl, hx, fun dx n ne => ?_⟩
    exact q dx _ n ne upd_same (by rw [upd_ne ne]; exact upd_same) fun b n1 n2 => by rw [upd_ne n1, upd_ne n2]

theorem ok_IWaits {P : Program} {w : World} {K : PySem.W.Frag} {mg : Str → Option Value} {base : Heap} {a : Nat → Addr} {d : Nat → FuncData} (T : Txt K mg a d) {C : Addr} {B newId initId : String} {bm : List Value} (xo : XB.Own K C B newId initId bm) (no : PySem.W.findIn K (.ref C) "time" = some none) : FnOk P w K mg base CX0 1 (a 161) (d 161) ["self", "time"] (spI1 C "time") := by
  refine T.F_IWaits.ok sc_IWaits (fun vs H Q E h => ?_) (fun cdv A outer s0 H vs Q E hr h => ?_)
  · obtain ⟨x, y, rfl, _⟩ := h
    rfl
  · obtain ⟨x, y, rfl, hx, q⟩ := h
    refine ⟨_, (pss_one (XB.ps_put xo no (pv 0) (pv 1))), ?_⟩
    refine ⟨_, rfl, _, rfl, x, rfl, hx, fun dx n ne => ?_⟩
    exact q dx _ n ne upd_same (by rw [upd_ne ne]; exact upd_same) fun b n1 n2 => by rw [upd_ne n1, upd_ne n2]

theorem ok_IEarly {P : Program} {w : World} {K : PySem.W.Frag} {mg : Str → Option Value} {base : Heap} {a : Nat → Addr} {d : Nat → FuncData} (T : Txt K mg a d) {C : Addr} {B newId initId : String} {bm : List Value} (xo : XB.Own K C B newId initId bm) (no : PySem.W.findIn K (.ref C) "time" = some none) : FnOk P w K mg base CX0 1 (a 162) (d 162) ["self", "time"] (spI1 C "time") := by
  refine T.F_IEarly.ok sc_IEarly (fun vs H Q E h => ?_) (fun cdv A outer s0 H vs Q E hr h => ?_)
  · obtain ⟨x, y, rfl, _⟩ := h
    rfl
  · obtain ⟨x, y, rfl, hx, q⟩ := h
    refine ⟨_, (pss_one (XB.ps_put xo no (pv 0) (pv 1))), ?_⟩
    refine ⟨_, rfl, _, rfl, x, rfl, hx, fun dx n ne => ?_⟩
    exact q dx _ n ne upd_same (by rw [upd_ne ne]; exact upd_same) fun b n1 n2 => by rw [upd_ne n1, upd_ne n2]

theorem ok_IOff {P : Program} {w : World} {K : PySem.W.Frag} {mg : Str → Option Value} {base : Heap} {a : Nat → Addr} {d : Nat → FuncData} (T : Txt K mg a d) {C : Addr} {B newId initId : String} {bm : List Value} (xo : XB.Own K C B newId initId bm) (no : PySem.W.findIn K (.ref C) "dealing" = some none) : FnOk P w K mg base CX0 1 (a 163) (d 163) ["self", "dealing"] (spI1 C "dealing") := by
  refine T.F_IOff.ok sc_IOff (fun vs H Q E h => ?_) (fun cdv A outer s0 H vs Q E hr h => ?_)
  · obtain ⟨x, y, rfl, _⟩ := h
    rfl
  · obtain ⟨x, y, rfl, hx, q⟩ := h
    refine ⟨_, (pss_one (XB.ps_put xo no (pv 0) (pv 1))), ?_⟩
    refine ⟨_, rfl, _, rfl, x, rfl, hx, fun dx n ne => ?_⟩
    exact q dx _ n ne upd_same (by rw [upd_ne ne]; exact upd_same) fun b n1 n2 => by rw [upd_ne n1, upd_ne n2]

theorem ok_ISure {P : Program} {w : World} {K : PySem.W.Frag} {mg : Str → Option Value} {base : Heap} {a : Nat → Addr} {d : Nat → FuncData} (T : Txt K mg a d) {C : Addr} {B newId initId : String} {bm : List Value} (xo : XB.Own K C B newId initId bm) (no : PySem.W.findIn K (.ref C) "stamp" = some none) : FnOk P w K mg base CX0 1 (a 164) (d 164) ["self", "stamp"] (spI1 C "stamp") := by
  refine T.F_ISure.ok sc_ISure (fun vs H Q E h => ?_) (fun cdv A outer s0 H vs Q E hr h => ?_)
  · obtain ⟨x, y, rfl, _⟩ := h
    rfl
  · obtain ⟨x, y, rfl, hx, q⟩ := h
    refine ⟨_, (pss_one (XB.ps_put xo no (pv 0) (pv 1))), ?_⟩
    refine ⟨_, rfl, _, rfl, x, rfl, hx, fun dx n ne => ?_⟩
    exact q dx _ n ne upd_same (by rw [upd_ne ne]; exact upd_same) fun b n1 n2 => by rw [upd_ne n1, upd_ne n2]

theorem ok_IUnset {P : Program} {w : World} {K : PySem.W.Frag} {mg : Str → Option Value} {base : Heap} {a : Nat → Addr} {d : Nat → FuncData} (T : Txt K mg a d) {C : Addr} {B newId initId : String} {bm : List Value} (xo : XB.Own K C B newId initId bm) (no : PySem.W.findIn K (.ref C) "text" = some none) : FnOk P w K mg base CX0 1 (a 165) (d 165) ["self", "text"] (spI1 C "text") := by
  refine T.F_IUnset.ok sc_IUnset (fun vs H Q E h => ?_) (fun cdv A outer s0 H vs Q E hr h => ?_)
  · obtain ⟨x, y, rfl, _⟩ := h
    rfl
  · obtain ⟨x, y, rfl, hx, q⟩ := h
    refine ⟨_, (pss_one (XB.ps_put xo no (pv 0) (pv 1))), ?_⟩
    refine ⟨_, rfl, _, rfl, x, rfl, hx, fun dx n ne => ?_⟩
    exact q dx _ n ne upd_same (by rw [upd_ne ne]; exact upd_same) fun b n1 n2 => by rw [upd_ne n1, upd_ne n2]

theorem ok_IBare {P : Program} {w : World} {K : PySem.W.Frag} {mg : Str → Option Value} {base : Heap} {a : Nat → Addr} {d : Nat → FuncData} (T : Txt K mg a d) {C : Addr} {B newId initId : String} {bm : List Value} (xo : XB.Own K C B newId initId bm) (no : PySem.W.findIn K (.ref C) "text" = some none) : FnOk P w K mg base CX0 1 (a 166) (d 166) ["self", "text"] (spI1 C "text") := by
  refine T.F_IBare.ok sc_IBare (fun vs H Q E h => ?_) (fun cdv A outer s0 H vs Q E hr h => ?_)
  · obtain ⟨x, y, rfl, _⟩ := h
    rfl
  · obtain ⟨x, y, rfl, hx, q⟩ := h
    refine ⟨_, (pss_one (XB.ps_put xo no (pv 0) (pv 1))), ?_⟩
    refine ⟨_, rfl, _, rfl, x, rfl, hx, fun dx n ne => ?_⟩
    exact q dx _ n ne upd_same (by rw [upd_ne ne]; exact upd_same) fun b n1 n2 => by rw [upd_ne n1, upd_ne n2]

theorem ok_l_begun {P : Program} {w : World} {K : PySem.W.Frag} {mg : Str → Option Value} {base : Heap} {a : Nat → Addr} {d : Nat → FuncData} (T : Txt K mg a d) : FnOk P w K mg base CX0 1 (a 0) (d 0) ["_law_script", "_law_k"] (spBegun K) := by
  refine T.F_l_begun.ok sc_l_begun (fun vs H Q E h => ?_) (fun cdv A outer s0 H vs Q E hr h => ?_)
  · obtain ⟨l, ns, k, rfl, hS, hl, hk0, hk1, q⟩ := h
    rfl
  · obtain ⟨l, ns, k, rfl, hS, hl, hk0, hk1, q⟩ := h
    have hc := cell_at ns (some k) (some (k + 1))
    obtain ⟨c, hc⟩ := hc
    refine ⟨_, (pss_cons (ps_set (i := 2) sc_l_begun.nd rfl (Or.inl rfl) (pe_ix ix_list (pe_op op_cat (pe_slice sl_list (pv 0) (po_some (pv 1)) (po_some (pe_op op_add (pv 1) pe_int))) (pe_lst (pa_cons pe_int pa_nil))) pe_int (fun _ _ => rfl))) (pss_cons (ps_set (i := 3) sc_l_begun.nd rfl (Or.inl rfl) (pe_callB (call_max2 rfl) (by rfl) T.z_max (by decide +kernel) (pa_cons (pv 2) (pa_cons (pe_op op_sub (pe_un un_neg pe_int) (pv 2)) pa_nil)))) (pss_cons (ps_set (i := 4) sc_l_begun.nd rfl (Or.inl rfl) (pe_op op_mod (pe_op op_add (pe_op op_add (pe_op op_add (pe_op op_mod (pv 3) pe_int) (pe_op op_mul pe_int (pv 1))) (pe_op op_mul (pe_op op_mul pe_int (pv 1)) (pv 1))) pe_int) pe_int)) (pss_one (ps_ret (pe_lst (pa_cons (pv 3) (pa_cons (pv 4) (pa_cons (pe_cmpR op_ge (pv 3) (pe_op op_pow pe_int pe_int) (nomark _)) pa_nil))))))))), ?_⟩
    refine ⟨_, rfl, _, rfl, k, rfl, _, rfl, k, 1, rfl, rfl, k + 1, rfl, l, _, rfl, hS, fun p1 n1 => ?_⟩
    refine ⟨len1, fun p2 n2 => ?_⟩
    have n12 : p1 ≠ p2 := fun e => by rw [e] at n1; rw [← e, upd_same] at n2; cases n2
    refine ⟨p1, p2, _, _, rfl, rfl, (by rw [upd_ne n12]; exact upd_same), upd_same, ?_, fun p3 n3 => ?_⟩
    · have z := cut_len (ns.map V.int) (some k) (some (k + 1))
      rw [List.length_map] at z
      exact Nat.le_trans (Nat.add_le_add_right (Nat.le_trans z hl) 1) (by decide)
    refine ⟨p3, _, 0, _, rfl, rfl, SqL.of upd_same, hc, ?_⟩
    refine ⟨_, rfl, 1, rfl, _, rfl, -1, c, rfl, rfl, c, -1 - c, rfl, ?_⟩
    refine ⟨_, rfl, _, _, rfl, rfl, (by show (0 : Int) < 2147483629; decide), _, rfl, 7919, k, rfl, rfl, .inl (m64 (by decide) (by decide)), _, _, rfl, rfl, ?_⟩
    refine ⟨_, rfl, 104729, k, rfl, rfl, .inl (m64 (by decide) (by decide)), _, rfl, _, k, rfl, rfl, .inr (m64 (by omega) (by omega)), _, _, rfl, rfl, _, 11, rfl, rfl, _, _, rfl, rfl, (by show (0 : Int) < 2147483629; decide), ?_⟩
    refine ⟨_, rfl, _, rfl, _, rfl, 10, 18, rfl, rfl, ⟨by decide, by decide, by decide⟩, _, _, rfl, rfl, len3, fun p4 n4 => ?_⟩
    refine q p4 _ (Same.free (same_new (same_new (same_new (Same.refl H) n1) n2) n3) n4) (same_new (same_new (same_new (same_new (Same.refl H) n1) n2) n3) n4) ⟨_, _, _, upd_same, ?_, ?_⟩
    · exact Int.emod_nonneg _ (by decide)
    · exact Int.lt_trans (Int.emod_lt_of_pos _ (by decide)) (by decide)

theorem ok_l_take {P : Program} {w : World} {K : PySem.W.Frag} {mg : Str → Option Value} {base : Heap} {a : Nat → Addr} {d : Nat → FuncData} (T : Txt K mg a d) : FnOk P w K mg base CX0 1 (a 1) (d 1) ["_law_state", "_law_many"] spTake := by
  refine T.F_l_take.ok sc_l_take (fun vs H Q E h => ?_) (fun cdv A outer s0 H vs Q E hr h => ?_)
  · obtain ⟨s, m, rfl, ⟨x, y, c, hs, y0, y1⟩, m0, m1, q⟩ := h
    rfl
  · obtain ⟨s, m, rfl, ⟨x, y, c, hs, y0, y1⟩, m0, m1, q⟩ := h
    refine ⟨_, (pss_cons (ps_if (pt_truth (pe_ix ix_list (pv 0) pe_int (fun _ _ => rfl)) (by intro _; rfl)) (pss_cons (ps_set (i := 2) sc_l_take.nd rfl (Or.inl rfl) (pe_op op_mod (pe_ix ix_list (pv 0) pe_int (fun _ _ => rfl)) (pv 1))) (pss_cons (ps_asg (pe_op op_fdivW (pe_ix ix_list (pv 0) pe_int (fun _ _ => rfl)) (pv 1)) (pg_sub (pv 0) pe_int set_list)) (pss_cons (ps_asg (pe_cmpR op_gt (pe_ix ix_list (pv 0) pe_int (fun _ _ => rfl)) pe_int (nomark _)) (pg_sub (pv 0) pe_int set_list)) (pss_one (ps_ret (pv 2)))))) pss_nil) (pss_cons (ps_set (i := 3) sc_l_take.nd rfl (Or.inl rfl) pe_int) (pss_cons (ps_for PassesOwn.never rfl (pi_range1 (by rfl) T.z_range (pa_cons (pe_op op_add pe_int (pe_callTy call_int1 (by rfl) T.z_int (by decide +kernel) (pa_cons (pe_cmpR op_gt (pv 1) (pe_op op_pow pe_int pe_int) (nomark _)) pa_nil))) pa_nil)) (pg_name (i := 4) sc_l_take.nd rfl (.inl rfl)) (pss_cons (ps_asg (pe_op op_mod (pe_op op_add (pe_op op_mul (pe_ix ix_list (pv 0) pe_int (fun _ _ => rfl)) pe_int) pe_int) pe_int) (pg_sub (pv 0) pe_int set_list)) (pss_one (ps_set (i := 3) sc_l_take.nd rfl (Or.inl rfl) (pe_op op_add (pe_op op_mul (pv 3) pe_int) (pe_op op_mod (pe_op op_mul (pe_ix ix_list (pv 0) pe_int (fun _ _ => rfl)) (pe_ix ix_list (pv 0) pe_int (fun _ _ => rfl))) pe_int)))))) (pss_one (ps_ret (pe_op op_mod (pe_op op_fdiv (pv 3) pe_int) (pv 1))))))), ?_⟩
    refine ⟨_, rfl, s, _, 2, _, rfl, rfl, SqL.of hs, rfl, c, rfl, ?_⟩
    cases c with
    | true =>
      refine iteT ?_
      refine ⟨_, rfl, s, _, 0, _, rfl, rfl, SqL.of hs, rfl, _, rfl, x, m, rfl, rfl, m0, ?_⟩
      refine ⟨_, rfl, s, _, 0, _, rfl, rfl, SqL.of hs, rfl, _, rfl, x, m, rfl, rfl, divW m0 (p2000 m1), _, rfl, s, _, 0, 0, rfl, rfl, hs, rfl, ?_⟩
      refine ⟨_, rfl, s, _, 0, _, rfl, rfl, SqL.of upd_same, rfl, _, 0, rfl, rfl, _, rfl, s, _, 2, 2, rfl, rfl, upd_same, rfl, ?_⟩
      refine ⟨_, rfl, ?_⟩
      refine q _ _ (Int.emod_nonneg _ (by omega)) (Int.emod_lt_of_pos _ m0) ⟨fun b o n e => ?_, ⟨_, _, _, upd_same, y0, y1⟩⟩
      rw [upd_ne n, upd_ne n]
      exact e
    | false =>
      refine iteF ?_
      refine ⟨_, rfl, 10, 6, rfl, rfl, ⟨by decide, by decide, by decide⟩, m, _, rfl, rfl, .inr ⟨_, rfl, 1, _, rfl, rfl, _, rfl, ?_, ?_, ?_⟩⟩
      · cases decide ((10 : Int) ^ (6 : Int).toNat < m) <;> decide
      · cases decide ((10 : Int) ^ (6 : Int).toNat < m) <;> decide
      refine for_range (fun i σ H' => ∃ (made : Int) (t : Option V), σ = [some (.ref s), some (.int m), none, some (.int made), t] ∧ Kp s H H') ⟨0, none, rfl, ⟨fun _ _ _ e => e, _, _, _, hs, y0, y1⟩⟩ ?_ ?_
      · rintro i σ H' hi ⟨made, t, rfl, k, ⟨x', y', c', hs', y0', y1'⟩⟩
        refine ⟨_, rfl, s, _, 1, _, rfl, rfl, SqL.of hs', rfl, y', 48271, rfl, rfl, .inr (m64 (by decide) (by decide)), _, 11, rfl, rfl, _, 2147483647, rfl, rfl, (by show (0 : Int) < 2147483647; decide), _, rfl, s, _, 1, 1, rfl, rfl, hs', rfl, ?_⟩
        have e0 : 0 ≤ (y' * 48271 + 11) % 2147483647 := Int.emod_nonneg _ (by decide)
        have e1 : (y' * 48271 + 11) % 2147483647 < 2147483647 := Int.emod_lt_of_pos _ (by decide)
        refine ⟨_, rfl, made, 2147483587, rfl, rfl, .inr (m64 (by decide) (by decide)), _, rfl, s, _, 1, _, rfl, rfl, SqL.of upd_same, rfl, _, rfl, s, _, 1, _, rfl, rfl, SqL.of upd_same, rfl, _, _, rfl, rfl, .inl (m64 (by omega) (by omega)), _, 2147483587, rfl, rfl, (by show (0 : Int) < 2147483587; decide), _, _, rfl, rfl, ?_⟩
        refine ⟨_, _, rfl, ⟨fun b o n e => ?_, _, _, _, upd_same, e0, e1⟩⟩
        rw [upd_ne n]
        exact k b o n e
      · rintro σ H' ⟨made, t, rfl, k⟩
        refine ⟨_, rfl, made, 64, rfl, rfl, ⟨by decide, by decide⟩, _, rfl, _, m, rfl, rfl, m0, ?_⟩
        exact q _ _ (Int.emod_nonneg _ (by omega)) (Int.emod_lt_of_pos _ m0) k

theorem ok_l_by_text {P : Program} {w : World} {K : PySem.W.Frag} {mg : Str → Option Value} {base : Heap} {a : Nat → Addr} {d : Nat → FuncData} (T : Txt K mg a d) : FnOk P w K mg base (L2.CX P w) 3 (a 2) (d 2) ["_law_number", "_law_one", "_law_two"] (spBy 0 11 a) := by
  refine T.F_l_by_text.okX sc_l_by_text (fun vs H Q E h => ?_) (fun cdv A outer s0 H vs Q E hr h => ?_)
  · obtain ⟨i, y, z, rfl, h1, h2, q⟩ := h
    rfl
  · obtain ⟨i, y, z, rfl, h1, h2, q⟩ := h
    refine ⟨_, (pss_cons (ps_if (pt_cmpR op_eq (pv 0) pe_int (nomark _)) (pss_one (ps_raise rfl (takes_of rfl rfl rfl rfl) (XB.pmk T.xo_NoNumber T.ie_NoNumber T.te_WaitError (ok_IWaitError T T.xo_NoNumber T.ne_NoNumber_text) (hr.mono (by decide)) T.b_IWaitError pass0 (by rfl) T.gE_NoNumber (pa_cons pe_str pa_nil)))) pss_nil) (pss_cons (ps_if (pt_cmpR op_eq (pv 0) pe_int (nomark _)) (pss_one (ps_raise rfl (takes_of rfl rfl rfl rfl) (XB.pmk T.xo_NoDrift T.ie_NoDrift T.te_WaitError (ok_IWaitError T T.xo_NoDrift T.ne_NoDrift_text) (hr.mono (by decide)) T.b_IWaitError pass0 (by rfl) T.gE_NoDrift (pa_cons pe_str pa_nil)))) pss_nil) (pss_cons (ps_if (pt_cmpR op_eq (pv 0) pe_int (nomark _)) (pss_one (ps_raise rfl (takes_of rfl rfl rfl rfl) (XB.pmk T.xo_NoShare T.ie_NoShare T.te_WaitError (ok_IWaitError T T.xo_NoShare T.ne_NoShare_text) (hr.mono (by decide)) T.b_IWaitError pass0 (by rfl) T.gE_NoShare (pa_cons pe_str pa_nil)))) pss_nil) (pss_cons (ps_if (pt_cmpR op_eq (pv 0) pe_int (nomark _)) (pss_one (ps_raise rfl (takes_of rfl rfl rfl rfl) (XB.pmk T.xo_NoPace T.ie_NoPace T.te_WaitError (ok_IWaitError T T.xo_NoPace T.ne_NoPace_text) (hr.mono (by decide)) T.b_IWaitError pass0 (by rfl) T.gE_NoPace (pa_cons pe_str pa_nil)))) pss_nil) (pss_cons (ps_if (pt_cmpR op_eq (pv 0) pe_int (nomark _)) (pss_one (ps_raise rfl (takes_of rfl rfl rfl rfl) (XB.pmk T.xo_NoStamp T.ie_NoStamp T.te_WaitError (ok_IWaitError T T.xo_NoStamp T.ne_NoStamp_text) (hr.mono (by decide)) T.b_IWaitError pass0 (by rfl) T.gE_NoStamp (pa_cons pe_str pa_nil)))) pss_nil) (pss_cons (ps_if (pt_cmpR op_eq (pv 0) pe_int (nomark _)) (pss_one (ps_raise rfl (takes_of rfl rfl rfl rfl) (XB.pmk T.xo_NoWorth T.ie_NoWorth T.te_WaitError (ok_IWaitError T T.xo_NoWorth T.ne_NoWorth_text) (hr.mono (by decide)) T.b_IWaitError pass0 (by rfl) T.gE_NoWorth (pa_cons pe_str pa_nil)))) pss_nil) (pss_cons (ps_if (pt_cmpR op_eq (pv 0) pe_int (nomark _)) (pss_one (ps_raise rfl (takes_of rfl rfl rfl rfl) (XB.pmk T.xo_NoLetter T.ie_NoLetter T.te_WaitError (ok_IWaitError T T.xo_NoLetter T.ne_NoLetter_text) (hr.mono (by decide)) T.b_IWaitError pass0 (by rfl) T.gE_NoLetter (pa_cons pe_str pa_nil)))) pss_nil) (pss_cons (ps_if (pt_cmpR op_eq (pv 0) pe_int (nomark _)) (pss_one (ps_raise rfl (takes_of rfl rfl rfl rfl) (XB.pmk T.xo_NoForm T.ie_NoForm T.te_WaitError (ok_IWaitError T T.xo_NoForm T.ne_NoForm_text) (hr.mono (by decide)) T.b_IWaitError pass0 (by rfl) T.gE_NoForm (pa_cons pe_str pa_nil)))) pss_nil) (pss_cons (ps_if (pt_cmpR op_eq (pv 0) pe_int (nomark _)) (pss_one (ps_raise rfl (takes_of rfl rfl rfl rfl) (XB.pmk T.xo_NoDeed T.ie_NoDeed T.te_WaitError (ok_IWaitError T T.xo_NoDeed T.ne_NoDeed_text) (hr.mono (by decide)) T.b_IWaitError pass0 (by rfl) T.gE_NoDeed (pa_cons pe_str pa_nil)))) pss_nil) (pss_cons (ps_if (pt_cmpR op_eq (pv 0) pe_int (nomark _)) (pss_one (ps_raise rfl (takes_of rfl rfl rfl rfl) (XB.pmk T.xo_NoHistory T.ie_NoHistory T.te_WaitError (ok_IWaitError T T.xo_NoHistory T.ne_NoHistory_text) (hr.mono (by decide)) T.b_IWaitError pass0 (by rfl) T.gE_NoHistory (pa_cons pe_str pa_nil)))) pss_nil) (pss_one (ps_raise rfl (takes_of rfl rfl rfl rfl) (XB.pmk T.xo_NoRow T.ie_NoRow T.te_WaitError (ok_IWaitError T T.xo_NoRow T.ne_NoRow_text) (hr.mono (by decide)) T.b_IWaitError pass0 (by rfl) T.gE_NoRow (pa_cons pe_str pa_nil)))))))))))))), ?_⟩
    obtain rfl | rfl | rfl | rfl | rfl | rfl | rfl | rfl | rfl | rfl | rfl : i = 0 ∨ i = 1 ∨ i = 2 ∨ i = 3 ∨ i = 4 ∨ i = 5 ∨ i = 6 ∨ i = 7 ∨ i = 8 ∨ i = 9 ∨ i = 10 := by omega
    · refine ⟨_, rfl, rfl, _, rfl, ite2 (fun _ => ?_) (fun h => absurd rfl h)⟩
      refine ⟨(by show 1 ≤ 1000; decide), fun x nx => ⟨x, _, rfl, upd_same, fun dx' H' ndx ne e1 e2 k => ?_⟩⟩
      have nd := ndx
      rw [upd_ne ne] at nd
      exact ⟨rfl, dx', _, e1, e2, nd, q dx' _ (same_err3 nx nd k) upd_same⟩
    · refine ⟨_, rfl, rfl, _, rfl, ite2 (fun h => absurd h (by decide)) (fun _ => ?_)⟩
      refine ⟨_, rfl, rfl, _, rfl, ite2 (fun _ => ?_) (fun h => absurd rfl h)⟩
      refine ⟨(by show 1 ≤ 1000; decide), fun x nx => ⟨x, _, rfl, upd_same, fun dx' H' ndx ne e1 e2 k => ?_⟩⟩
      have nd := ndx
      rw [upd_ne ne] at nd
      exact ⟨rfl, dx', _, e1, e2, nd, q dx' _ (same_err3 nx nd k) upd_same⟩
    · refine ⟨_, rfl, rfl, _, rfl, ite2 (fun h => absurd h (by decide)) (fun _ => ?_)⟩
      refine ⟨_, rfl, rfl, _, rfl, ite2 (fun h => absurd h (by decide)) (fun _ => ?_)⟩
      refine ⟨_, rfl, rfl, _, rfl, ite2 (fun _ => ?_) (fun h => absurd rfl h)⟩
      refine ⟨(by show 1 ≤ 1000; decide), fun x nx => ⟨x, _, rfl, upd_same, fun dx' H' ndx ne e1 e2 k => ?_⟩⟩
      have nd := ndx
      rw [upd_ne ne] at nd
      exact ⟨rfl, dx', _, e1, e2, nd, q dx' _ (same_err3 nx nd k) upd_same⟩
    · refine ⟨_, rfl, rfl, _, rfl, ite2 (fun h => absurd h (by decide)) (fun _ => ?_)⟩
      refine ⟨_, rfl, rfl, _, rfl, ite2 (fun h => absurd h (by decide)) (fun _ => ?_)⟩
      refine ⟨_, rfl, rfl, _, rfl, ite2 (fun h => absurd h (by decide)) (fun _ => ?_)⟩
      refine ⟨_, rfl, rfl, _, rfl, ite2 (fun _ => ?_) (fun h => absurd rfl h)⟩
      refine ⟨(by show 1 ≤ 1000; decide), fun x nx => ⟨x, _, rfl, upd_same, fun dx' H' ndx ne e1 e2 k => ?_⟩⟩
      have nd := ndx
      rw [upd_ne ne] at nd
      exact ⟨rfl, dx', _, e1, e2, nd, q dx' _ (same_err3 nx nd k) upd_same⟩
    · refine ⟨_, rfl, rfl, _, rfl, ite2 (fun h => absurd h (by decide)) (fun _ => ?_)⟩
      refine ⟨_, rfl, rfl, _, rfl, ite2 (fun h => absurd h (by decide)) (fun _ => ?_)⟩
      refine ⟨_, rfl, rfl, _, rfl, ite2 (fun h => absurd h (by decide)) (fun _ => ?_)⟩
      refine ⟨_, rfl, rfl, _, rfl, ite2 (fun h => absurd h (by decide)) (fun _ => ?_)⟩
      refine ⟨_, rfl, rfl, _, rfl, ite2 (fun _ => ?_) (fun h => absurd rfl h)⟩
      refine ⟨(by show 1 ≤ 1000; decide), fun x nx => ⟨x, _, rfl, upd_same, fun dx' H' ndx ne e1 e2 k => ?_⟩⟩
      have nd := ndx
      rw [upd_ne ne] at nd
      exact ⟨rfl, dx', _, e1, e2, nd, q dx' _ (same_err3 nx nd k) upd_same⟩
    · refine ⟨_, rfl, rfl, _, rfl, ite2 (fun h => absurd h (by decide)) (fun _ => ?_)⟩
      refine ⟨_, rfl, rfl, _, rfl, ite2 (fun h => absurd h (by decide)) (fun _ => ?_)⟩
      refine ⟨_, rfl, rfl, _, rfl, ite2 (fun h => absurd h (by decide)) (fun _ => ?_)⟩
      refine ⟨_, rfl, rfl, _, rfl, ite2 (fun h => absurd h (by decide)) (fun _ => ?_)⟩
      refine ⟨_, rfl, rfl, _, rfl, ite2 (fun h => absurd h (by decide)) (fun _ => ?_)⟩
      refine ⟨_, rfl, rfl, _, rfl, ite2 (fun _ => ?_) (fun h => absurd rfl h)⟩
      refine ⟨(by show 1 ≤ 1000; decide), fun x nx => ⟨x, _, rfl, upd_same, fun dx' H' ndx ne e1 e2 k => ?_⟩⟩
      have nd := ndx
      rw [upd_ne ne] at nd
      exact ⟨rfl, dx', _, e1, e2, nd, q dx' _ (same_err3 nx nd k) upd_same⟩
    · refine ⟨_, rfl, rfl, _, rfl, ite2 (fun h => absurd h (by decide)) (fun _ => ?_)⟩
      refine ⟨_, rfl, rfl, _, rfl, ite2 (fun h => absurd h (by decide)) (fun _ => ?_)⟩
      refine ⟨_, rfl, rfl, _, rfl, ite2 (fun h => absurd h (by decide)) (fun _ => ?_)⟩
      refine ⟨_, rfl, rfl, _, rfl, ite2 (fun h => absurd h (by decide)) (fun _ => ?_)⟩
      refine ⟨_, rfl, rfl, _, rfl, ite2 (fun h => absurd h (by decide)) (fun _ => ?_)⟩
      refine ⟨_, rfl, rfl, _, rfl, ite2 (fun h => absurd h (by decide)) (fun _ => ?_)⟩
      refine ⟨_, rfl, rfl, _, rfl, ite2 (fun _ => ?_) (fun h => absurd rfl h)⟩
      refine ⟨(by show 1 ≤ 1000; decide), fun x nx => ⟨x, _, rfl, upd_same, fun dx' H' ndx ne e1 e2 k => ?_⟩⟩
      have nd := ndx
      rw [upd_ne ne] at nd
      exact ⟨rfl, dx', _, e1, e2, nd, q dx' _ (same_err3 nx nd k) upd_same⟩
    · refine ⟨_, rfl, rfl, _, rfl, ite2 (fun h => absurd h (by decide)) (fun _ => ?_)⟩
      refine ⟨_, rfl, rfl, _, rfl, ite2 (fun h => absurd h (by decide)) (fun _ => ?_)⟩
      refine ⟨_, rfl, rfl, _, rfl, ite2 (fun h => absurd h (by decide)) (fun _ => ?_)⟩
      refine ⟨_, rfl, rfl, _, rfl, ite2 (fun h => absurd h (by decide)) (fun _ => ?_)⟩
      refine ⟨_, rfl, rfl, _, rfl, ite2 (fun h => absurd h (by decide)) (fun _ => ?_)⟩
      refine ⟨_, rfl, rfl, _, rfl, ite2 (fun h => absurd h (by decide)) (fun _ => ?_)⟩
      refine ⟨_, rfl, rfl, _, rfl, ite2 (fun h => absurd h (by decide)) (fun _ => ?_)⟩
      refine ⟨_, rfl, rfl, _, rfl, ite2 (fun _ => ?_) (fun h => absurd rfl h)⟩
      refine ⟨(by show 1 ≤ 1000; decide), fun x nx => ⟨x, _, rfl, upd_same, fun dx' H' ndx ne e1 e2 k => ?_⟩⟩
      have nd := ndx
      rw [upd_ne ne] at nd
      exact ⟨rfl, dx', _, e1, e2, nd, q dx' _ (same_err3 nx nd k) upd_same⟩
    · refine ⟨_, rfl, rfl, _, rfl, ite2 (fun h => absurd h (by decide)) (fun _ => ?_)⟩
      refine ⟨_, rfl, rfl, _, rfl, ite2 (fun h => absurd h (by decide)) (fun _ => ?_)⟩
      refine ⟨_, rfl, rfl, _, rfl, ite2 (fun h => absurd h (by decide)) (fun _ => ?_)⟩
      refine ⟨_, rfl, rfl, _, rfl, ite2 (fun h => absurd h (by decide)) (fun _ => ?_)⟩
      refine ⟨_, rfl, rfl, _, rfl, ite2 (fun h => absurd h (by decide)) (fun _ => ?_)⟩
      refine ⟨_, rfl, rfl, _, rfl, ite2 (fun h => absurd h (by decide)) (fun _ => ?_)⟩
      refine ⟨_, rfl, rfl, _, rfl, ite2 (fun h => absurd h (by decide)) (fun _ => ?_)⟩
      refine ⟨_, rfl, rfl, _, rfl, ite2 (fun h => absurd h (by decide)) (fun _ => ?_)⟩
      refine ⟨_, rfl, rfl, _, rfl, ite2 (fun _ => ?_) (fun h => absurd rfl h)⟩
      refine ⟨(by show 1 ≤ 1000; decide), fun x nx => ⟨x, _, rfl, upd_same, fun dx' H' ndx ne e1 e2 k => ?_⟩⟩
      have nd := ndx
      rw [upd_ne ne] at nd
      exact ⟨rfl, dx', _, e1, e2, nd, q dx' _ (same_err3 nx nd k) upd_same⟩
    · refine ⟨_, rfl, rfl, _, rfl, ite2 (fun h => absurd h (by decide)) (fun _ => ?_)⟩
      refine ⟨_, rfl, rfl, _, rfl, ite2 (fun h => absurd h (by decide)) (fun _ => ?_)⟩
      refine ⟨_, rfl, rfl, _, rfl, ite2 (fun h => absurd h (by decide)) (fun _ => ?_)⟩
      refine ⟨_, rfl, rfl, _, rfl, ite2 (fun h => absurd h (by decide)) (fun _ => ?_)⟩
      refine ⟨_, rfl, rfl, _, rfl, ite2 (fun h => absurd h (by decide)) (fun _ => ?_)⟩
      refine ⟨_, rfl, rfl, _, rfl, ite2 (fun h => absurd h (by decide)) (fun _ => ?_)⟩
      refine ⟨_, rfl, rfl, _, rfl, ite2 (fun h => absurd h (by decide)) (fun _ => ?_)⟩
      refine ⟨_, rfl, rfl, _, rfl, ite2 (fun h => absurd h (by decide)) (fun _ => ?_)⟩
      refine ⟨_, rfl, rfl, _, rfl, ite2 (fun h => absurd h (by decide)) (fun _ => ?_)⟩
      refine ⟨_, rfl, rfl, _, rfl, ite2 (fun _ => ?_) (fun h => absurd rfl h)⟩
      refine ⟨(by show 1 ≤ 1000; decide), fun x nx => ⟨x, _, rfl, upd_same, fun dx' H' ndx ne e1 e2 k => ?_⟩⟩
      have nd := ndx
      rw [upd_ne ne] at nd
      exact ⟨rfl, dx', _, e1, e2, nd, q dx' _ (same_err3 nx nd k) upd_same⟩
    · refine ⟨_, rfl, rfl, _, rfl, ite2 (fun h => absurd h (by decide)) (fun _ => ?_)⟩
      refine ⟨_, rfl, rfl, _, rfl, ite2 (fun h => absurd h (by decide)) (fun _ => ?_)⟩
      refine ⟨_, rfl, rfl, _, rfl, ite2 (fun h => absurd h (by decide)) (fun _ => ?_)⟩
      refine ⟨_, rfl, rfl, _, rfl, ite2 (fun h => absurd h (by decide)) (fun _ => ?_)⟩
      refine ⟨_, rfl, rfl, _, rfl, ite2 (fun h => absurd h (by decide)) (fun _ => ?_)⟩
      refine ⟨_, rfl, rfl, _, rfl, ite2 (fun h => absurd h (by decide)) (fun _ => ?_)⟩
      refine ⟨_, rfl, rfl, _, rfl, ite2 (fun h => absurd h (by decide)) (fun _ => ?_)⟩
      refine ⟨_, rfl, rfl, _, rfl, ite2 (fun h => absurd h (by decide)) (fun _ => ?_)⟩
      refine ⟨_, rfl, rfl, _, rfl, ite2 (fun h => absurd h (by decide)) (fun _ => ?_)⟩
      refine ⟨_, rfl, rfl, _, rfl, ite2 (fun h => absurd h (by decide)) (fun _ => ?_)⟩
      refine ⟨(by show 1 ≤ 1000; decide), fun x nx => ⟨x, _, rfl, upd_same, fun dx' H' ndx ne e1 e2 k => ?_⟩⟩
      have nd := ndx
      rw [upd_ne ne] at nd
      exact ⟨rfl, dx', _, e1, e2, nd, q dx' _ (same_err3 nx nd k) upd_same⟩

theorem ok_l_by_value {P : Program} {w : World} {K : PySem.W.Frag} {mg : Str → Option Value} {base : Heap} {a : Nat → Addr} {d : Nat → FuncData} (T : Txt K mg a d) : FnOk P w K mg base (L2.CX P w) 3 (a 3) (d 3) ["_law_number", "_law_one", "_law_two"] (spBy 11 19 a) := by
  refine T.F_l_by_value.okX sc_l_by_value (fun vs H Q E h => ?_) (fun cdv A outer s0 H vs Q E hr h => ?_)
  · obtain ⟨i, y, z, rfl, h1, h2, q⟩ := h
    rfl
  · obtain ⟨i, y, z, rfl, h1, h2, q⟩ := h
    refine ⟨_, (pss_cons (ps_if (pt_cmpR op_eq (pv 0) pe_int (nomark _)) (pss_one (ps_raise rfl (takes_of rfl rfl rfl rfl) (XB.pmk T.xo_NoBounds T.ie_NoBounds T.te_NoBounds (ok_INoBounds T) (hr.mono (by decide)) T.b_INoBounds pass0 (by rfl) T.gE_NoBounds (pa_cons (pv 1) (pa_cons (pv 2) pa_nil))))) pss_nil) (pss_cons (ps_if (pt_cmpR op_eq (pv 0) pe_int (nomark _)) (pss_one (ps_raise rfl (takes_of rfl rfl rfl rfl) (XB.pmk T.xo_NoText T.ie_NoText T.te_NoText (ok_INoText T T.xo_NoText T.ne_NoText_row) (hr.mono (by decide)) T.b_INoText pass0 (by rfl) T.gE_NoText (pa_cons (pv 1) pa_nil)))) pss_nil) (pss_cons (ps_if (pt_cmpR op_eq (pv 0) pe_int (nomark _)) (pss_one (ps_raise rfl (takes_of rfl rfl rfl rfl) (XB.pmk T.xo_NoKey T.ie_NoKey T.te_NoKey (ok_INoKey T T.xo_NoKey T.ne_NoKey_key) (hr.mono (by decide)) T.b_INoKey pass0 (by rfl) T.gE_NoKey (pa_cons (pv 1) pa_nil)))) pss_nil) (pss_cons (ps_if (pt_cmpR op_eq (pv 0) pe_int (nomark _)) (pss_one (ps_raise rfl (takes_of rfl rfl rfl rfl) (XB.pmk T.xo_NoName T.ie_NoName T.te_NoName (ok_INoName T T.xo_NoName T.ne_NoName_name) (hr.mono (by decide)) T.b_INoName pass0 (by rfl) T.gE_NoName (pa_cons (pv 2) pa_nil)))) pss_nil) (pss_cons (ps_if (pt_cmpR op_eq (pv 0) pe_int (nomark _)) (pss_one (ps_raise rfl (takes_of rfl rfl rfl rfl) (XB.pmk T.xo_Gone T.ie_Gone T.te_Gone (ok_IGone T T.xo_Gone T.ne_Gone_time) (hr.mono (by decide)) T.b_IGone pass0 (by rfl) T.gE_Gone (pa_cons (pv 1) pa_nil)))) pss_nil) (pss_cons (ps_if (pt_cmpR op_eq (pv 0) pe_int (nomark _)) (pss_one (ps_raise rfl (takes_of rfl rfl rfl rfl) (XB.pmk T.xo_Elsewhere T.ie_Elsewhere T.te_Elsewhere (ok_IElsewhere T) (hr.mono (by decide)) T.b_IElsewhere pass0 (by rfl) T.gE_Elsewhere (pa_cons (pv 1) (pa_cons (pv 2) pa_nil))))) pss_nil) (pss_cons (ps_if (pt_cmpR op_eq (pv 0) pe_int (nomark _)) (pss_one (ps_raise rfl (takes_of rfl rfl rfl rfl) (XB.pmk T.xo_NoCopy T.ie_NoCopy T.te_NoCopy (ok_INoCopy T T.xo_NoCopy T.ne_NoCopy_copy) (hr.mono (by decide)) T.b_INoCopy pass0 (by rfl) T.gE_NoCopy (pa_cons (pv 1) pa_nil)))) pss_nil) (pss_one (ps_raise rfl (takes_of rfl rfl rfl rfl) (XB.pmk T.xo_NoDealing T.ie_NoDealing T.te_NoDealing (ok_INoDealing T T.xo_NoDealing T.ne_NoDealing_dealing) (hr.mono (by decide)) T.b_INoDealing pass0 (by rfl) T.gE_NoDealing (pa_cons (pv 2) pa_nil))))))))))), ?_⟩
    obtain rfl | rfl | rfl | rfl | rfl | rfl | rfl | rfl : i = 11 ∨ i = 12 ∨ i = 13 ∨ i = 14 ∨ i = 15 ∨ i = 16 ∨ i = 17 ∨ i = 18 := by omega
    · refine ⟨_, rfl, rfl, _, rfl, ite2 (fun _ => ?_) (fun h => absurd rfl h)⟩
      refine ⟨_, rfl, _, rfl, (by show 2 ≤ 1000; decide), fun x nx => ⟨x, _, _, rfl, upd_same, fun dx' H' ndx ne e1 e2 k => ?_⟩⟩
      have nd := ndx
      rw [upd_ne ne] at nd
      exact ⟨rfl, dx', _, e1, e2, nd, q dx' _ (same_err3 nx nd k) upd_same⟩
    · refine ⟨_, rfl, rfl, _, rfl, ite2 (fun h => absurd h (by decide)) (fun _ => ?_)⟩
      refine ⟨_, rfl, rfl, _, rfl, ite2 (fun _ => ?_) (fun h => absurd rfl h)⟩
      refine ⟨_, rfl, (by show 1 ≤ 1000; decide), fun x nx => ⟨x, _, rfl, upd_same, fun dx' H' ndx ne e1 e2 k => ?_⟩⟩
      have nd := ndx
      rw [upd_ne ne] at nd
      exact ⟨rfl, dx', _, e1, e2, nd, q dx' _ (same_err3 nx nd k) upd_same⟩
    · refine ⟨_, rfl, rfl, _, rfl, ite2 (fun h => absurd h (by decide)) (fun _ => ?_)⟩
      refine ⟨_, rfl, rfl, _, rfl, ite2 (fun h => absurd h (by decide)) (fun _ => ?_)⟩
      refine ⟨_, rfl, rfl, _, rfl, ite2 (fun _ => ?_) (fun h => absurd rfl h)⟩
      refine ⟨_, rfl, (by show 1 ≤ 1000; decide), fun x nx => ⟨x, _, rfl, upd_same, fun dx' H' ndx ne e1 e2 k => ?_⟩⟩
      have nd := ndx
      rw [upd_ne ne] at nd
      exact ⟨rfl, dx', _, e1, e2, nd, q dx' _ (same_err3 nx nd k) upd_same⟩
    · refine ⟨_, rfl, rfl, _, rfl, ite2 (fun h => absurd h (by decide)) (fun _ => ?_)⟩
      refine ⟨_, rfl, rfl, _, rfl, ite2 (fun h => absurd h (by decide)) (fun _ => ?_)⟩
      refine ⟨_, rfl, rfl, _, rfl, ite2 (fun h => absurd h (by decide)) (fun _ => ?_)⟩
      refine ⟨_, rfl, rfl, _, rfl, ite2 (fun _ => ?_) (fun h => absurd rfl h)⟩
      refine ⟨_, rfl, (by show 1 ≤ 1000; decide), fun x nx => ⟨x, _, rfl, upd_same, fun dx' H' ndx ne e1 e2 k => ?_⟩⟩
      have nd := ndx
      rw [upd_ne ne] at nd
      exact ⟨rfl, dx', _, e1, e2, nd, q dx' _ (same_err3 nx nd k) upd_same⟩
    · refine ⟨_, rfl, rfl, _, rfl, ite2 (fun h => absurd h (by decide)) (fun _ => ?_)⟩
      refine ⟨_, rfl, rfl, _, rfl, ite2 (fun h => absurd h (by decide)) (fun _ => ?_)⟩
      refine ⟨_, rfl, rfl, _, rfl, ite2 (fun h => absurd h (by decide)) (fun _ => ?_)⟩
      refine ⟨_, rfl, rfl, _, rfl, ite2 (fun h => absurd h (by decide)) (fun _ => ?_)⟩
      refine ⟨_, rfl, rfl, _, rfl, ite2 (fun _ => ?_) (fun h => absurd rfl h)⟩
      refine ⟨_, rfl, (by show 1 ≤ 1000; decide), fun x nx => ⟨x, _, rfl, upd_same, fun dx' H' ndx ne e1 e2 k => ?_⟩⟩
      have nd := ndx
      rw [upd_ne ne] at nd
      exact ⟨rfl, dx', _, e1, e2, nd, q dx' _ (same_err3 nx nd k) upd_same⟩
    · refine ⟨_, rfl, rfl, _, rfl, ite2 (fun h => absurd h (by decide)) (fun _ => ?_)⟩
      refine ⟨_, rfl, rfl, _, rfl, ite2 (fun h => absurd h (by decide)) (fun _ => ?_)⟩
      refine ⟨_, rfl, rfl, _, rfl, ite2 (fun h => absurd h (by decide)) (fun _ => ?_)⟩
      refine ⟨_, rfl, rfl, _, rfl, ite2 (fun h => absurd h (by decide)) (fun _ => ?_)⟩
      refine ⟨_, rfl, rfl, _, rfl, ite2 (fun h => absurd h (by decide)) (fun _ => ?_)⟩
      refine ⟨_, rfl, rfl, _, rfl, ite2 (fun _ => ?_) (fun h => absurd rfl h)⟩
      refine ⟨_, rfl, _, rfl, (by show 2 ≤ 1000; decide), fun x nx => ⟨x, _, _, rfl, upd_same, fun dx' H' ndx ne e1 e2 k => ?_⟩⟩
      have nd := ndx
      rw [upd_ne ne] at nd
      exact ⟨rfl, dx', _, e1, e2, nd, q dx' _ (same_err3 nx nd k) upd_same⟩
    · refine ⟨_, rfl, rfl, _, rfl, ite2 (fun h => absurd h (by decide)) (fun _ => ?_)⟩
      refine ⟨_, rfl, rfl, _, rfl, ite2 (fun h => absurd h (by decide)) (fun _ => ?_)⟩
      refine ⟨_, rfl, rfl, _, rfl, ite2 (fun h => absurd h (by decide)) (fun _ => ?_)⟩
      refine ⟨_, rfl, rfl, _, rfl, ite2 (fun h => absurd h (by decide)) (fun _ => ?_)⟩
      refine ⟨_, rfl, rfl, _, rfl, ite2 (fun h => absurd h (by decide)) (fun _ => ?_)⟩
      refine ⟨_, rfl, rfl, _, rfl, ite2 (fun h => absurd h (by decide)) (fun _ => ?_)⟩
      refine ⟨_, rfl, rfl, _, rfl, ite2 (fun _ => ?_) (fun h => absurd rfl h)⟩
      refine ⟨_, rfl, (by show 1 ≤ 1000; decide), fun x nx => ⟨x, _, rfl, upd_same, fun dx' H' ndx ne e1 e2 k => ?_⟩⟩
      have nd := ndx
      rw [upd_ne ne] at nd
      exact ⟨rfl, dx', _, e1, e2, nd, q dx' _ (same_err3 nx nd k) upd_same⟩
    · refine ⟨_, rfl, rfl, _, rfl, ite2 (fun h => absurd h (by decide)) (fun _ => ?_)⟩
      refine ⟨_, rfl, rfl, _, rfl, ite2 (fun h => absurd h (by decide)) (fun _ => ?_)⟩
      refine ⟨_, rfl, rfl, _, rfl, ite2 (fun h => absurd h (by decide)) (fun _ => ?_)⟩
      refine ⟨_, rfl, rfl, _, rfl, ite2 (fun h => absurd h (by decide)) (fun _ => ?_)⟩
      refine ⟨_, rfl, rfl, _, rfl, ite2 (fun h => absurd h (by decide)) (fun _ => ?_)⟩
      refine ⟨_, rfl, rfl, _, rfl, ite2 (fun h => absurd h (by decide)) (fun _ => ?_)⟩
      refine ⟨_, rfl, rfl, _, rfl, ite2 (fun h => absurd h (by decide)) (fun _ => ?_)⟩
      refine ⟨_, rfl, (by show 1 ≤ 1000; decide), fun x nx => ⟨x, _, rfl, upd_same, fun dx' H' ndx ne e1 e2 k => ?_⟩⟩
      have nd := ndx
      rw [upd_ne ne] at nd
      exact ⟨rfl, dx', _, e1, e2, nd, q dx' _ (same_err3 nx nd k) upd_same⟩

theorem ok_l_by_another {P : Program} {w : World} {K : PySem.W.Frag} {mg : Str → Option Value} {base : Heap} {a : Nat → Addr} {d : Nat → FuncData} (T : Txt K mg a d) : FnOk P w K mg base (L2.CX P w) 3 (a 4) (d 4) ["_law_number", "_law_one", "_law_two"] (spBy 19 27 a) := by
  refine T.F_l_by_another.okX sc_l_by_another (fun vs H Q E h => ?_) (fun cdv A outer s0 H vs Q E hr h => ?_)
  · obtain ⟨i, y, z, rfl, h1, h2, q⟩ := h
    rfl
  · obtain ⟨i, y, z, rfl, h1, h2, q⟩ := h
    refine ⟨_, (pss_cons (ps_if (pt_cmpR op_eq (pv 0) pe_int (nomark _)) (pss_one (ps_raise rfl (takes_of rfl rfl rfl rfl) (XB.pmk T.xo_NoHold T.ie_NoHold T.te_NoHold (ok_INoHold T T.xo_NoHold T.ne_NoHold_key) (hr.mono (by decide)) T.b_INoHold pass0 (by rfl) T.gE_NoHold (pa_cons (pv 1) pa_nil)))) pss_nil) (pss_cons (ps_if (pt_cmpR op_eq (pv 0) pe_int (nomark _)) (pss_one (ps_raise rfl (takes_of rfl rfl rfl rfl) (XB.pmk T.xo_NoHead T.ie_NoHead T.te_NoHead (ok_INoHead T T.xo_NoHead T.ne_NoHead_house) (hr.mono (by decide)) T.b_INoHead pass0 (by rfl) T.gE_NoHead (pa_cons (pv 2) pa_nil)))) pss_nil) (pss_cons (ps_if (pt_cmpR op_eq (pv 0) pe_int (nomark _)) (pss_one (ps_raise rfl (takes_of rfl rfl rfl rfl) (XB.pmk T.xo_Waits T.ie_Waits T.te_Waits (ok_IWaits T T.xo_Waits T.ne_Waits_time) (hr.mono (by decide)) T.b_IWaits pass0 (by rfl) T.gE_Waits (pa_cons (pv 1) pa_nil)))) pss_nil) (pss_cons (ps_if (pt_cmpR op_eq (pv 0) pe_int (nomark _)) (pss_one (ps_raise rfl (takes_of rfl rfl rfl rfl) (XB.pmk T.xo_Early T.ie_Early T.te_Early (ok_IEarly T T.xo_Early T.ne_Early_time) (hr.mono (by decide)) T.b_IEarly pass0 (by rfl) T.gE_Early (pa_cons (pv 2) pa_nil)))) pss_nil) (pss_cons (ps_if (pt_cmpR op_eq (pv 0) pe_int (nomark _)) (pss_one (ps_raise rfl (takes_of rfl rfl rfl rfl) (XB.pmk T.xo_Off T.ie_Off T.te_Off (ok_IOff T T.xo_Off T.ne_Off_dealing) (hr.mono (by decide)) T.b_IOff pass0 (by rfl) T.gE_Off (pa_cons (pv 1) pa_nil)))) pss_nil) (pss_cons (ps_if (pt_cmpR op_eq (pv 0) pe_int (nomark _)) (pss_one (ps_raise rfl (takes_of rfl rfl rfl rfl) (XB.pmk T.xo_Sure T.ie_Sure T.te_Sure (ok_ISure T T.xo_Sure T.ne_Sure_stamp) (hr.mono (by decide)) T.b_ISure pass0 (by rfl) T.gE_Sure (pa_cons (pv 2) pa_nil)))) pss_nil) (pss_cons (ps_if (pt_cmpR op_eq (pv 0) pe_int (nomark _)) (pss_one (ps_raise rfl (takes_of rfl rfl rfl rfl) (XB.pmk T.xo_Unset T.ie_Unset T.te_Unset (ok_IUnset T T.xo_Unset T.ne_Unset_text) (hr.mono (by decide)) T.b_IUnset pass0 (by rfl) T.gE_Unset (pa_cons pe_str pa_nil)))) pss_nil) (pss_one (ps_raise rfl (takes_of rfl rfl rfl rfl) (XB.pmk T.xo_Bare T.ie_Bare T.te_Bare (ok_IBare T T.xo_Bare T.ne_Bare_text) (hr.mono (by decide)) T.b_IBare pass0 (by rfl) T.gE_Bare (pa_cons pe_str pa_nil))))))))))), ?_⟩
    obtain rfl | rfl | rfl | rfl | rfl | rfl | rfl | rfl : i = 19 ∨ i = 20 ∨ i = 21 ∨ i = 22 ∨ i = 23 ∨ i = 24 ∨ i = 25 ∨ i = 26 := by omega
    · refine ⟨_, rfl, rfl, _, rfl, ite2 (fun _ => ?_) (fun h => absurd rfl h)⟩
      refine ⟨_, rfl, (by show 1 ≤ 1000; decide), fun x nx => ⟨x, _, rfl, upd_same, fun dx' H' ndx ne e1 e2 k => ?_⟩⟩
      have nd := ndx
      rw [upd_ne ne] at nd
      exact ⟨rfl, dx', _, e1, e2, nd, q dx' _ (same_err3 nx nd k) upd_same⟩
    · refine ⟨_, rfl, rfl, _, rfl, ite2 (fun h => absurd h (by decide)) (fun _ => ?_)⟩
      refine ⟨_, rfl, rfl, _, rfl, ite2 (fun _ => ?_) (fun h => absurd rfl h)⟩
      refine ⟨_, rfl, (by show 1 ≤ 1000; decide), fun x nx => ⟨x, _, rfl, upd_same, fun dx' H' ndx ne e1 e2 k => ?_⟩⟩
      have nd := ndx
      rw [upd_ne ne] at nd
      exact ⟨rfl, dx', _, e1, e2, nd, q dx' _ (same_err3 nx nd k) upd_same⟩
    · refine ⟨_, rfl, rfl, _, rfl, ite2 (fun h => absurd h (by decide)) (fun _ => ?_)⟩
      refine ⟨_, rfl, rfl, _, rfl, ite2 (fun h => absurd h (by decide)) (fun _ => ?_)⟩
      refine ⟨_, rfl, rfl, _, rfl, ite2 (fun _ => ?_) (fun h => absurd rfl h)⟩
      refine ⟨_, rfl, (by show 1 ≤ 1000; decide), fun x nx => ⟨x, _, rfl, upd_same, fun dx' H' ndx ne e1 e2 k => ?_⟩⟩
      have nd := ndx
      rw [upd_ne ne] at nd
      exact ⟨rfl, dx', _, e1, e2, nd, q dx' _ (same_err3 nx nd k) upd_same⟩
    · refine ⟨_, rfl, rfl, _, rfl, ite2 (fun h => absurd h (by decide)) (fun _ => ?_)⟩
      refine ⟨_, rfl, rfl, _, rfl, ite2 (fun h => absurd h (by decide)) (fun _ => ?_)⟩
      refine ⟨_, rfl, rfl, _, rfl, ite2 (fun h => absurd h (by decide)) (fun _ => ?_)⟩
      refine ⟨_, rfl, rfl, _, rfl, ite2 (fun _ => ?_) (fun h => absurd rfl h)⟩
      refine ⟨_, rfl, (by show 1 ≤ 1000; decide), fun x nx => ⟨x, _, rfl, upd_same, fun dx' H' ndx ne e1 e2 k => ?_⟩⟩
      have nd := ndx
      rw [upd_ne ne] at nd
      exact ⟨rfl, dx', _, e1, e2, nd, q dx' _ (same_err3 nx nd k) upd_same⟩
    · refine ⟨_, rfl, rfl, _, rfl, ite2 (fun h => absurd h (by decide)) (fun _ => ?_)⟩
      refine ⟨_, rfl, rfl, _, rfl, ite2 (fun h => absurd h (by decide)) (fun _ => ?_)⟩
      refine ⟨_, rfl, rfl, _, rfl, ite2 (fun h => absurd h (by decide)) (fun _ => ?_)⟩
      refine ⟨_, rfl, rfl, _, rfl, ite2 (fun h => absurd h (by decide)) (fun _ => ?_)⟩
      refine ⟨_, rfl, rfl, _, rfl, ite2 (fun _ => ?_) (fun h => absurd rfl h)⟩
      refine ⟨_, rfl, (by show 1 ≤ 1000; decide), fun x nx => ⟨x, _, rfl, upd_same, fun dx' H' ndx ne e1 e2 k => ?_⟩⟩
      have nd := ndx
      rw [upd_ne ne] at nd
      exact ⟨rfl, dx', _, e1, e2, nd, q dx' _ (same_err3 nx nd k) upd_same⟩
    · refine ⟨_, rfl, rfl, _, rfl, ite2 (fun h => absurd h (by decide)) (fun _ => ?_)⟩
      refine ⟨_, rfl, rfl, _, rfl, ite2 (fun h => absurd h (by decide)) (fun _ => ?_)⟩
      refine ⟨_, rfl, rfl, _, rfl, ite2 (fun h => absurd h (by decide)) (fun _ => ?_)⟩
      refine ⟨_, rfl, rfl, _, rfl, ite2 (fun h => absurd h (by decide)) (fun _ => ?_)⟩
      refine ⟨_, rfl, rfl, _, rfl, ite2 (fun h => absurd h (by decide)) (fun _ => ?_)⟩
      refine ⟨_, rfl, rfl, _, rfl, ite2 (fun _ => ?_) (fun h => absurd rfl h)⟩
      refine ⟨_, rfl, (by show 1 ≤ 1000; decide), fun x nx => ⟨x, _, rfl, upd_same, fun dx' H' ndx ne e1 e2 k => ?_⟩⟩
      have nd := ndx
      rw [upd_ne ne] at nd
      exact ⟨rfl, dx', _, e1, e2, nd, q dx' _ (same_err3 nx nd k) upd_same⟩
    · refine ⟨_, rfl, rfl, _, rfl, ite2 (fun h => absurd h (by decide)) (fun _ => ?_)⟩
      refine ⟨_, rfl, rfl, _, rfl, ite2 (fun h => absurd h (by decide)) (fun _ => ?_)⟩
      refine ⟨_, rfl, rfl, _, rfl, ite2 (fun h => absurd h (by decide)) (fun _ => ?_)⟩
      refine ⟨_, rfl, rfl, _, rfl, ite2 (fun h => absurd h (by decide)) (fun _ => ?_)⟩
      refine ⟨_, rfl, rfl, _, rfl, ite2 (fun h => absurd h (by decide)) (fun _ => ?_)⟩
      refine ⟨_, rfl, rfl, _, rfl, ite2 (fun h => absurd h (by decide)) (fun _ => ?_)⟩
      refine ⟨_, rfl, rfl, _, rfl, ite2 (fun _ => ?_) (fun h => absurd rfl h)⟩
      refine ⟨(by show 1 ≤ 1000; decide), fun x nx => ⟨x, _, rfl, upd_same, fun dx' H' ndx ne e1 e2 k => ?_⟩⟩
      have nd := ndx
      rw [upd_ne ne] at nd
      exact ⟨rfl, dx', _, e1, e2, nd, q dx' _ (same_err3 nx nd k) upd_same⟩
    · refine ⟨_, rfl, rfl, _, rfl, ite2 (fun h => absurd h (by decide)) (fun _ => ?_)⟩
      refine ⟨_, rfl, rfl, _, rfl, ite2 (fun h => absurd h (by decide)) (fun _ => ?_)⟩
      refine ⟨_, rfl, rfl, _, rfl, ite2 (fun h => absurd h (by decide)) (fun _ => ?_)⟩
      refine ⟨_, rfl, rfl, _, rfl, ite2 (fun h => absurd h (by decide)) (fun _ => ?_)⟩
      refine ⟨_, rfl, rfl, _, rfl, ite2 (fun h => absurd h (by decide)) (fun _ => ?_)⟩
      refine ⟨_, rfl, rfl, _, rfl, ite2 (fun h => absurd h (by decide)) (fun _ => ?_)⟩
      refine ⟨_, rfl, rfl, _, rfl, ite2 (fun h => absurd h (by decide)) (fun _ => ?_)⟩
      refine ⟨(by show 1 ≤ 1000; decide), fun x nx => ⟨x, _, rfl, upd_same, fun dx' H' ndx ne e1 e2 k => ?_⟩⟩
      have nd := ndx
      rw [upd_ne ne] at nd
      exact ⟨rfl, dx', _, e1, e2, nd, q dx' _ (same_err3 nx nd k) upd_same⟩

theorem ok_l_raised {P : Program} {w : World} {K : PySem.W.Frag} {mg : Str → Option Value} {base : Heap} {a : Nat → Addr} {d : Nat → FuncData} (T : Txt K mg a d) : FnOk P w K mg base CX0 5 (a 5) (d 5) ["_law_number", "_law_one", "_law_two"] (spRaised a) := by
  refine T.F_l_raised.ok sc_l_raised (fun vs H Q E h => ?_) (fun cdv A outer s0 H vs Q E hr h => ?_)
  · obtain ⟨i, y, z, rfl, _⟩ := h
    rfl
  · obtain ⟨i, y, z, rfl, hi, q⟩ := h
    refine ⟨_, (pss_cons (ps_set (i := 3) sc_l_raised.nd rfl (Or.inl rfl) pe_non) (pss_cons (KT.ps_tryT (tb := fun W => tIfS (tTest (tOp (rI0 fun i j => .bl (decide (i < j))) (tVar 0) (tC (.int 11)))) (tDrop (tCallS (spBy 0 11 a) (WE W) (tCons (tVar 0) (tCons (tVar 1) (tCons (tVar 2) tNil))))) (tIfS (tTest (tOp (rI0 fun i j => .bl (decide (i < j))) (tVar 0) (tC (.int 19)))) (tDrop (tCallS (spBy 11 19 a) (WE W) (tCons (tVar 0) (tCons (tVar 1) (tCons (tVar 2) tNil))))) (tDrop (tCallS (spBy 19 27 a) (WE W) (tCons (tVar 0) (tCons (tVar 1) (tCons (tVar 2) tNil))))))) rfl rfl sc_l_raised.nd takes0 (KT.HKT.named (i := 4) (ts := (fun _ _ _ => tAsg (tVar 4) (gName 3))) (.cons ⟨rfl, by decide, .inl T.gE_WaitError⟩ (.cons ⟨rfl, by decide, .inl T.gE_NoKey⟩ (.cons ⟨rfl, by decide, .inl T.gE_NoName⟩ (.cons ⟨rfl, by decide, .inl T.gE_Gone⟩ (.cons ⟨rfl, by decide, .inl T.gE_Elsewhere⟩ (.cons ⟨rfl, by decide, .inl T.gE_NoCopy⟩ (.cons ⟨rfl, by decide, .inl T.gE_NoDealing⟩ (.cons ⟨rfl, by decide, .inl T.gE_NoHold⟩ KT.NL.nil)))))))) (by show 8 ≤ sizeLine; decide) rfl rfl (fun _ _ _ _ => (pss_one (ps_asg (pv 4) (pg_name (i := 3) sc_l_raised.nd rfl (.inl rfl))))) (KT.HKT.named (i := 4) (ts := (fun _ _ _ => tAsg (tVar 4) (gName 3))) (.cons ⟨rfl, by decide, .inl T.gE_NoHead⟩ (.cons ⟨rfl, by decide, .inl T.gE_Waits⟩ (.cons ⟨rfl, by decide, .inl T.gE_Early⟩ (.cons ⟨rfl, by decide, .inl T.gE_Off⟩ (.cons ⟨rfl, by decide, .inl T.gE_Sure⟩ (.cons ⟨rfl, by decide, .inl T.gE_Unset⟩ (.cons ⟨rfl, by decide, .inl T.gE_Bare⟩ KT.NL.nil))))))) (by show 7 ≤ sizeLine; decide) rfl rfl (fun _ _ _ _ => (pss_one (ps_asg (pv 4) (pg_name (i := 3) sc_l_raised.nd rfl (.inl rfl))))) KT.HKT.nil)) (W := fun _ _ _ _ => False) (fun W pn xe tk _ => (pss_one (ps_if (pt_cmpR op_lt (pv 0) pe_int (nomark _)) (pss_one (ps_expr (pe_callS (ok_l_by_text T) (hr.mono (by decide)) (by rfl) T.g_l_by_text T.F_l_by_text.kp T.b_l_by_text (fun σ => passAt tk σ) (pa_cons (pv 0) (pa_cons (pv 1) (pa_cons (pv 2) pa_nil)))))) (pss_one (ps_if (pt_cmpR op_lt (pv 0) pe_int (nomark _)) (pss_one (ps_expr (pe_callS (ok_l_by_value T) (hr.mono (by decide)) (by rfl) T.g_l_by_value T.F_l_by_value.kp T.b_l_by_value (fun σ => passAt tk σ) (pa_cons (pv 0) (pa_cons (pv 1) (pa_cons (pv 2) pa_nil)))))) (pss_one (ps_expr (pe_callS (ok_l_by_another T) (hr.mono (by decide)) (by rfl) T.g_l_by_another T.F_l_by_another.kp T.b_l_by_another (fun σ => passAt tk σ) (pa_cons (pv 0) (pa_cons (pv 1) (pa_cons (pv 2) pa_nil)))))))))))) (pss_one (ps_ret (pv 3))))), ?_⟩
    refine ⟨_, rfl, i, 11, rfl, rfl, _, rfl, ite2 (fun c1 => ?_) (fun c1 => ?_)⟩
    · have c1' := of_decide_eq_true c1
      refine ⟨_, rfl, _, rfl, _, rfl, i, y, z, rfl, by omega, by omega, fun dx H' s1 hd => ?_⟩
      refine ⟨true, (ex_row T hi).1.trans (congrArg some (decide_eq_true (by omega))), fun _ x nx => ?_, fun z => by cases z⟩
      refine ⟨_, rfl, ?_⟩
      refine ⟨_, rfl, ?_⟩
      exact q _ _ (s1.trans (same_new (Same.refl _) nx)) ⟨x, dx, rfl, upd_same, by rw [upd_ne (ne_of_none hd nx)]; exact hd⟩
    · have c1' : ¬ ((i : Int) < 11) := fun z => c1 (decide_eq_true z)
      refine ⟨_, rfl, i, 19, rfl, rfl, _, rfl, ite2 (fun c2 => ?_) (fun c2 => ?_)⟩
      · have c2' := of_decide_eq_true c2
        refine ⟨_, rfl, _, rfl, _, rfl, i, y, z, rfl, by omega, by omega, fun dx H' s1 hd => ?_⟩
        refine ⟨true, (ex_row T hi).1.trans (congrArg some (decide_eq_true (by omega))), fun _ x nx => ?_, fun z => by cases z⟩
        refine ⟨_, rfl, ?_⟩
        refine ⟨_, rfl, ?_⟩
        exact q _ _ (s1.trans (same_new (Same.refl _) nx)) ⟨x, dx, rfl, upd_same, by rw [upd_ne (ne_of_none hd nx)]; exact hd⟩
      · have c2' : ¬ ((i : Int) < 19) := fun z => c2 (decide_eq_true z)
        refine ⟨_, rfl, _, rfl, _, rfl, i, y, z, rfl, by omega, hi, fun dx H' s1 hd => ?_⟩
        by_cases c3 : i < 20
        · refine ⟨true, (ex_row T hi).1.trans (congrArg some (decide_eq_true (by omega))), fun _ x nx => ?_, fun z => by cases z⟩
          refine ⟨_, rfl, ?_⟩
          refine ⟨_, rfl, ?_⟩
          exact q _ _ (s1.trans (same_new (Same.refl _) nx)) ⟨x, dx, rfl, upd_same, by rw [upd_ne (ne_of_none hd nx)]; exact hd⟩
        · refine ⟨false, (ex_row T hi).1.trans (congrArg some (decide_eq_false (by omega))), (fun z => by cases z), fun _ => ⟨true, (ex_row T hi).2.trans (congrArg some (decide_eq_true (by omega))), fun _ x nx => ?_, fun z => by cases z⟩⟩
          refine ⟨_, rfl, ?_⟩
          refine ⟨_, rfl, ?_⟩
          exact q _ _ (s1.trans (same_new (Same.refl _) nx)) ⟨x, dx, rfl, upd_same, by rw [upd_ne (ne_of_none hd nx)]; exact hd⟩

theorem ok_l_own {P : Program} {w : World} {K : PySem.W.Frag} {mg : Str → Option Value} {base : Heap} {a : Nat → Addr} {d : Nat → FuncData} (T : Txt K mg a d) : FnOk P w K mg base CX0 1 (a 6) (d 6) ["_law_error"] (spOwn a) := by
  refine T.F_l_own.ok sc_l_own (fun vs H Q E h => ?_) (fun cdv A outer s0 H vs Q E hr h => ?_)
  · obtain ⟨i, y, z, v, rfl, hi, ⟨x, dx, rfl, he, hd⟩, q⟩ := h
    rfl
  · obtain ⟨i, y, z, v, rfl, hi, ⟨x, dx, rfl, he, hd⟩, q⟩ := h
    refine ⟨_, (pss_cons (ps_set (i := 1) sc_l_own.nd rfl (Or.inl rfl) (pe_lst (pa_cons (pe_callB call_isK (by rfl) T.z_isinstance (by decide +kernel) (pa_cons (pv 0) (pa_cons (pe_glob (v := .ref (a 101)) (by rfl) T.gE_NoNumber rfl) pa_nil))) (pa_cons (pe_callB call_isK (by rfl) T.z_isinstance (by decide +kernel) (pa_cons (pv 0) (pa_cons (pe_glob (v := .ref (a 102)) (by rfl) T.gE_NoDrift rfl) pa_nil))) (pa_cons (pe_callB call_isK (by rfl) T.z_isinstance (by decide +kernel) (pa_cons (pv 0) (pa_cons (pe_glob (v := .ref (a 103)) (by rfl) T.gE_NoShare rfl) pa_nil))) pa_nil))))) (pss_cons (ps_set (i := 1) sc_l_own.nd rfl (Or.inl rfl) (pe_op op_cat (pv 1) (pe_lst (pa_cons (pe_callB call_isK (by rfl) T.z_isinstance (by decide +kernel) (pa_cons (pv 0) (pa_cons (pe_glob (v := .ref (a 104)) (by rfl) T.gE_NoPace rfl) pa_nil))) (pa_cons (pe_callB call_isK (by rfl) T.z_isinstance (by decide +kernel) (pa_cons (pv 0) (pa_cons (pe_glob (v := .ref (a 105)) (by rfl) T.gE_NoStamp rfl) pa_nil))) (pa_cons (pe_callB call_isK (by rfl) T.z_isinstance (by decide +kernel) (pa_cons (pv 0) (pa_cons (pe_glob (v := .ref (a 106)) (by rfl) T.gE_NoWorth rfl) pa_nil))) pa_nil)))))) (pss_cons (ps_set (i := 1) sc_l_own.nd rfl (Or.inl rfl) (pe_op op_cat (pv 1) (pe_lst (pa_cons (pe_callB call_isK (by rfl) T.z_isinstance (by decide +kernel) (pa_cons (pv 0) (pa_cons (pe_glob (v := .ref (a 107)) (by rfl) T.gE_NoLetter rfl) pa_nil))) (pa_cons (pe_callB call_isK (by rfl) T.z_isinstance (by decide +kernel) (pa_cons (pv 0) (pa_cons (pe_glob (v := .ref (a 108)) (by rfl) T.gE_NoForm rfl) pa_nil))) (pa_cons (pe_callB call_isK (by rfl) T.z_isinstance (by decide +kernel) (pa_cons (pv 0) (pa_cons (pe_glob (v := .ref (a 109)) (by rfl) T.gE_NoDeed rfl) pa_nil))) pa_nil)))))) (pss_cons (ps_set (i := 1) sc_l_own.nd rfl (Or.inl rfl) (pe_op op_cat (pv 1) (pe_lst (pa_cons (pe_callB call_isK (by rfl) T.z_isinstance (by decide +kernel) (pa_cons (pv 0) (pa_cons (pe_glob (v := .ref (a 110)) (by rfl) T.gE_NoHistory rfl) pa_nil))) (pa_cons (pe_callB call_isK (by rfl) T.z_isinstance (by decide +kernel) (pa_cons (pv 0) (pa_cons (pe_glob (v := .ref (a 111)) (by rfl) T.gE_NoRow rfl) pa_nil))) (pa_cons (pe_callB call_isK (by rfl) T.z_isinstance (by decide +kernel) (pa_cons (pv 0) (pa_cons (pe_glob (v := .ref (a 112)) (by rfl) T.gE_NoBounds rfl) pa_nil))) pa_nil)))))) (pss_cons (ps_set (i := 1) sc_l_own.nd rfl (Or.inl rfl) (pe_op op_cat (pv 1) (pe_lst (pa_cons (pe_callB call_isK (by rfl) T.z_isinstance (by decide +kernel) (pa_cons (pv 0) (pa_cons (pe_glob (v := .ref (a 113)) (by rfl) T.gE_NoText rfl) pa_nil))) (pa_cons (pe_callB call_isK (by rfl) T.z_isinstance (by decide +kernel) (pa_cons (pv 0) (pa_cons (pe_glob (v := .ref (a 114)) (by rfl) T.gE_NoKey rfl) pa_nil))) (pa_cons (pe_callB call_isK (by rfl) T.z_isinstance (by decide +kernel) (pa_cons (pv 0) (pa_cons (pe_glob (v := .ref (a 115)) (by rfl) T.gE_NoName rfl) pa_nil))) pa_nil)))))) (pss_cons (ps_set (i := 1) sc_l_own.nd rfl (Or.inl rfl) (pe_op op_cat (pv 1) (pe_lst (pa_cons (pe_callB call_isK (by rfl) T.z_isinstance (by decide +kernel) (pa_cons (pv 0) (pa_cons (pe_glob (v := .ref (a 116)) (by rfl) T.gE_Gone rfl) pa_nil))) (pa_cons (pe_callB call_isK (by rfl) T.z_isinstance (by decide +kernel) (pa_cons (pv 0) (pa_cons (pe_glob (v := .ref (a 117)) (by rfl) T.gE_Elsewhere rfl) pa_nil))) (pa_cons (pe_callB call_isK (by rfl) T.z_isinstance (by decide +kernel) (pa_cons (pv 0) (pa_cons (pe_glob (v := .ref (a 118)) (by rfl) T.gE_NoCopy rfl) pa_nil))) pa_nil)))))) (pss_cons (ps_set (i := 1) sc_l_own.nd rfl (Or.inl rfl) (pe_op op_cat (pv 1) (pe_lst (pa_cons (pe_callB call_isK (by rfl) T.z_isinstance (by decide +kernel) (pa_cons (pv 0) (pa_cons (pe_glob (v := .ref (a 119)) (by rfl) T.gE_NoDealing rfl) pa_nil))) (pa_cons (pe_callB call_isK (by rfl) T.z_isinstance (by decide +kernel) (pa_cons (pv 0) (pa_cons (pe_glob (v := .ref (a 120)) (by rfl) T.gE_NoHold rfl) pa_nil))) (pa_cons (pe_callB call_isK (by rfl) T.z_isinstance (by decide +kernel) (pa_cons (pv 0) (pa_cons (pe_glob (v := .ref (a 121)) (by rfl) T.gE_NoHead rfl) pa_nil))) pa_nil)))))) (pss_cons (ps_set (i := 1) sc_l_own.nd rfl (Or.inl rfl) (pe_op op_cat (pv 1) (pe_lst (pa_cons (pe_callB call_isK (by rfl) T.z_isinstance (by decide +kernel) (pa_cons (pv 0) (pa_cons (pe_glob (v := .ref (a 122)) (by rfl) T.gE_Waits rfl) pa_nil))) (pa_cons (pe_callB call_isK (by rfl) T.z_isinstance (by decide +kernel) (pa_cons (pv 0) (pa_cons (pe_glob (v := .ref (a 123)) (by rfl) T.gE_Early rfl) pa_nil))) (pa_cons (pe_callB call_isK (by rfl) T.z_isinstance (by decide +kernel) (pa_cons (pv 0) (pa_cons (pe_glob (v := .ref (a 124)) (by rfl) T.gE_Off rfl) pa_nil))) pa_nil)))))) (pss_one (ps_ret (pe_op op_cat (pv 1) (pe_lst (pa_cons (pe_callB call_isK (by rfl) T.z_isinstance (by decide +kernel) (pa_cons (pv 0) (pa_cons (pe_glob (v := .ref (a 125)) (by rfl) T.gE_Sure rfl) pa_nil))) (pa_cons (pe_callB call_isK (by rfl) T.z_isinstance (by decide +kernel) (pa_cons (pv 0) (pa_cons (pe_glob (v := .ref (a 126)) (by rfl) T.gE_Unset rfl) pa_nil))) (pa_cons (pe_callB call_isK (by rfl) T.z_isinstance (by decide +kernel) (pa_cons (pv 0) (pa_cons (pe_glob (v := .ref (a 127)) (by rfl) T.gE_Bare rfl) pa_nil))) pa_nil))))))))))))))), ?_⟩
    refine ⟨_, rfl, x, a (101 + i), dx, fsO i y z, .ref (a (101 + 0)), .ref (a (101 + 0)), decide (0 = i), rfl, xc_at T i hi, he, hd, (fun u r => by first | exact r | (cases r; rfl)), ki_own T hi (by decide), _, rfl, x, a (101 + i), dx, fsO i y z, .ref (a (101 + 1)), .ref (a (101 + 1)), decide (1 = i), rfl, xc_at T i hi, he, hd, (fun u r => by first | exact r | (cases r; rfl)), ki_own T hi (by decide), _, rfl, x, a (101 + i), dx, fsO i y z, .ref (a (101 + 2)), .ref (a (101 + 2)), decide (2 = i), rfl, xc_at T i hi, he, hd, (fun u r => by first | exact r | (cases r; rfl)), ki_own T hi (by decide), len3, fun p0 n => ?_⟩
    have s0' : Same H (upd H p0 (.lst [V.bl (decide (0 = i)), V.bl (decide (1 = i)), V.bl (decide (2 = i))])) := same_new (Same.refl H) n
    have hp0 : (upd H p0 (.lst [V.bl (decide (0 = i)), V.bl (decide (1 = i)), V.bl (decide (2 = i))])) p0 = some (.lst [V.bl (decide (0 = i)), V.bl (decide (1 = i)), V.bl (decide (2 = i))]) := upd_same
    have he := s0' _ _ he
    have hd := s0' _ _ hd
    generalize (upd H p0 (.lst [V.bl (decide (0 = i)), V.bl (decide (1 = i)), V.bl (decide (2 = i))])) = H0 at s0' hp0 he hd ⊢
    refine ⟨_, rfl, _, rfl, x, a (101 + i), dx, fsO i y z, .ref (a (101 + 3)), .ref (a (101 + 3)), decide (3 = i), rfl, xc_at T i hi, he, hd, (fun u r => by first | exact r | (cases r; rfl)), ki_own T hi (by decide), _, rfl, x, a (101 + i), dx, fsO i y z, .ref (a (101 + 4)), .ref (a (101 + 4)), decide (4 = i), rfl, xc_at T i hi, he, hd, (fun u r => by first | exact r | (cases r; rfl)), ki_own T hi (by decide), _, rfl, x, a (101 + i), dx, fsO i y z, .ref (a (101 + 5)), .ref (a (101 + 5)), decide (5 = i), rfl, xc_at T i hi, he, hd, (fun u r => by first | exact r | (cases r; rfl)), ki_own T hi (by decide), len3, fun r1 nr => ?_⟩
    have t : Same H0 (upd H0 r1 (.lst [V.bl (decide (3 = i)), V.bl (decide (4 = i)), V.bl (decide (5 = i))])) := same_new (Same.refl _) nr
    refine ⟨p0, r1, _, _, rfl, rfl, t _ _ hp0, upd_same, (by show 6 ≤ sizeLine; decide), fun p1 n' => ?_⟩
    have t2 := t.trans (same_new (o := .lst ([V.bl (decide (0 = i)), V.bl (decide (1 = i)), V.bl (decide (2 = i))] ++ [V.bl (decide (3 = i)), V.bl (decide (4 = i)), V.bl (decide (5 = i))])) (Same.refl _) n')
    have s1' := s0'.trans t2
    have he := t2 _ _ he
    have hd := t2 _ _ hd
    have hp1 : (upd (upd H0 r1 (.lst [V.bl (decide (3 = i)), V.bl (decide (4 = i)), V.bl (decide (5 = i))])) p1 (.lst ([V.bl (decide (0 = i)), V.bl (decide (1 = i)), V.bl (decide (2 = i))] ++ [V.bl (decide (3 = i)), V.bl (decide (4 = i)), V.bl (decide (5 = i))]))) p1 = some (.lst [V.bl (decide (0 = i)), V.bl (decide (1 = i)), V.bl (decide (2 = i)), V.bl (decide (3 = i)), V.bl (decide (4 = i)), V.bl (decide (5 = i))]) := upd_same
    clear t t2 nr n'
    generalize (upd (upd H0 r1 (.lst [V.bl (decide (3 = i)), V.bl (decide (4 = i)), V.bl (decide (5 = i))])) p1 (.lst ([V.bl (decide (0 = i)), V.bl (decide (1 = i)), V.bl (decide (2 = i))] ++ [V.bl (decide (3 = i)), V.bl (decide (4 = i)), V.bl (decide (5 = i))]))) = H1 at s1' hp1 he hd ⊢
    refine ⟨_, rfl, _, rfl, x, a (101 + i), dx, fsO i y z, .ref (a (101 + 6)), .ref (a (101 + 6)), decide (6 = i), rfl, xc_at T i hi, he, hd, (fun u r => by first | exact r | (cases r; rfl)), ki_own T hi (by decide), _, rfl, x, a (101 + i), dx, fsO i y z, .ref (a (101 + 7)), .ref (a (101 + 7)), decide (7 = i), rfl, xc_at T i hi, he, hd, (fun u r => by first | exact r | (cases r; rfl)), ki_own T hi (by decide), _, rfl, x, a (101 + i), dx, fsO i y z, .ref (a (101 + 8)), .ref (a (101 + 8)), decide (8 = i), rfl, xc_at T i hi, he, hd, (fun u r => by first | exact r | (cases r; rfl)), ki_own T hi (by decide), len3, fun r2 nr => ?_⟩
    have t : Same H1 (upd H1 r2 (.lst [V.bl (decide (6 = i)), V.bl (decide (7 = i)), V.bl (decide (8 = i))])) := same_new (Same.refl _) nr
    refine ⟨p1, r2, _, _, rfl, rfl, t _ _ hp1, upd_same, (by show 9 ≤ sizeLine; decide), fun p2 n' => ?_⟩
    have t2 := t.trans (same_new (o := .lst ([V.bl (decide (0 = i)), V.bl (decide (1 = i)), V.bl (decide (2 = i)), V.bl (decide (3 = i)), V.bl (decide (4 = i)), V.bl (decide (5 = i))] ++ [V.bl (decide (6 = i)), V.bl (decide (7 = i)), V.bl (decide (8 = i))])) (Same.refl _) n')
    have s2' := s1'.trans t2
    have he := t2 _ _ he
    have hd := t2 _ _ hd
    have hp2 : (upd (upd H1 r2 (.lst [V.bl (decide (6 = i)), V.bl (decide (7 = i)), V.bl (decide (8 = i))])) p2 (.lst ([V.bl (decide (0 = i)), V.bl (decide (1 = i)), V.bl (decide (2 = i)), V.bl (decide (3 = i)), V.bl (decide (4 = i)), V.bl (decide (5 = i))] ++ [V.bl (decide (6 = i)), V.bl (decide (7 = i)), V.bl (decide (8 = i))]))) p2 = some (.lst [V.bl (decide (0 = i)), V.bl (decide (1 = i)), V.bl (decide (2 = i)), V.bl (decide (3 = i)), V.bl (decide (4 = i)), V.bl (decide (5 = i)), V.bl (decide (6 = i)), V.bl (decide (7 = i)), V.bl (decide (8 = i))]) := upd_same
    clear t t2 nr n'
    generalize (upd (upd H1 r2 (.lst [V.bl (decide (6 = i)), V.bl (decide (7 = i)), V.bl (decide (8 = i))])) p2 (.lst ([V.bl (decide (0 = i)), V.bl (decide (1 = i)), V.bl (decide (2 = i)), V.bl (decide (3 = i)), V.bl (decide (4 = i)), V.bl (decide (5 = i))] ++ [V.bl (decide (6 = i)), V.bl (decide (7 = i)), V.bl (decide (8 = i))]))) = H2 at s2' hp2 he hd ⊢
    refine ⟨_, rfl, _, rfl, x, a (101 + i), dx, fsO i y z, .ref (a (101 + 9)), .ref (a (101 + 9)), decide (9 = i), rfl, xc_at T i hi, he, hd, (fun u r => by first | exact r | (cases r; rfl)), ki_own T hi (by decide), _, rfl, x, a (101 + i), dx, fsO i y z, .ref (a (101 + 10)), .ref (a (101 + 10)), decide (10 = i), rfl, xc_at T i hi, he, hd, (fun u r => by first | exact r | (cases r; rfl)), ki_own T hi (by decide), _, rfl, x, a (101 + i), dx, fsO i y z, .ref (a (101 + 11)), .ref (a (101 + 11)), decide (11 = i), rfl, xc_at T i hi, he, hd, (fun u r => by first | exact r | (cases r; rfl)), ki_own T hi (by decide), len3, fun r3 nr => ?_⟩
    have t : Same H2 (upd H2 r3 (.lst [V.bl (decide (9 = i)), V.bl (decide (10 = i)), V.bl (decide (11 = i))])) := same_new (Same.refl _) nr
    refine ⟨p2, r3, _, _, rfl, rfl, t _ _ hp2, upd_same, (by show 12 ≤ sizeLine; decide), fun p3 n' => ?_⟩
    have t2 := t.trans (same_new (o := .lst ([V.bl (decide (0 = i)), V.bl (decide (1 = i)), V.bl (decide (2 = i)), V.bl (decide (3 = i)), V.bl (decide (4 = i)), V.bl (decide (5 = i)), V.bl (decide (6 = i)), V.bl (decide (7 = i)), V.bl (decide (8 = i))] ++ [V.bl (decide (9 = i)), V.bl (decide (10 = i)), V.bl (decide (11 = i))])) (Same.refl _) n')
    have s3' := s2'.trans t2
    have he := t2 _ _ he
    have hd := t2 _ _ hd
    have hp3 : (upd (upd H2 r3 (.lst [V.bl (decide (9 = i)), V.bl (decide (10 = i)), V.bl (decide (11 = i))])) p3 (.lst ([V.bl (decide (0 = i)), V.bl (decide (1 = i)), V.bl (decide (2 = i)), V.bl (decide (3 = i)), V.bl (decide (4 = i)), V.bl (decide (5 = i)), V.bl (decide (6 = i)), V.bl (decide (7 = i)), V.bl (decide (8 = i))] ++ [V.bl (decide (9 = i)), V.bl (decide (10 = i)), V.bl (decide (11 = i))]))) p3 = some (.lst [V.bl (decide (0 = i)), V.bl (decide (1 = i)), V.bl (decide (2 = i)), V.bl (decide (3 = i)), V.bl (decide (4 = i)), V.bl (decide (5 = i)), V.bl (decide (6 = i)), V.bl (decide (7 = i)), V.bl (decide (8 = i)), V.bl (decide (9 = i)), V.bl (decide (10 = i)), V.bl (decide (11 = i))]) := upd_same
    clear t t2 nr n'
    generalize (upd (upd H2 r3 (.lst [V.bl (decide (9 = i)), V.bl (decide (10 = i)), V.bl (decide (11 = i))])) p3 (.lst ([V.bl (decide (0 = i)), V.bl (decide (1 = i)), V.bl (decide (2 = i)), V.bl (decide (3 = i)), V.bl (decide (4 = i)), V.bl (decide (5 = i)), V.bl (decide (6 = i)), V.bl (decide (7 = i)), V.bl (decide (8 = i))] ++ [V.bl (decide (9 = i)), V.bl (decide (10 = i)), V.bl (decide (11 = i))]))) = H3 at s3' hp3 he hd ⊢
    refine ⟨_, rfl, _, rfl, x, a (101 + i), dx, fsO i y z, .ref (a (101 + 12)), .ref (a (101 + 12)), decide (12 = i), rfl, xc_at T i hi, he, hd, (fun u r => by first | exact r | (cases r; rfl)), ki_own T hi (by decide), _, rfl, x, a (101 + i), dx, fsO i y z, .ref (a (101 + 13)), .ref (a (101 + 13)), decide (13 = i), rfl, xc_at T i hi, he, hd, (fun u r => by first | exact r | (cases r; rfl)), ki_own T hi (by decide), _, rfl, x, a (101 + i), dx, fsO i y z, .ref (a (101 + 14)), .ref (a (101 + 14)), decide (14 = i), rfl, xc_at T i hi, he, hd, (fun u r => by first | exact r | (cases r; rfl)), ki_own T hi (by decide), len3, fun r4 nr => ?_⟩
    have t : Same H3 (upd H3 r4 (.lst [V.bl (decide (12 = i)), V.bl (decide (13 = i)), V.bl (decide (14 = i))])) := same_new (Same.refl _) nr
    refine ⟨p3, r4, _, _, rfl, rfl, t _ _ hp3, upd_same, (by show 15 ≤ sizeLine; decide), fun p4 n' => ?_⟩
    have t2 := t.trans (same_new (o := .lst ([V.bl (decide (0 = i)), V.bl (decide (1 = i)), V.bl (decide (2 = i)), V.bl (decide (3 = i)), V.bl (decide (4 = i)), V.bl (decide (5 = i)), V.bl (decide (6 = i)), V.bl (decide (7 = i)), V.bl (decide (8 = i)), V.bl (decide (9 = i)), V.bl (decide (10 = i)), V.bl (decide (11 = i))] ++ [V.bl (decide (12 = i)), V.bl (decide (13 = i)), V.bl (decide (14 = i))])) (Same.refl _) n')
    have s4' := s3'.trans t2
    have he := t2 _ _ he
    have hd := t2 _ _ hd
    have hp4 : (upd (upd H3 r4 (.lst [V.bl (decide (12 = i)), V.bl (decide (13 = i)), V.bl (decide (14 = i))])) p4 (.lst ([V.bl (decide (0 = i)), V.bl (decide (1 = i)), V.bl (decide (2 = i)), V.bl (decide (3 = i)), V.bl (decide (4 = i)), V.bl (decide (5 = i)), V.bl (decide (6 = i)), V.bl (decide (7 = i)), V.bl (decide (8 = i)), V.bl (decide (9 = i)), V.bl (decide (10 = i)), V.bl (decide (11 = i))] ++ [V.bl (decide (12 = i)), V.bl (decide (13 = i)), V.bl (decide (14 = i))]))) p4 = some (.lst [V.bl (decide (0 = i)), V.bl (decide (1 = i)), V.bl (decide (2 = i)), V.bl (decide (3 = i)), V.bl (decide (4 = i)), V.bl (decide (5 = i)), V.bl (decide (6 = i)), V.bl (decide (7 = i)), V.bl (decide (8 = i)), V.bl (decide (9 = i)), V.bl (decide (10 = i)), V.bl (decide (11 = i)), V.bl (decide (12 = i)), V.bl (decide (13 = i)), V.bl (decide (14 = i))]) := upd_same
    clear t t2 nr n'
    generalize (upd (upd H3 r4 (.lst [V.bl (decide (12 = i)), V.bl (decide (13 = i)), V.bl (decide (14 = i))])) p4 (.lst ([V.bl (decide (0 = i)), V.bl (decide (1 = i)), V.bl (decide (2 = i)), V.bl (decide (3 = i)), V.bl (decide (4 = i)), V.bl (decide (5 = i)), V.bl (decide (6 = i)), V.bl (decide (7 = i)), V.bl (decide (8 = i)), V.bl (decide (9 = i)), V.bl (decide (10 = i)), V.bl (decide (11 = i))] ++ [V.bl (decide (12 = i)), V.bl (decide (13 = i)), V.bl (decide (14 = i))]))) = H4 at s4' hp4 he hd ⊢
    refine ⟨_, rfl, _, rfl, x, a (101 + i), dx, fsO i y z, .ref (a (101 + 15)), .ref (a (101 + 15)), decide (15 = i), rfl, xc_at T i hi, he, hd, (fun u r => by first | exact r | (cases r; rfl)), ki_own T hi (by decide), _, rfl, x, a (101 + i), dx, fsO i y z, .ref (a (101 + 16)), .ref (a (101 + 16)), decide (16 = i), rfl, xc_at T i hi, he, hd, (fun u r => by first | exact r | (cases r; rfl)), ki_own T hi (by decide), _, rfl, x, a (101 + i), dx, fsO i y z, .ref (a (101 + 17)), .ref (a (101 + 17)), decide (17 = i), rfl, xc_at T i hi, he, hd, (fun u r => by first | exact r | (cases r; rfl)), ki_own T hi (by decide), len3, fun r5 nr => ?_⟩
    have t : Same H4 (upd H4 r5 (.lst [V.bl (decide (15 = i)), V.bl (decide (16 = i)), V.bl (decide (17 = i))])) := same_new (Same.refl _) nr
    refine ⟨p4, r5, _, _, rfl, rfl, t _ _ hp4, upd_same, (by show 18 ≤ sizeLine; decide), fun p5 n' => ?_⟩
    have t2 := t.trans (same_new (o := .lst ([V.bl (decide (0 = i)), V.bl (decide (1 = i)), V.bl (decide (2 = i)), V.bl (decide (3 = i)), V.bl (decide (4 = i)), V.bl (decide (5 = i)), V.bl (decide (6 = i)), V.bl (decide (7 = i)), V.bl (decide (8 = i)), V.bl (decide (9 = i)), V.bl (decide (10 = i)), V.bl (decide (11 = i)), V.bl (decide (12 = i)), V.bl (decide (13 = i)), V.bl (decide (14 = i))] ++ [V.bl (decide (15 = i)), V.bl (decide (16 = i)), V.bl (decide (17 = i))])) (Same.refl _) n')
    have s5' := s4'.trans t2
    have he := t2 _ _ he
    have hd := t2 _ _ hd
    have hp5 : (upd (upd H4 r5 (.lst [V.bl (decide (15 = i)), V.bl (decide (16 = i)), V.bl (decide (17 = i))])) p5 (.lst ([V.bl (decide (0 = i)), V.bl (decide (1 = i)), V.bl (decide (2 = i)), V.bl (decide (3 = i)), V.bl (decide (4 = i)), V.bl (decide (5 = i)), V.bl (decide (6 = i)), V.bl (decide (7 = i)), V.bl (decide (8 = i)), V.bl (decide (9 = i)), V.bl (decide (10 = i)), V.bl (decide (11 = i)), V.bl (decide (12 = i)), V.bl (decide (13 = i)), V.bl (decide (14 = i))] ++ [V.bl (decide (15 = i)), V.bl (decide (16 = i)), V.bl (decide (17 = i))]))) p5 = some (.lst [V.bl (decide (0 = i)), V.bl (decide (1 = i)), V.bl (decide (2 = i)), V.bl (decide (3 = i)), V.bl (decide (4 = i)), V.bl (decide (5 = i)), V.bl (decide (6 = i)), V.bl (decide (7 = i)), V.bl (decide (8 = i)), V.bl (decide (9 = i)), V.bl (decide (10 = i)), V.bl (decide (11 = i)), V.bl (decide (12 = i)), V.bl (decide (13 = i)), V.bl (decide (14 = i)), V.bl (decide (15 = i)), V.bl (decide (16 = i)), V.bl (decide (17 = i))]) := upd_same
    clear t t2 nr n'
    generalize (upd (upd H4 r5 (.lst [V.bl (decide (15 = i)), V.bl (decide (16 = i)), V.bl (decide (17 = i))])) p5 (.lst ([V.bl (decide (0 = i)), V.bl (decide (1 = i)), V.bl (decide (2 = i)), V.bl (decide (3 = i)), V.bl (decide (4 = i)), V.bl (decide (5 = i)), V.bl (decide (6 = i)), V.bl (decide (7 = i)), V.bl (decide (8 = i)), V.bl (decide (9 = i)), V.bl (decide (10 = i)), V.bl (decide (11 = i)), V.bl (decide (12 = i)), V.bl (decide (13 = i)), V.bl (decide (14 = i))] ++ [V.bl (decide (15 = i)), V.bl (decide (16 = i)), V.bl (decide (17 = i))]))) = H5 at s5' hp5 he hd ⊢
    refine ⟨_, rfl, _, rfl, x, a (101 + i), dx, fsO i y z, .ref (a (101 + 18)), .ref (a (101 + 18)), decide (18 = i), rfl, xc_at T i hi, he, hd, (fun u r => by first | exact r | (cases r; rfl)), ki_own T hi (by decide), _, rfl, x, a (101 + i), dx, fsO i y z, .ref (a (101 + 19)), .ref (a (101 + 19)), decide (19 = i), rfl, xc_at T i hi, he, hd, (fun u r => by first | exact r | (cases r; rfl)), ki_own T hi (by decide), _, rfl, x, a (101 + i), dx, fsO i y z, .ref (a (101 + 20)), .ref (a (101 + 20)), decide (20 = i), rfl, xc_at T i hi, he, hd, (fun u r => by first | exact r | (cases r; rfl)), ki_own T hi (by decide), len3, fun r6 nr => ?_⟩
    have t : Same H5 (upd H5 r6 (.lst [V.bl (decide (18 = i)), V.bl (decide (19 = i)), V.bl (decide (20 = i))])) := same_new (Same.refl _) nr
    refine ⟨p5, r6, _, _, rfl, rfl, t _ _ hp5, upd_same, (by show 21 ≤ sizeLine; decide), fun p6 n' => ?_⟩
    have t2 := t.trans (same_new (o := .lst ([V.bl (decide (0 = i)), V.bl (decide (1 = i)), V.bl (decide (2 = i)), V.bl (decide (3 = i)), V.bl (decide (4 = i)), V.bl (decide (5 = i)), V.bl (decide (6 = i)), V.bl (decide (7 = i)), V.bl (decide (8 = i)), V.bl (decide (9 = i)), V.bl (decide (10 = i)), V.bl (decide (11 = i)), V.bl (decide (12 = i)), V.bl (decide (13 = i)), V.bl (decide (14 = i)), V.bl (decide (15 = i)), V.bl (decide (16 = i)), V.bl (decide (17 = i))] ++ [V.bl (decide (18 = i)), V.bl (decide (19 = i)), V.bl (decide (20 = i))])) (Same.refl _) n')
    have s6' := s5'.trans t2
    have he := t2 _ _ he
    have hd := t2 _ _ hd
    have hp6 : (upd (upd H5 r6 (.lst [V.bl (decide (18 = i)), V.bl (decide (19 = i)), V.bl (decide (20 = i))])) p6 (.lst ([V.bl (decide (0 = i)), V.bl (decide (1 = i)), V.bl (decide (2 = i)), V.bl (decide (3 = i)), V.bl (decide (4 = i)), V.bl (decide (5 = i)), V.bl (decide (6 = i)), V.bl (decide (7 = i)), V.bl (decide (8 = i)), V.bl (decide (9 = i)), V.bl (decide (10 = i)), V.bl (decide (11 = i)), V.bl (decide (12 = i)), V.bl (decide (13 = i)), V.bl (decide (14 = i)), V.bl (decide (15 = i)), V.bl (decide (16 = i)), V.bl (decide (17 = i))] ++ [V.bl (decide (18 = i)), V.bl (decide (19 = i)), V.bl (decide (20 = i))]))) p6 = some (.lst [V.bl (decide (0 = i)), V.bl (decide (1 = i)), V.bl (decide (2 = i)), V.bl (decide (3 = i)), V.bl (decide (4 = i)), V.bl (decide (5 = i)), V.bl (decide (6 = i)), V.bl (decide (7 = i)), V.bl (decide (8 = i)), V.bl (decide (9 = i)), V.bl (decide (10 = i)), V.bl (decide (11 = i)), V.bl (decide (12 = i)), V.bl (decide (13 = i)), V.bl (decide (14 = i)), V.bl (decide (15 = i)), V.bl (decide (16 = i)), V.bl (decide (17 = i)), V.bl (decide (18 = i)), V.bl (decide (19 = i)), V.bl (decide (20 = i))]) := upd_same
    clear t t2 nr n'
    generalize (upd (upd H5 r6 (.lst [V.bl (decide (18 = i)), V.bl (decide (19 = i)), V.bl (decide (20 = i))])) p6 (.lst ([V.bl (decide (0 = i)), V.bl (decide (1 = i)), V.bl (decide (2 = i)), V.bl (decide (3 = i)), V.bl (decide (4 = i)), V.bl (decide (5 = i)), V.bl (decide (6 = i)), V.bl (decide (7 = i)), V.bl (decide (8 = i)), V.bl (decide (9 = i)), V.bl (decide (10 = i)), V.bl (decide (11 = i)), V.bl (decide (12 = i)), V.bl (decide (13 = i)), V.bl (decide (14 = i)), V.bl (decide (15 = i)), V.bl (decide (16 = i)), V.bl (decide (17 = i))] ++ [V.bl (decide (18 = i)), V.bl (decide (19 = i)), V.bl (decide (20 = i))]))) = H6 at s6' hp6 he hd ⊢
    refine ⟨_, rfl, _, rfl, x, a (101 + i), dx, fsO i y z, .ref (a (101 + 21)), .ref (a (101 + 21)), decide (21 = i), rfl, xc_at T i hi, he, hd, (fun u r => by first | exact r | (cases r; rfl)), ki_own T hi (by decide), _, rfl, x, a (101 + i), dx, fsO i y z, .ref (a (101 + 22)), .ref (a (101 + 22)), decide (22 = i), rfl, xc_at T i hi, he, hd, (fun u r => by first | exact r | (cases r; rfl)), ki_own T hi (by decide), _, rfl, x, a (101 + i), dx, fsO i y z, .ref (a (101 + 23)), .ref (a (101 + 23)), decide (23 = i), rfl, xc_at T i hi, he, hd, (fun u r => by first | exact r | (cases r; rfl)), ki_own T hi (by decide), len3, fun r7 nr => ?_⟩
    have t : Same H6 (upd H6 r7 (.lst [V.bl (decide (21 = i)), V.bl (decide (22 = i)), V.bl (decide (23 = i))])) := same_new (Same.refl _) nr
    refine ⟨p6, r7, _, _, rfl, rfl, t _ _ hp6, upd_same, (by show 24 ≤ sizeLine; decide), fun p7 n' => ?_⟩
    have t2 := t.trans (same_new (o := .lst ([V.bl (decide (0 = i)), V.bl (decide (1 = i)), V.bl (decide (2 = i)), V.bl (decide (3 = i)), V.bl (decide (4 = i)), V.bl (decide (5 = i)), V.bl (decide (6 = i)), V.bl (decide (7 = i)), V.bl (decide (8 = i)), V.bl (decide (9 = i)), V.bl (decide (10 = i)), V.bl (decide (11 = i)), V.bl (decide (12 = i)), V.bl (decide (13 = i)), V.bl (decide (14 = i)), V.bl (decide (15 = i)), V.bl (decide (16 = i)), V.bl (decide (17 = i)), V.bl (decide (18 = i)), V.bl (decide (19 = i)), V.bl (decide (20 = i))] ++ [V.bl (decide (21 = i)), V.bl (decide (22 = i)), V.bl (decide (23 = i))])) (Same.refl _) n')
    have s7' := s6'.trans t2
    have he := t2 _ _ he
    have hd := t2 _ _ hd
    have hp7 : (upd (upd H6 r7 (.lst [V.bl (decide (21 = i)), V.bl (decide (22 = i)), V.bl (decide (23 = i))])) p7 (.lst ([V.bl (decide (0 = i)), V.bl (decide (1 = i)), V.bl (decide (2 = i)), V.bl (decide (3 = i)), V.bl (decide (4 = i)), V.bl (decide (5 = i)), V.bl (decide (6 = i)), V.bl (decide (7 = i)), V.bl (decide (8 = i)), V.bl (decide (9 = i)), V.bl (decide (10 = i)), V.bl (decide (11 = i)), V.bl (decide (12 = i)), V.bl (decide (13 = i)), V.bl (decide (14 = i)), V.bl (decide (15 = i)), V.bl (decide (16 = i)), V.bl (decide (17 = i)), V.bl (decide (18 = i)), V.bl (decide (19 = i)), V.bl (decide (20 = i))] ++ [V.bl (decide (21 = i)), V.bl (decide (22 = i)), V.bl (decide (23 = i))]))) p7 = some (.lst [V.bl (decide (0 = i)), V.bl (decide (1 = i)), V.bl (decide (2 = i)), V.bl (decide (3 = i)), V.bl (decide (4 = i)), V.bl (decide (5 = i)), V.bl (decide (6 = i)), V.bl (decide (7 = i)), V.bl (decide (8 = i)), V.bl (decide (9 = i)), V.bl (decide (10 = i)), V.bl (decide (11 = i)), V.bl (decide (12 = i)), V.bl (decide (13 = i)), V.bl (decide (14 = i)), V.bl (decide (15 = i)), V.bl (decide (16 = i)), V.bl (decide (17 = i)), V.bl (decide (18 = i)), V.bl (decide (19 = i)), V.bl (decide (20 = i)), V.bl (decide (21 = i)), V.bl (decide (22 = i)), V.bl (decide (23 = i))]) := upd_same
    clear t t2 nr n'
    generalize (upd (upd H6 r7 (.lst [V.bl (decide (21 = i)), V.bl (decide (22 = i)), V.bl (decide (23 = i))])) p7 (.lst ([V.bl (decide (0 = i)), V.bl (decide (1 = i)), V.bl (decide (2 = i)), V.bl (decide (3 = i)), V.bl (decide (4 = i)), V.bl (decide (5 = i)), V.bl (decide (6 = i)), V.bl (decide (7 = i)), V.bl (decide (8 = i)), V.bl (decide (9 = i)), V.bl (decide (10 = i)), V.bl (decide (11 = i)), V.bl (decide (12 = i)), V.bl (decide (13 = i)), V.bl (decide (14 = i)), V.bl (decide (15 = i)), V.bl (decide (16 = i)), V.bl (decide (17 = i)), V.bl (decide (18 = i)), V.bl (decide (19 = i)), V.bl (decide (20 = i))] ++ [V.bl (decide (21 = i)), V.bl (decide (22 = i)), V.bl (decide (23 = i))]))) = H7 at s7' hp7 he hd ⊢
    refine ⟨_, rfl, _, rfl, x, a (101 + i), dx, fsO i y z, .ref (a (101 + 24)), .ref (a (101 + 24)), decide (24 = i), rfl, xc_at T i hi, he, hd, (fun u r => by first | exact r | (cases r; rfl)), ki_own T hi (by decide), _, rfl, x, a (101 + i), dx, fsO i y z, .ref (a (101 + 25)), .ref (a (101 + 25)), decide (25 = i), rfl, xc_at T i hi, he, hd, (fun u r => by first | exact r | (cases r; rfl)), ki_own T hi (by decide), _, rfl, x, a (101 + i), dx, fsO i y z, .ref (a (101 + 26)), .ref (a (101 + 26)), decide (26 = i), rfl, xc_at T i hi, he, hd, (fun u r => by first | exact r | (cases r; rfl)), ki_own T hi (by decide), len3, fun r8 nr => ?_⟩
    have t : Same H7 (upd H7 r8 (.lst [V.bl (decide (24 = i)), V.bl (decide (25 = i)), V.bl (decide (26 = i))])) := same_new (Same.refl _) nr
    refine ⟨p7, r8, _, _, rfl, rfl, t _ _ hp7, upd_same, (by show 27 ≤ sizeLine; decide), fun p8 n' => ?_⟩
    have t2 := t.trans (same_new (o := .lst ([V.bl (decide (0 = i)), V.bl (decide (1 = i)), V.bl (decide (2 = i)), V.bl (decide (3 = i)), V.bl (decide (4 = i)), V.bl (decide (5 = i)), V.bl (decide (6 = i)), V.bl (decide (7 = i)), V.bl (decide (8 = i)), V.bl (decide (9 = i)), V.bl (decide (10 = i)), V.bl (decide (11 = i)), V.bl (decide (12 = i)), V.bl (decide (13 = i)), V.bl (decide (14 = i)), V.bl (decide (15 = i)), V.bl (decide (16 = i)), V.bl (decide (17 = i)), V.bl (decide (18 = i)), V.bl (decide (19 = i)), V.bl (decide (20 = i)), V.bl (decide (21 = i)), V.bl (decide (22 = i)), V.bl (decide (23 = i))] ++ [V.bl (decide (24 = i)), V.bl (decide (25 = i)), V.bl (decide (26 = i))])) (Same.refl _) n')
    have s8' := s7'.trans t2
    exact q p8 _ s8' upd_same

theorem ok_l_fields {P : Program} {w : World} {K : PySem.W.Frag} {mg : Str → Option Value} {base : Heap} {a : Nat → Addr} {d : Nat → FuncData} (T : Txt K mg a d) : FnOk P w K mg base CX0 1 (a 7) (d 7) ["_law_errors"] (spFields a) := by
  refine T.F_l_fields.ok sc_l_fields (fun vs H Q E h => ?_) (fun cdv A outer s0 H vs Q E hr h => ?_)
  · obtain ⟨l, xs, y, z, rfl, hl, hlen, hall, q⟩ := h
    rfl
  · obtain ⟨l, xs, y, z, rfl, hl, hlen, hall, q⟩ := h
    refine ⟨_, (pss_cons (ps_par (i := 1) (j := 2) (by rfl) sc_l_fields.nd rfl rfl (by decide) rfl rfl (pa_cons (pe_ix ix_list (pv 0) pe_int (fun _ _ => rfl)) (pa_cons (pe_ix ix_list (pv 0) pe_int (fun _ _ => rfl)) pa_nil)) (by rfl)) (pss_cons (ps_set (i := 3) sc_l_fields.nd rfl (Or.inl rfl) (pe_lst (pa_cons (pe_xk (C := (a 112)) T.xf_NoBounds T.ne_NoBounds_low (pv 1) rfl) (pa_cons (pe_xk (C := (a 112)) T.xf_NoBounds T.ne_NoBounds_high (pv 1) rfl) (pa_cons (pe_xk (C := (a 113)) T.xf_NoText T.ne_NoText_row (pv 2) rfl) (pa_cons (pe_xk (C := (a 114)) T.xf_NoKey T.ne_NoKey_key (pe_ix ix_list (pv 0) pe_int (fun _ _ => rfl)) rfl) (pa_cons (pe_xk (C := (a 115)) T.xf_NoName T.ne_NoName_name (pe_ix ix_list (pv 0) pe_int (fun _ _ => rfl)) rfl) (pa_cons (pe_xk (C := (a 116)) T.xf_Gone T.ne_Gone_time (pe_ix ix_list (pv 0) pe_int (fun _ _ => rfl)) rfl) (pa_cons (pe_xk (C := (a 117)) T.xf_Elsewhere T.ne_Elsewhere_key (pe_ix ix_list (pv 0) pe_int (fun _ _ => rfl)) rfl) pa_nil))))))))) (pss_cons (ps_set (i := 3) sc_l_fields.nd rfl (Or.inl rfl) (pe_op op_cat (pv 3) (pe_lst (pa_cons (pe_xk (C := (a 117)) T.xf_Elsewhere T.ne_Elsewhere_house (pe_ix ix_list (pv 0) pe_int (fun _ _ => rfl)) rfl) (pa_cons (pe_xk (C := (a 118)) T.xf_NoCopy T.ne_NoCopy_copy (pe_ix ix_list (pv 0) pe_int (fun _ _ => rfl)) rfl) (pa_cons (pe_xk (C := (a 119)) T.xf_NoDealing T.ne_NoDealing_dealing (pe_ix ix_list (pv 0) pe_int (fun _ _ => rfl)) rfl) (pa_cons (pe_xk (C := (a 120)) T.xf_NoHold T.ne_NoHold_key (pe_ix ix_list (pv 0) pe_int (fun _ _ => rfl)) rfl) (pa_cons (pe_xk (C := (a 121)) T.xf_NoHead T.ne_NoHead_house (pe_ix ix_list (pv 0) pe_int (fun _ _ => rfl)) rfl) pa_nil)))))))) (pss_one (ps_ret (pe_op op_cat (pv 3) (pe_lst (pa_cons (pe_xk (C := (a 122)) T.xf_Waits T.ne_Waits_time (pe_ix ix_list (pv 0) pe_int (fun _ _ => rfl)) rfl) (pa_cons (pe_xk (C := (a 123)) T.xf_Early T.ne_Early_time (pe_ix ix_list (pv 0) pe_int (fun _ _ => rfl)) rfl) (pa_cons (pe_xk (C := (a 124)) T.xf_Off T.ne_Off_dealing (pe_ix ix_list (pv 0) pe_int (fun _ _ => rfl)) rfl) (pa_cons (pe_xk (C := (a 125)) T.xf_Sure T.ne_Sure_stamp (pe_ix ix_list (pv 0) pe_int (fun _ _ => rfl)) rfl) pa_nil))))))))))), ?_⟩
    obtain ⟨v, hg11⟩ : ∃ v, xs[11]? = some v := ⟨_, List.getElem?_eq_getElem (by omega)⟩
    obtain ⟨x11, d11, rfl, hx11, hd11⟩ := hall 11 _ hg11
    obtain ⟨v, hg12⟩ : ∃ v, xs[12]? = some v := ⟨_, List.getElem?_eq_getElem (by omega)⟩
    obtain ⟨x12, d12, rfl, hx12, hd12⟩ := hall 12 _ hg12
    obtain ⟨v, hg13⟩ : ∃ v, xs[13]? = some v := ⟨_, List.getElem?_eq_getElem (by omega)⟩
    obtain ⟨x13, d13, rfl, hx13, hd13⟩ := hall 13 _ hg13
    obtain ⟨v, hg14⟩ : ∃ v, xs[14]? = some v := ⟨_, List.getElem?_eq_getElem (by omega)⟩
    obtain ⟨x14, d14, rfl, hx14, hd14⟩ := hall 14 _ hg14
    obtain ⟨v, hg15⟩ : ∃ v, xs[15]? = some v := ⟨_, List.getElem?_eq_getElem (by omega)⟩
    obtain ⟨x15, d15, rfl, hx15, hd15⟩ := hall 15 _ hg15
    obtain ⟨v, hg16⟩ : ∃ v, xs[16]? = some v := ⟨_, List.getElem?_eq_getElem (by omega)⟩
    obtain ⟨x16, d16, rfl, hx16, hd16⟩ := hall 16 _ hg16
    obtain ⟨v, hg17⟩ : ∃ v, xs[17]? = some v := ⟨_, List.getElem?_eq_getElem (by omega)⟩
    obtain ⟨x17, d17, rfl, hx17, hd17⟩ := hall 17 _ hg17
    obtain ⟨v, hg18⟩ : ∃ v, xs[18]? = some v := ⟨_, List.getElem?_eq_getElem (by omega)⟩
    obtain ⟨x18, d18, rfl, hx18, hd18⟩ := hall 18 _ hg18
    obtain ⟨v, hg19⟩ : ∃ v, xs[19]? = some v := ⟨_, List.getElem?_eq_getElem (by omega)⟩
    obtain ⟨x19, d19, rfl, hx19, hd19⟩ := hall 19 _ hg19
    obtain ⟨v, hg20⟩ : ∃ v, xs[20]? = some v := ⟨_, List.getElem?_eq_getElem (by omega)⟩
    obtain ⟨x20, d20, rfl, hx20, hd20⟩ := hall 20 _ hg20
    obtain ⟨v, hg21⟩ : ∃ v, xs[21]? = some v := ⟨_, List.getElem?_eq_getElem (by omega)⟩
    obtain ⟨x21, d21, rfl, hx21, hd21⟩ := hall 21 _ hg21
    obtain ⟨v, hg22⟩ : ∃ v, xs[22]? = some v := ⟨_, List.getElem?_eq_getElem (by omega)⟩
    obtain ⟨x22, d22, rfl, hx22, hd22⟩ := hall 22 _ hg22
    obtain ⟨v, hg23⟩ : ∃ v, xs[23]? = some v := ⟨_, List.getElem?_eq_getElem (by omega)⟩
    obtain ⟨x23, d23, rfl, hx23, hd23⟩ := hall 23 _ hg23
    obtain ⟨v, hg24⟩ : ∃ v, xs[24]? = some v := ⟨_, List.getElem?_eq_getElem (by omega)⟩
    obtain ⟨x24, d24, rfl, hx24, hd24⟩ := hall 24 _ hg24
    refine ⟨_, rfl, l, xs, 11, .ref x11, rfl, rfl, SqL.of hl, atI_nat (j := 11) hg11, _, rfl, l, xs, 12, .ref x12, rfl, rfl, SqL.of hl, atI_nat (j := 12) hg12, _, _, rfl, ?_⟩
    refine ⟨_, rfl, x11, d11, _, y, rfl, hx11, hd11, rfl, _, rfl, x11, d11, _, z, rfl, hx11, hd11, rfl, _, rfl, x12, d12, _, y, rfl, hx12, hd12, rfl, _, rfl, l, xs, 13, .ref x13, rfl, rfl, SqL.of hl, atI_nat (j := 13) hg13, x13, d13, _, y, rfl, hx13, hd13, rfl, _, rfl, l, xs, 14, .ref x14, rfl, rfl, SqL.of hl, atI_nat (j := 14) hg14, x14, d14, _, z, rfl, hx14, hd14, rfl, _, rfl, l, xs, 15, .ref x15, rfl, rfl, SqL.of hl, atI_nat (j := 15) hg15, x15, d15, _, y, rfl, hx15, hd15, rfl, _, rfl, l, xs, 16, .ref x16, rfl, rfl, SqL.of hl, atI_nat (j := 16) hg16, x16, d16, _, y, rfl, hx16, hd16, rfl, (by show 7 ≤ sizeLine; decide), fun p0 n => ?_⟩
    have s0' : Same H (upd H p0 (.lst [y, z, y, y, z, y, y])) := same_new (Same.refl H) n
    have hp0 : (upd H p0 (.lst [y, z, y, y, z, y, y])) p0 = some (.lst [y, z, y, y, z, y, y]) := upd_same
    generalize (upd H p0 (.lst [y, z, y, y, z, y, y])) = H0 at s0' hp0 ⊢
    refine ⟨_, rfl, _, rfl, l, xs, 16, .ref x16, rfl, rfl, SqL.of (s0' _ _ hl), atI_nat (j := 16) hg16, x16, d16, _, z, rfl, s0' _ _ hx16, s0' _ _ hd16, rfl, _, rfl, l, xs, 17, .ref x17, rfl, rfl, SqL.of (s0' _ _ hl), atI_nat (j := 17) hg17, x17, d17, _, y, rfl, s0' _ _ hx17, s0' _ _ hd17, rfl, _, rfl, l, xs, 18, .ref x18, rfl, rfl, SqL.of (s0' _ _ hl), atI_nat (j := 18) hg18, x18, d18, _, z, rfl, s0' _ _ hx18, s0' _ _ hd18, rfl, _, rfl, l, xs, 19, .ref x19, rfl, rfl, SqL.of (s0' _ _ hl), atI_nat (j := 19) hg19, x19, d19, _, y, rfl, s0' _ _ hx19, s0' _ _ hd19, rfl, _, rfl, l, xs, 20, .ref x20, rfl, rfl, SqL.of (s0' _ _ hl), atI_nat (j := 20) hg20, x20, d20, _, z, rfl, s0' _ _ hx20, s0' _ _ hd20, rfl, (by show 5 ≤ sizeLine; decide), fun r1 nr => ?_⟩
    have t : Same H0 (upd H0 r1 (.lst [z, y, z, y, z])) := same_new (Same.refl _) nr
    refine ⟨p0, r1, _, _, rfl, rfl, t _ _ hp0, upd_same, (by show 12 ≤ sizeLine; decide), fun p1 n' => ?_⟩
    have t2 := t.trans (same_new (o := .lst ([y, z, y, y, z, y, y] ++ [z, y, z, y, z])) (Same.refl _) n')
    have s1' := s0'.trans t2
    have hp1 : (upd (upd H0 r1 (.lst [z, y, z, y, z])) p1 (.lst ([y, z, y, y, z, y, y] ++ [z, y, z, y, z]))) p1 = some (.lst [y, z, y, y, z, y, y, z, y, z, y, z]) := upd_same
    clear t t2 nr n'
    generalize (upd (upd H0 r1 (.lst [z, y, z, y, z])) p1 (.lst ([y, z, y, y, z, y, y] ++ [z, y, z, y, z]))) = H1 at s1' hp1 ⊢
    refine ⟨_, rfl, _, rfl, l, xs, 21, .ref x21, rfl, rfl, SqL.of (s1' _ _ hl), atI_nat (j := 21) hg21, x21, d21, _, y, rfl, s1' _ _ hx21, s1' _ _ hd21, rfl, _, rfl, l, xs, 22, .ref x22, rfl, rfl, SqL.of (s1' _ _ hl), atI_nat (j := 22) hg22, x22, d22, _, z, rfl, s1' _ _ hx22, s1' _ _ hd22, rfl, _, rfl, l, xs, 23, .ref x23, rfl, rfl, SqL.of (s1' _ _ hl), atI_nat (j := 23) hg23, x23, d23, _, y, rfl, s1' _ _ hx23, s1' _ _ hd23, rfl, _, rfl, l, xs, 24, .ref x24, rfl, rfl, SqL.of (s1' _ _ hl), atI_nat (j := 24) hg24, x24, d24, _, z, rfl, s1' _ _ hx24, s1' _ _ hd24, rfl, (by show 4 ≤ sizeLine; decide), fun r2 nr => ?_⟩
    have t : Same H1 (upd H1 r2 (.lst [y, z, y, z])) := same_new (Same.refl _) nr
    refine ⟨p1, r2, _, _, rfl, rfl, t _ _ hp1, upd_same, (by show 16 ≤ sizeLine; decide), fun p2 n' => ?_⟩
    exact q p2 _ ((s1'.trans t).trans (same_new (Same.refl _) n')) upd_same

theorem ok_l_apart {P : Program} {w : World} {K : PySem.W.Frag} {mg : Str → Option Value} {base : Heap} {a : Nat → Addr} {d : Nat → FuncData} (T : Txt K mg a d) : FnOk P w K mg base CX0 5 (a 8) (d 8) ["_law_number", "_law_caught"] (spApart a) := by
  refine T.F_l_apart.ok sc_l_apart (fun vs H Q E h => ?_) (fun cdv A outer s0 H vs Q E hr h => ?_)
  · obtain ⟨i, y, z, v, rfl, hi, he, q⟩ := h
    rfl
  · obtain ⟨i, y, z, v, rfl, hi, he, q⟩ := h
    refine ⟨_, (pss_cons (ps_if (PW.pt (pw_or (pt_cmpR (op_neD hr.units) (pe_call (ok_l_own T) (hr.mono (by decide)) (by rfl) T.g_l_own T.F_l_own.kp T.b_l_own .nil pass0 (pa_cons (pv 1) pa_nil)) (pe_lc (own := [("_law_k", 2)]) (g := gName 2) (by rfl) sc_l_apart.nd (pi_range1 (by rfl) T.z_range (pa_cons pe_int pa_nil)) (blkOk_by (own := [("_law_k", 2)]) (N := ["_law_number", "_law_caught", "_law_k"]) (sc := defScope s_l_apart) (by decide +kernel)) (fun _ _ _ _ _ => (pg_name (i := 2) sc_l_apart.nd rfl (.inl rfl))) (fun _ _ _ _ _ => pts_nil) (fun _ _ _ _ _ => (pe_cmpR op_eq (pv 2) (pv 0) (nomark _)))) (nomark _)) (pw_or1 (pt_cmpR op_ne (pe_callB call_isK (by rfl) T.z_isinstance (by decide +kernel) (pa_cons (pv 1) (pa_cons (pe_glob (v := .ref (a 100)) (by rfl) T.gE_WaitError rfl) pa_nil))) (pe_cmpR op_lt (pv 0) pe_int (nomark _)) (nomark _))))) (pss_one (ps_ret pe_bl)) pss_nil) (pss_cons (ps_if (PW.pt (pw_or (pt_cmpR op_ne (pe_callB call_isK (by rfl) T.z_isinstance (by decide +kernel) (pa_cons (pv 1) (pa_cons (pe_bltn (v := .ty "ValueError") (by rfl) T.z_ValueError (by decide +kernel) rfl) pa_nil))) (pe_cmpR op_lt (pv 0) pe_int (nomark _)) (nomark _)) (pw_or1 (pt_cmpR op_ne (pe_callB call_isK (by rfl) T.z_isinstance (by decide +kernel) (pa_cons (pv 1) (pa_cons (pe_bltn (v := .ty "KeyError") (by rfl) T.z_KeyError (by decide +kernel) rfl) pa_nil))) (pe_cmpR op_in_seq (pv 0) (pe_tup (pa_cons pe_int (pa_cons pe_int pa_nil))) (by rfl)) (nomark _))))) (pss_one (ps_ret pe_bl)) pss_nil) (pss_cons (ps_if (pt_cmpR op_ne (pe_callB call_isK (by rfl) T.z_isinstance (by decide +kernel) (pa_cons (pv 1) (pa_cons (pe_bltn (v := .ty "IndexError") (by rfl) T.z_IndexError (by decide +kernel) rfl) pa_nil))) (pe_cmpR op_in_seq (pv 0) (pe_tup (pa_cons pe_int (pa_cons pe_int pa_nil))) (by rfl)) (nomark _)) (pss_one (ps_ret pe_bl)) pss_nil) (pss_one (ps_ret (pe_and (pe_cmpR op_eq (pe_callB call_isK (by rfl) T.z_isinstance (by decide +kernel) (pa_cons (pv 1) (pa_cons (pe_bltn (v := .ty "LookupError") (by rfl) T.z_LookupError (by decide +kernel) rfl) pa_nil))) (pe_chain op_le op_le pe_int (pv 0) pe_int) (nomark _)) (pe_one (pe_cmpR op_eq (pe_callB call_isK (by rfl) T.z_isinstance (by decide +kernel) (pa_cons (pv 1) (pa_cons (pe_bltn (v := .ty "RuntimeError") (by rfl) T.z_RuntimeError (by decide +kernel) rfl) pa_nil))) (pe_cmpR op_gt (pv 0) pe_int (nomark _)) (nomark _))))))))), ?_⟩
    obtain ⟨x, dx, rfl, hx, hd⟩ := he
    obtain ⟨k27, k28, k29, k30, k31, k32⟩ := ki_x T hi
    obtain ⟨b27, b28, b29, b30, b32, b31, b31'⟩ := kiB_lt i hi
    refine ⟨_, rfl, i, y, z, .ref x, rfl, hi, ⟨x, dx, rfl, hx, hd⟩, fun p H1 s1 hp => ?_⟩
    refine ⟨27, rfl, by decide, by decide, fun D nD => ?_⟩
    refine lc_range (lo := 0) (n := 27) (fun j G => Same H1 G ∧ G D = some (.lst (((List.range j).map fun k => decide (k = i)).map V.bl))) ⟨same_new (Same.refl H1) nD, upd_same⟩ ?_ ?_
    · rintro j G hj ⟨s2, hD⟩
      refine ⟨rfl, _, rfl, _, rfl, rfl, _, hD, ?_, ?_, ?_⟩
      · rw [List.length_map, List.length_map, List.length_range]
        exact Nat.lt_of_lt_of_le hj (by decide)
      · intro b o e
        by_cases hb : b = D
        · subst hb
          have z := ne_of_none e nD
          exact absurd rfl z
        · rw [upd_ne hb]
          exact s2 _ _ e
      · rw [upd_same, List.range_succ, List.map_append, List.map_append]
        have e : decide (V.int (0 + (j : Int)) = V.int (i : Int)) = decide (j = i) := by
          rw [Int.zero_add]
          simp only [V.int.injEq, decide_eq_decide]
          omega
        rw [e]
        rfl
    · rintro G ⟨s2, hD⟩
      have S := s1.trans s2
      have L := (List.range 27).map fun k => decide (k = i)
      refine ⟨.list (((List.range 27).map fun k => decide (k = i)).map PyData.bool), .list (((List.range 27).map fun k => decide (k = i)).map PyData.bool), .lst (SqL.of (s2 _ _ hp)) ?_, .lst (SqL.of hD) (dp_bools _), (shaped_bools _).1, (shaped_bools _).1, _, rfl, iteBF ?_ ?_⟩
      · have z := dp_bools (K := K) (H := G) ((List.range 27).map fun k => decide (k = i))
        rw [List.map_map] at z
        exact z
      · rw [SeqAt.eqv_refl _ (shaped_bools _).2]
        rfl
      have hx := S _ _ hx
      have hd := S _ _ hd
      refine ⟨_, rfl, x, a (101 + i), dx, fsO i y z, (.ref (a 100)), (.ref (a 100)), kiB i 27, rfl, xc_at T i hi, hx, hd, (fun u r => by first | exact r | (cases r; rfl)), k27, _, rfl, i, 13, rfl, rfl, rfl, _, rfl, iteBF (ne_same b27) ?_⟩
      refine ⟨_, rfl, x, a (101 + i), dx, fsO i y z, (.ty "ValueError"), (.type "ValueError"), kiB i 28, rfl, xc_at T i hi, hx, hd, (fun u r => by first | exact r | (cases r; rfl)), k28, _, rfl, i, 13, rfl, rfl, rfl, _, rfl, iteBF (ne_same b28) ?_⟩
      refine ⟨_, rfl, x, a (101 + i), dx, fsO i y z, (.ty "KeyError"), (.type "KeyError"), kiB i 29, rfl, xc_at T i hi, hx, hd, (fun u r => by first | exact r | (cases r; rfl)), k29, _, rfl, len2, fun pt nt => ⟨pt, _, rfl, .inr (SqT.of upd_same), rfl, rfl, rfl, _, rfl, iteBF (ne_same b29) ?_⟩⟩
      have t := same_new (o := .tup [.int 13, .int 14]) (Same.refl G) nt
      have S := S.trans t
      have hx := t _ _ hx
      have hd := t _ _ hd
      generalize (upd G pt (.tup [.int 13, .int 14])) = G2 at S hx hd ⊢
      refine ⟨_, rfl, x, a (101 + i), dx, fsO i y z, (.ty "IndexError"), (.type "IndexError"), kiB i 30, rfl, xc_at T i hi, hx, hd, (fun u r => by first | exact r | (cases r; rfl)), k30, _, rfl, len2, fun pt nt => ⟨pt, _, rfl, .inr (SqT.of upd_same), rfl, rfl, rfl, _, rfl, iteBF (ne_same b30) ?_⟩⟩
      have t := same_new (o := .tup [.int 17, .int 18]) (Same.refl G2) nt
      have S := S.trans t
      have hx := t _ _ hx
      have hd := t _ _ hd
      generalize (upd G2 pt (.tup [.int 17, .int 18])) = G3 at S hx hd ⊢
      refine ⟨_, rfl, x, a (101 + i), dx, fsO i y z, (.ty "LookupError"), (.type "LookupError"), kiB i 31, rfl, xc_at T i hi, hx, hd, (fun u r => by first | exact r | (cases r; rfl)), k31, _, rfl, 13, i, rfl, rfl, _, rfl, ?_⟩
      by_cases c : 13 ≤ (i : Int)
      · refine iteDT c ⟨i, 18, rfl, rfl, rfl, _, rfl, iteBT (eq_same (b31 c)) ?_⟩
        refine ⟨_, rfl, x, a (101 + i), dx, fsO i y z, (.ty "RuntimeError"), (.type "RuntimeError"), kiB i 32, rfl, xc_at T i hi, hx, hd, (fun u r => by first | exact r | (cases r; rfl)), k32, _, rfl, i, 18, rfl, rfl, rfl, ?_⟩
        rw [eq_same b32]
        exact q _ S
      · refine iteDF c ⟨rfl, _, rfl, iteBT (eq_same (b31' c)) ?_⟩
        refine ⟨_, rfl, x, a (101 + i), dx, fsO i y z, (.ty "RuntimeError"), (.type "RuntimeError"), kiB i 32, rfl, xc_at T i hi, hx, hd, (fun u r => by first | exact r | (cases r; rfl)), k32, _, rfl, i, 18, rfl, rfl, rfl, ?_⟩
        rw [eq_same b32]
        exact q _ S

theorem ok_law {P : Program} {w : World} {K : PySem.W.Frag} {mg : Str → Option Value} {base : Heap} {a : Nat → Addr} {d : Nat → FuncData} (T : Txt K mg a d) : FnG P w K mg base 12 (a 9) (d 9) ["_law_script"] (spLaw K) := by
  refine fnG_mk T.F_law sc_law (fun vs H Q E h => ?_) (fun cdv A outer s0 H vs Q E gd hr h => ?_)
  · obtain ⟨sc, ns, rfl, hS, hl, q⟩ := h
    rfl
  · obtain ⟨sc, ns, rfl, hS, hl, q⟩ := h
    have hu66 := room66 hr
    refine ⟨_, (pss_cons (ps_for PassesOwn.never rfl (pi_range1 (by rfl) T.z_range (pa_cons (pe_callB (call_max2 rfl) (by rfl) T.z_max (by decide +kernel) (pa_cons pe_int (pa_cons (pe_callB (call_min2 rfl) (by rfl) T.z_min (by decide +kernel) (pa_cons pe_int (pa_cons (pe_callB call_len_seq (by rfl) T.z_len PySem.boot_len (pa_cons (pv 0) pa_nil)) pa_nil))) pa_nil))) pa_nil)) (pg_name (i := 1) sc_law.nd rfl (.inl rfl)) (pss_cons (ps_set (i := 2) sc_law.nd rfl (Or.inl rfl) (pe_call (ok_l_begun T) (hr.mono (by decide)) (by rfl) T.g_l_begun T.F_l_begun.kp T.b_l_begun .nil pass0 (pa_cons (pv 0) (pa_cons (pv 1) pa_nil)))) (pss_cons (ps_set (i := 3) sc_law.nd rfl (Or.inl rfl) (pe_lst (pa_cons (pe_call (ok_l_take T) (hr.mono (by decide)) (by rfl) T.g_l_take T.F_l_take.kp T.b_l_take .nil pass0 (pa_cons (pv 2) (pa_cons pe_int pa_nil))) (pa_cons (pe_op op_sub pe_int (pe_call (ok_l_take T) (hr.mono (by decide)) (by rfl) T.g_l_take T.F_l_take.kp T.b_l_take .nil pass0 (pa_cons (pv 2) (pa_cons pe_int pa_nil)))) (pa_cons pe_non (pa_cons pe_str (pa_cons pe_bl (pa_cons (pe_lst (pa_cons pe_int pa_nil)) (pa_cons (pe_tup (pa_cons pe_int (pa_cons pe_int pa_nil))) (pa_cons (pe_op op_pow pe_int pe_int) pa_nil)))))))))) (pss_cons (ps_set (i := 4) sc_law.nd rfl (Or.inr rfl) (pe_ix ix_list (pv 3) (pe_call (ok_l_take T) (hr.mono (by decide)) (by rfl) T.g_l_take T.F_l_take.kp T.b_l_take .nil pass0 (pa_cons (pv 2) (pa_cons pe_int pa_nil))) (fun _ _ => rfl))) (pss_cons (ps_set (i := 5) sc_law.nd rfl (Or.inr rfl) (pe_ix ix_list (pv 3) (pe_call (ok_l_take T) (hr.mono (by decide)) (by rfl) T.g_l_take T.F_l_take.kp T.b_l_take .nil pass0 (pa_cons (pv 2) (pa_cons pe_int pa_nil))) (fun _ _ => rfl))) (pss_cons (ps_setLc (i := 6) (own := [("_law_number", 8)]) (g := gName 8) (by rfl) sc_law.nd rfl rfl (sw_true rfl rfl rfl (by decide +kernel)) (pi_range1 (by rfl) T.z_range (pa_cons pe_int pa_nil)) (blkOk_by (own := [("_law_number", 8)]) (N := ["_law_script", "_law_k", "_law_state", "_law_some", "_law_one", "_law_two", "_law_errors", "_law_due", "_law_number", "_law_error"]) (sc := defScope s_law) (by decide +kernel)) (fun _ _ _ _ _ => (pg_name (i := 8) sc_law.nd rfl (.inl rfl))) (fun _ _ _ _ _ => pts_nil) (fun _ _ _ _ _ => (pe_call (ok_l_raised T) (hr.mono (by decide)) (by rfl) T.g_l_raised T.F_l_raised.kp T.b_l_raised .nil pass0 (pa_cons (pv 8) (pa_cons (pv 4) (pa_cons (pv 5) pa_nil)))))) (pss_cons (ps_if (pt_cmpR (op_neD hr.units) (pe_lc (own := [("_law_number", 8), ("_law_error", 9)]) (g := (gTup K 2 (gCons (gName 8) (gCons (gName 9) gNil)))) (tt := (tNot (fun σ H Q => tCall (spApart a) [] E0 (tCons (tVar 8) (tCons (tVar 9) tNil)) σ H fun x H' => ∃ k, TruV K x H' k ∧ Q k H'))) (by rfl) sc_law.nd (pi_enum (by rfl) T.z_enumerate (pa_cons (pv 6) pa_nil)) (blkOk_by (own := [("_law_number", 8), ("_law_error", 9)]) (N := ["_law_script", "_law_k", "_law_state", "_law_some", "_law_one", "_law_two", "_law_errors", "_law_due", "_law_number", "_law_error"]) (sc := defScope s_law) (by decide +kernel)) (fun _ _ _ _ _ => (pg_tup (by rfl) (pgs_cons (pg_name (i := 8) sc_law.nd rfl (.inl rfl)) (pgs_cons (pg_name (i := 9) sc_law.nd rfl (.inl rfl)) pgs_nil)))) (fun _ _ _ _ _ => (pts_one (pt_not (pt_truth (pe_call (ok_l_apart T) (hr.mono (by decide)) (by rfl) T.g_l_apart T.F_l_apart.kp T.b_l_apart .nil pass0 (pa_cons (pv 8) (pa_cons (pv 9) pa_nil))) (by intro _; rfl))))) (fun _ _ _ _ _ => (pv 8))) (pe_lst pa_nil) (nomark _)) (pss_one (ps_ret pe_bl)) pss_nil) (pss_cons (ps_set (i := 7) sc_law.nd rfl (Or.inl rfl) (pe_lst (pa_cons (pv 4) (pa_cons (pv 5) (pa_cons (pv 4) (pa_cons (pv 4) (pa_cons (pv 5) (pa_cons (pv 4) (pa_cons (pv 4) (pa_cons (pv 5) (pa_cons (pv 4) (pa_cons (pv 5) (pa_cons (pv 4) (pa_cons (pv 5) (pa_cons (pv 4) (pa_cons (pv 5) (pa_cons (pv 4) (pa_cons (pv 5) pa_nil)))))))))))))))))) (pss_one (ps_if (pt_cmpR op_ne (pe_callB (call_reprD gd (room66 hr)) (by rfl) T.z_repr (by decide +kernel) (pa_cons (pe_call (ok_l_fields T) (hr.mono (by decide)) (by rfl) T.g_l_fields T.F_l_fields.kp T.b_l_fields .nil pass0 (pa_cons (pv 6) pa_nil)) pa_nil)) (pe_callB (call_reprD gd (room66 hr)) (by rfl) T.z_repr (by decide +kernel) (pa_cons (pv 7) pa_nil)) (nomark _)) (pss_one (ps_ret pe_bl)) pss_nil)))))))))) (pss_one (ps_ret pe_bl))), ?_⟩
    refine ⟨_, rfl, sc, _, rfl, .inl hS, 12, _, rfl, 1, _, rfl, _, rfl, ?_, ?_, ?_⟩
    · rw [List.length_map]; (repeat' split) <;> omega
    · rw [List.length_map]; (repeat' split) <;> omega
    have hN : (if (if ((ns.map V.int).length : Int) < 12 then ((ns.map V.int).length : Int) else 12) > 1 then (if ((ns.map V.int).length : Int) < 12 then ((ns.map V.int).length : Int) else 12) else (1 : Int)).toNat ≤ 63 := by
      rw [List.length_map]; (repeat' split) <;> omega
    refine for_range (fun i σ H' => Same H H' ∧ ∃ v0 v1 v2 v3 v4 v5 v6 v7 v8 : Option V, σ = [some (.ref sc), v0, v1, v2, v3, v4, v5, v6, v7, v8]) ⟨Same.refl H, none, none, none, none, none, none, none, none, none, rfl⟩ ?_ ?_
    · rintro i σ H1 hi ⟨s1', v0, v1, v2, v3, v4, v5, v6, v7, v8, rfl⟩
      refine ⟨_, rfl, _, rfl, sc, ns, _, rfl, s1'.seq hS, hl, by omega, by omega, fun s H2 ns0 s2' hs2 => ?_⟩
      have sH2 : Same H H2 := s1'.trans s2'
      have ns1 : H s = none := s1'.free ns0
      refine ⟨_, rfl, s, 100, rfl, hs2, (by decide), (by decide), fun r1 H3 r10 r11 K1 => ?_⟩
      refine ⟨_, rfl, s, 9, rfl, K1.2, (by decide), (by decide), fun r2 H4 r20 r21 K2 => ⟨0, r2, rfl, rfl, ?_⟩⟩
      have k4 := K1.trans K2
      refine ⟨len1, fun p3 n3 => ?_⟩
      have k5 := k4.new (o := .lst [.int 3]) n3
      have e3 : (upd H4 p3 (.lst [.int 3])) p3 = some (.lst [.int 3]) := upd_same
      generalize (upd H4 p3 (.lst [.int 3])) = H5 at k5 e3 ⊢
      refine ⟨len2, fun p4 n4 => ?_⟩
      have k6 := k5.new (o := .tup [.int 1, .int 2]) n4
      have e4 : (upd H5 p4 (.tup [.int 1, .int 2])) p4 = some (.tup [.int 1, .int 2]) := upd_same
      have e3 : (upd H5 p4 (.tup [.int 1, .int 2])) p3 = some (.lst [.int 3]) := by rw [upd_ne (ne_of_none e3 n4)]; exact e3
      generalize (upd H5 p4 (.tup [.int 1, .int 2])) = H6 at k6 e3 e4 ⊢
      refine ⟨10, 29, rfl, rfl, ⟨by decide, by decide, by decide⟩, ?_⟩
      refine ⟨(by show 8 ≤ sizeLine; decide), fun ps nps => ?_⟩
      have k7 : Kp s H2 (upd H6 ps (.lst (someO r1 r2 p3 p4))) := k6.new nps
      have eps : (upd H6 ps (.lst (someO r1 r2 p3 p4))) ps = some (.lst (someO r1 r2 p3 p4)) := upd_same
      have e4 : (upd H6 ps (.lst (someO r1 r2 p3 p4))) p4 = some (.tup [.int 1, .int 2]) := by rw [upd_ne (ne_of_none e4 nps)]; exact e4
      have e3 : (upd H6 ps (.lst (someO r1 r2 p3 p4))) p3 = some (.lst [.int 3]) := by rw [upd_ne (ne_of_none e3 nps)]; exact e3
      have pss : ps ≠ s := k6.2.ne_new nps
      change tSeq _ _ _ _ (upd H6 ps (.lst (someO r1 r2 p3 p4)))
      generalize (upd H6 ps (.lst (someO r1 r2 p3 p4))) = H7 at k7 e3 e4 eps ⊢
      have nst : ∀ {G : Hp} {b : Addr} {xs : List V}, StAt G s → G b = some (.lst xs) → xs.length ≠ 3 → b ≠ s := fun {G b xs} h e l z => by
        obtain ⟨u1, u2, u3, h, _⟩ := h
        rw [z, h] at e
        cases e
        exact l rfl
      have s3 : p3 ≠ s := nst k7.2 e3 (by decide)
      have s4 : p4 ≠ s := fun z => by
        obtain ⟨u1, u2, u3, h, _⟩ := k7.2
        rw [z, h] at e4
        cases e4
      refine ⟨_, rfl, _, rfl, s, 8, rfl, k7.2, (by decide), (by decide), fun r3 H8 r30 r31 K3 => ?_⟩
      obtain ⟨y, hy, my⟩ := idx_of (L := someO r1 r2 p3 p4) (n := 8) rfl r30 r31
      refine ⟨ps, _, r3, y, rfl, rfl, SqL.of (K3.1 _ _ pss eps), hy, ?_⟩
      have k8 := k7.trans K3
      refine ⟨_, rfl, _, rfl, s, 8, rfl, k8.2, (by decide), (by decide), fun r4 H9 r40 r41 K4 => ?_⟩
      obtain ⟨z, hz, mz⟩ := idx_of (L := someO r1 r2 p3 p4) (n := 8) rfl r40 r41
      have K34 := K3.trans K4
      refine ⟨ps, _, r4, z, rfl, rfl, SqL.of (K34.1 _ _ pss eps), hz, ?_⟩
      have k9 := k8.trans K4
      have e3 := K34.1 _ _ s3 e3
      have e4 := K34.1 _ _ s4 e4
      have gy : Good K H9 y := some_good r10 r11 r20 r21 e3 e4 y my
      have gz : Good K H9 z := some_good r10 r11 r20 r21 e3 e4 z mz
      have sH9 : Same H H9 := Kp.same sH2 ns1 k9
      clear e3 e4 eps k4 k5 k6 k7 k8 k9 K1 K2 K3 K4 K34 s3 s4 pss nst n3 n4 nps
      -- the errors
      refine ⟨27, rfl, by decide, by decide, fun D nD => ?_⟩
      refine lc_range (lo := 0) (n := 27) (fun j G => Same H9 G ∧ ∃ xs : List V, G D = some (.lst xs) ∧ xs.length = j ∧ ∀ i v, xs[i]? = some v → ErrAt a G i y z v) ⟨same_new (Same.refl H9) nD, [], upd_same, rfl, fun i v h => by simp at h⟩ ?_ ?_
      · rintro j G hj ⟨s2, xs, hD, hlen, hall⟩
        refine ⟨rfl, _, rfl, _, rfl, _, rfl, j, y, z, by rw [Int.zero_add]; rfl, hj, fun v G' s3 he => ?_⟩
        have hD' := s3 _ _ hD
        refine ⟨_, hD', by rw [hlen]; exact Nat.lt_of_lt_of_le hj (by decide), fun b o e => ?_, _, upd_same, by rw [List.length_append, hlen]; rfl, fun i v' h => ?_⟩
        · rw [upd_ne (ne_of_none e nD)]
          exact s3 _ _ (s2 _ _ e)
        · by_cases c : i < j
          · rw [List.getElem?_append_left (by omega)] at h
            exact ((hall i v' h).up s3).new hD'
          · have hi : i = j := by
              have := (List.getElem?_eq_some_iff.mp h).1
              rw [List.length_append, hlen] at this
              simp at this
              omega
            subst hi
            rw [List.getElem?_append_right (by omega), hlen, Nat.sub_self] at h
            cases h
            exact he.new hD'
      rintro G ⟨s2, xs, hD, hlen, hall⟩
      have sG : Same H G := sH9.trans s2
      have gy := gy.up s2
      have gz := gz.up s2
      refine ⟨_, rfl, D, xs, rfl, SqL.of hD, fun D2 nD2 => ?_⟩
      refine lc_it (walk_enum (xs := xs)) (fun i G1 => Same G G1 ∧ G1 D2 = some (.lst [])) ⟨same_new (Same.refl G) nD2, upd_same⟩ (fun i G1 _ z => SqL.of (z.1 _ _ hD)) ?_ ?_
      · rintro j xv G1 G2 hj ⟨t1, hD2⟩ ⟨Tp, x0, y0, rfl, nT, rfl, e1, e2⟩
        have e2 : xs[j]? = some y0 := e2
        cases e1
        have t2 : Same G (upd G1 Tp (.tup [.int (j : Int), y0])) := t1.trans (same_new (Same.refl G1) nT)
        have hT : (upd G1 Tp (.tup [.int (j : Int), y0])) Tp = some (.tup [.int (j : Int), y0]) := upd_same
        have hD3 : (upd G1 Tp (.tup [.int (j : Int), y0])) D2 = some (.lst []) := by rw [upd_ne (ne_of_none hD2 nT)]; exact hD2
        generalize (upd G1 Tp (.tup [.int (j : Int), y0])) = G3 at t2 hT hD3 ⊢
        refine ⟨Tp, _, rfl, SqT.of hT, rfl, _, _, rfl, _, _, rfl, rfl, rfl, _, rfl, _, rfl, j, y, z, y0, rfl, by omega, (hall j y0 e2).up t2, fun G4 t4 => ⟨true, rfl, iteF ⟨t2.trans t4, t4 _ _ hD3⟩⟩⟩
      rintro G1 ⟨t1, hD2⟩
      refine ⟨(by show 0 ≤ sizeLine; decide), fun pe npe => ?_⟩
      have t2 := t1.trans (same_new (o := .lst []) (Same.refl G1) npe)
      refine ⟨.list [], .list [], .lst (SqL.of (by rw [upd_ne (ne_of_none hD2 npe)]; exact hD2)) .nil, .lst (SqL.of upd_same) .nil, by decide +kernel, by decide +kernel, _, rfl, iteBF (by decide +kernel) ?_⟩
      generalize (upd G1 pe (.lst [])) = G5 at t2 ⊢
      refine ⟨_, rfl, _, rfl, _, rfl, _, rfl, _, rfl, _, rfl, _, rfl, _, rfl, _, rfl, _, rfl, _, rfl, _, rfl, _, rfl, _, rfl, _, rfl, _, rfl, (by show 16 ≤ sizeLine; decide), fun pd npd => ?_⟩
      have t3 := t2.trans (same_new (o := .lst (dueO y z)) (Same.refl G5) npd)
      have hpd : (upd G5 pd (.lst (dueO y z))) pd = some (.lst (dueO y z)) := upd_same
      change tSeq _ _ _ _ (upd G5 pd (.lst (dueO y z)))
      generalize (upd G5 pd (.lst (dueO y z))) = G6 at t3 hpd ⊢
      refine ⟨_, rfl, D, xs, y, z, rfl, t3 _ _ hD, hlen, fun i v h => (hall i v h).up t3, fun pf G7 t7 hpf => ?_⟩
      obtain ⟨dy, ay, my'⟩ := gy.up (t3.trans t7)
      obtain ⟨dz, az, mz'⟩ := gz.up (t3.trans t7)
      obtain ⟨w1, w2, w3, w4⟩ := due_shw my' mz'
      refine ⟨pf, .list (dueD dy dz), rfl, .lst (SqL.of hpf) (due_dp ay az), w1, w2, w3, w4, ?_⟩
      refine ⟨_, rfl, pd, .list (dueD dy dz), rfl, .lst (SqL.of (t7 _ _ hpd)) (due_dp ay az), w1, w2, w3, w4, rfl, _, rfl, iteBF (by simp) ?_⟩
      exact ⟨(sG.trans t3).trans t7, _, _, _, _, _, _, _, _, _, rfl⟩
    · rintro σ H1 ⟨s1', v0, v1, v2, v3, v4, v5, v6, v7, v8, rfl⟩
      exact q _

theorem all_mk {l : PySem.W.OpenLaw} {w : World} {K : PySem.W.Frag} {h : Heap} {mg : Str → Option Value} {fa : Addr} {f0 f1 f2 f3 f4 f5 f6 f7 f8 f9 : Addr} (X : K.In h) (G : h.Ns mainGlobals mg) (hfa : mg "law" = some (.ref fa))
    {od0 od1 od2 od3 od4 od5 od6 od7 od8 od9 : Option Addr} {an0 an1 an2 an3 an4 an5 an6 an7 an8 an9 : Option Addr} {sl0 sl1 sl2 sl3 sl4 sl5 sl6 sl7 sl8 sl9 : Array (Option Value)} {oc0 kV0 dc0 pm0 cd0 ct0 oc1 kV1 dc1 pm1 cd1 ct1 oc2 kV2 dc2 pm2 cd2 ct2 oc3 kV3 dc3 pm3 cd3 ct3 oc4 kV4 dc4 pm4 cd4 ct4 oc5 kV5 dc5 pm5 cd5 ct5 oc6 kV6 dc6 pm6 cd6 ct6 oc7 kV7 dc7 pm7 cd7 ct7 oc8 kV8 dc8 pm8 cd8 ct8 oc9 kV9 dc9 pm9 cd9 ct9 : Value}
    {i166 : Addr} {i165 : Addr} {i164 : Addr} {i163 : Addr} {i162 : Addr} {i161 : Addr} {i160 : Addr} {i159 : Addr} {i158 : Addr} {i157 : Addr} {i156 : Addr} {i155 : Addr} {i154 : Addr} {i153 : Addr} {i152 : Addr} {i151 : Addr} {i150 : Addr} {e100 : Addr} {e101 : Addr} {e102 : Addr} {e103 : Addr} {e104 : Addr} {e105 : Addr} {e106 : Addr} {e107 : Addr} {e108 : Addr} {e109 : Addr} {e110 : Addr} {e111 : Addr} {e112 : Addr} {e113 : Addr} {e114 : Addr} {e115 : Addr} {e116 : Addr} {e117 : Addr} {e118 : Addr} {e119 : Addr} {e120 : Addr} {e121 : Addr} {e122 : Addr} {e123 : Addr} {e124 : Addr} {e125 : Addr} {e126 : Addr} {e127 : Addr} {nm101 q101 : Str} {N101 : Addr} {bs101 : List Value} {sn101 : List Str} {sub101 : List Value} {ab101 : Bool} {col101 : Option Bool} {dd101 : Option Addr} {x0101 x1101 x2101 x3101 x5101 : Option Value} {nm102 q102 : Str} {N102 : Addr} {bs102 : List Value} {sn102 : List Str} {sub102 : List Value} {ab102 : Bool} {col102 : Option Bool} {dd102 : Option Addr} {x0102 x1102 x2102 x3102 x5102 : Option Value} {nm103 q103 : Str} {N103 : Addr} {bs103 : List Value} {sn103 : List Str} {sub103 : List Value} {ab103 : Bool} {col103 : Option Bool} {dd103 : Option Addr} {x0103 x1103 x2103 x3103 x5103 : Option Value} {nm104 q104 : Str} {N104 : Addr} {bs104 : List Value} {sn104 : List Str} {sub104 : List Value} {ab104 : Bool} {col104 : Option Bool} {dd104 : Option Addr} {x0104 x1104 x2104 x3104 x5104 : Option Value} {nm105 q105 : Str} {N105 : Addr} {bs105 : List Value} {sn105 : List Str} {sub105 : List Value} {ab105 : Bool} {col105 : Option Bool} {dd105 : Option Addr} {x0105 x1105 x2105 x3105 x5105 : Option Value} {nm106 q106 : Str} {N106 : Addr} {bs106 : List Value} {sn106 : List Str} {sub106 : List Value} {ab106 : Bool} {col106 : Option Bool} {dd106 : Option Addr} {x0106 x1106 x2106 x3106 x5106 : Option Value} {nm107 q107 : Str} {N107 : Addr} {bs107 : List Value} {sn107 : List Str} {sub107 : List Value} {ab107 : Bool} {col107 : Option Bool} {dd107 : Option Addr} {x0107 x1107 x2107 x3107 x5107 : Option Value} {nm108 q108 : Str} {N108 : Addr} {bs108 : List Value} {sn108 : List Str} {sub108 : List Value} {ab108 : Bool} {col108 : Option Bool} {dd108 : Option Addr} {x0108 x1108 x2108 x3108 x5108 : Option Value} {nm109 q109 : Str} {N109 : Addr} {bs109 : List Value} {sn109 : List Str} {sub109 : List Value} {ab109 : Bool} {col109 : Option Bool} {dd109 : Option Addr} {x0109 x1109 x2109 x3109 x5109 : Option Value} {nm110 q110 : Str} {N110 : Addr} {bs110 : List Value} {sn110 : List Str} {sub110 : List Value} {ab110 : Bool} {col110 : Option Bool} {dd110 : Option Addr} {x0110 x1110 x2110 x3110 x5110 : Option Value} {nm111 q111 : Str} {N111 : Addr} {bs111 : List Value} {sn111 : List Str} {sub111 : List Value} {ab111 : Bool} {col111 : Option Bool} {dd111 : Option Addr} {x0111 x1111 x2111 x3111 x5111 : Option Value} {nm112 q112 : Str} {N112 : Addr} {bs112 : List Value} {sn112 : List Str} {sub112 : List Value} {ab112 : Bool} {col112 : Option Bool} {dd112 : Option Addr} {x0112 x1112 x2112 x3112 x5112 : Option Value} {nm113 q113 : Str} {N113 : Addr} {bs113 : List Value} {sn113 : List Str} {sub113 : List Value} {ab113 : Bool} {col113 : Option Bool} {dd113 : Option Addr} {x0113 x1113 x2113 x3113 x5113 : Option Value} {nm114 q114 : Str} {N114 : Addr} {bs114 : List Value} {sn114 : List Str} {sub114 : List Value} {ab114 : Bool} {col114 : Option Bool} {dd114 : Option Addr} {x0114 x1114 x2114 x3114 x5114 : Option Value} {nm115 q115 : Str} {N115 : Addr} {bs115 : List Value} {sn115 : List Str} {sub115 : List Value} {ab115 : Bool} {col115 : Option Bool} {dd115 : Option Addr} {x0115 x1115 x2115 x3115 x5115 : Option Value} {nm116 q116 : Str} {N116 : Addr} {bs116 : List Value} {sn116 : List Str} {sub116 : List Value} {ab116 : Bool} {col116 : Option Bool} {dd116 : Option Addr} {x0116 x1116 x2116 x3116 x5116 : Option Value} {nm117 q117 : Str} {N117 : Addr} {bs117 : List Value} {sn117 : List Str} {sub117 : List Value} {ab117 : Bool} {col117 : Option Bool} {dd117 : Option Addr} {x0117 x1117 x2117 x3117 x5117 : Option Value} {nm118 q118 : Str} {N118 : Addr} {bs118 : List Value} {sn118 : List Str} {sub118 : List Value} {ab118 : Bool} {col118 : Option Bool} {dd118 : Option Addr} {x0118 x1118 x2118 x3118 x5118 : Option Value} {nm119 q119 : Str} {N119 : Addr} {bs119 : List Value} {sn119 : List Str} {sub119 : List Value} {ab119 : Bool} {col119 : Option Bool} {dd119 : Option Addr} {x0119 x1119 x2119 x3119 x5119 : Option Value} {nm120 q120 : Str} {N120 : Addr} {bs120 : List Value} {sn120 : List Str} {sub120 : List Value} {ab120 : Bool} {col120 : Option Bool} {dd120 : Option Addr} {x0120 x1120 x2120 x3120 x5120 : Option Value} {nm121 q121 : Str} {N121 : Addr} {bs121 : List Value} {sn121 : List Str} {sub121 : List Value} {ab121 : Bool} {col121 : Option Bool} {dd121 : Option Addr} {x0121 x1121 x2121 x3121 x5121 : Option Value} {nm122 q122 : Str} {N122 : Addr} {bs122 : List Value} {sn122 : List Str} {sub122 : List Value} {ab122 : Bool} {col122 : Option Bool} {dd122 : Option Addr} {x0122 x1122 x2122 x3122 x5122 : Option Value} {nm123 q123 : Str} {N123 : Addr} {bs123 : List Value} {sn123 : List Str} {sub123 : List Value} {ab123 : Bool} {col123 : Option Bool} {dd123 : Option Addr} {x0123 x1123 x2123 x3123 x5123 : Option Value} {nm124 q124 : Str} {N124 : Addr} {bs124 : List Value} {sn124 : List Str} {sub124 : List Value} {ab124 : Bool} {col124 : Option Bool} {dd124 : Option Addr} {x0124 x1124 x2124 x3124 x5124 : Option Value} {nm125 q125 : Str} {N125 : Addr} {bs125 : List Value} {sn125 : List Str} {sub125 : List Value} {ab125 : Bool} {col125 : Option Bool} {dd125 : Option Addr} {x0125 x1125 x2125 x3125 x5125 : Option Value} {nm126 q126 : Str} {N126 : Addr} {bs126 : List Value} {sn126 : List Str} {sub126 : List Value} {ab126 : Bool} {col126 : Option Bool} {dd126 : Option Addr} {x0126 x1126 x2126 x3126 x5126 : Option Value} {nm127 q127 : Str} {N127 : Addr} {bs127 : List Value} {sn127 : List Str} {sub127 : List Value} {ab127 : Bool} {col127 : Option Bool} {dd127 : Option Addr} {x0127 x1127 x2127 x3127 x5127 : Option Value} {oc150 kV150 dc150 pm150 cd150 ct150 : Value} {od150 an150 : Option Addr} {sl150 : Array (Option Value)} {T150 : Addr} {ocT150 : Value} {odT150 : Option Addr} {slT150 : Array (Option Value)} {nT150 : Nat} {tkT150 : Tok} {oc151 kV151 dc151 pm151 cd151 ct151 : Value} {od151 an151 : Option Addr} {sl151 : Array (Option Value)} {oc152 kV152 dc152 pm152 cd152 ct152 : Value} {od152 an152 : Option Addr} {sl152 : Array (Option Value)} {oc153 kV153 dc153 pm153 cd153 ct153 : Value} {od153 an153 : Option Addr} {sl153 : Array (Option Value)} {oc154 kV154 dc154 pm154 cd154 ct154 : Value} {od154 an154 : Option Addr} {sl154 : Array (Option Value)} {oc155 kV155 dc155 pm155 cd155 ct155 : Value} {od155 an155 : Option Addr} {sl155 : Array (Option Value)} {oc156 kV156 dc156 pm156 cd156 ct156 : Value} {od156 an156 : Option Addr} {sl156 : Array (Option Value)} {oc157 kV157 dc157 pm157 cd157 ct157 : Value} {od157 an157 : Option Addr} {sl157 : Array (Option Value)} {oc158 kV158 dc158 pm158 cd158 ct158 : Value} {od158 an158 : Option Addr} {sl158 : Array (Option Value)} {oc159 kV159 dc159 pm159 cd159 ct159 : Value} {od159 an159 : Option Addr} {sl159 : Array (Option Value)} {oc160 kV160 dc160 pm160 cd160 ct160 : Value} {od160 an160 : Option Addr} {sl160 : Array (Option Value)} {oc161 kV161 dc161 pm161 cd161 ct161 : Value} {od161 an161 : Option Addr} {sl161 : Array (Option Value)} {oc162 kV162 dc162 pm162 cd162 ct162 : Value} {od162 an162 : Option Addr} {sl162 : Array (Option Value)} {oc163 kV163 dc163 pm163 cd163 ct163 : Value} {od163 an163 : Option Addr} {sl163 : Array (Option Value)} {oc164 kV164 dc164 pm164 cd164 ct164 : Value} {od164 an164 : Option Addr} {sl164 : Array (Option Value)} {oc165 kV165 dc165 pm165 cd165 ct165 : Value} {od165 an165 : Option Addr} {sl165 : Array (Option Value)} {oc166 kV166 dc166 pm166 cd166 ct166 : Value} {od166 an166 : Option Addr} {sl166 : Array (Option Value)}
    (a0 : PySem.W.nsIn K mainGlobals "_law_begun" = some (some (.ref f0)))
    (l0 : K.lookup f0 = some ⟨oc0, od0, .func (PySem.W.fnOf "_law_begun" "_law_begun" (defArgs s_l_begun) (defBody s_l_begun) (defScope s_l_begun) .none kV0 dc0 pm0 an0 cd0 ct0), sl0⟩) (c0 : PySem.W.codeIn K cd0 "_law_begun" = true) (k0 : PySem.W.keepIn K (.ref f0) = true)
    (a1 : PySem.W.nsIn K mainGlobals "_law_take" = some (some (.ref f1)))
    (l1 : K.lookup f1 = some ⟨oc1, od1, .func (PySem.W.fnOf "_law_take" "_law_take" (defArgs s_l_take) (defBody s_l_take) (defScope s_l_take) .none kV1 dc1 pm1 an1 cd1 ct1), sl1⟩) (c1 : PySem.W.codeIn K cd1 "_law_take" = true) (k1 : PySem.W.keepIn K (.ref f1) = true)
    (a2 : PySem.W.nsIn K mainGlobals "_law_by_text" = some (some (.ref f2)))
    (l2 : K.lookup f2 = some ⟨oc2, od2, .func (PySem.W.fnOf "_law_by_text" "_law_by_text" (defArgs s_l_by_text) (defBody s_l_by_text) (defScope s_l_by_text) .none kV2 dc2 pm2 an2 cd2 ct2), sl2⟩) (c2 : PySem.W.codeIn K cd2 "_law_by_text" = true) (k2 : PySem.W.keepIn K (.ref f2) = true)
    (a3 : PySem.W.nsIn K mainGlobals "_law_by_value" = some (some (.ref f3)))
    (l3 : K.lookup f3 = some ⟨oc3, od3, .func (PySem.W.fnOf "_law_by_value" "_law_by_value" (defArgs s_l_by_value) (defBody s_l_by_value) (defScope s_l_by_value) .none kV3 dc3 pm3 an3 cd3 ct3), sl3⟩) (c3 : PySem.W.codeIn K cd3 "_law_by_value" = true) (k3 : PySem.W.keepIn K (.ref f3) = true)
    (a4 : PySem.W.nsIn K mainGlobals "_law_by_another" = some (some (.ref f4)))
    (l4 : K.lookup f4 = some ⟨oc4, od4, .func (PySem.W.fnOf "_law_by_another" "_law_by_another" (defArgs s_l_by_another) (defBody s_l_by_another) (defScope s_l_by_another) .none kV4 dc4 pm4 an4 cd4 ct4), sl4⟩) (c4 : PySem.W.codeIn K cd4 "_law_by_another" = true) (k4 : PySem.W.keepIn K (.ref f4) = true)
    (a5 : PySem.W.nsIn K mainGlobals "_law_raised" = some (some (.ref f5)))
    (l5 : K.lookup f5 = some ⟨oc5, od5, .func (PySem.W.fnOf "_law_raised" "_law_raised" (defArgs s_l_raised) (defBody s_l_raised) (defScope s_l_raised) .none kV5 dc5 pm5 an5 cd5 ct5), sl5⟩) (c5 : PySem.W.codeIn K cd5 "_law_raised" = true) (k5 : PySem.W.keepIn K (.ref f5) = true)
    (a6 : PySem.W.nsIn K mainGlobals "_law_own" = some (some (.ref f6)))
    (l6 : K.lookup f6 = some ⟨oc6, od6, .func (PySem.W.fnOf "_law_own" "_law_own" (defArgs s_l_own) (defBody s_l_own) (defScope s_l_own) .none kV6 dc6 pm6 an6 cd6 ct6), sl6⟩) (c6 : PySem.W.codeIn K cd6 "_law_own" = true) (k6 : PySem.W.keepIn K (.ref f6) = true)
    (a7 : PySem.W.nsIn K mainGlobals "_law_fields" = some (some (.ref f7)))
    (l7 : K.lookup f7 = some ⟨oc7, od7, .func (PySem.W.fnOf "_law_fields" "_law_fields" (defArgs s_l_fields) (defBody s_l_fields) (defScope s_l_fields) .none kV7 dc7 pm7 an7 cd7 ct7), sl7⟩) (c7 : PySem.W.codeIn K cd7 "_law_fields" = true) (k7 : PySem.W.keepIn K (.ref f7) = true)
    (a8 : PySem.W.nsIn K mainGlobals "_law_apart" = some (some (.ref f8)))
    (l8 : K.lookup f8 = some ⟨oc8, od8, .func (PySem.W.fnOf "_law_apart" "_law_apart" (defArgs s_l_apart) (defBody s_l_apart) (defScope s_l_apart) .none kV8 dc8 pm8 an8 cd8 ct8), sl8⟩) (c8 : PySem.W.codeIn K cd8 "_law_apart" = true) (k8 : PySem.W.keepIn K (.ref f8) = true)
    (a9 : PySem.W.nsIn K mainGlobals "law" = some (some (.ref f9)))
    (l9 : K.lookup f9 = some ⟨oc9, od9, .func (PySem.W.fnOf "law" "law" (defArgs s_law) (defBody s_law) (defScope s_law) .none kV9 dc9 pm9 an9 cd9 ct9), sl9⟩) (c9 : PySem.W.codeIn K cd9 "law" = true) (k9 : PySem.W.keepIn K (.ref f9) = true)
    (z_max : PySem.W.nsIn K mainGlobals "max" = some none)
    (z_min : PySem.W.nsIn K mainGlobals "min" = some none)
    (z_len : PySem.W.nsIn K mainGlobals "len" = some none)
    (z_int : PySem.W.nsIn K mainGlobals "int" = some none)
    (z_range : PySem.W.nsIn K mainGlobals "range" = some none)
    (z_isinstance : PySem.W.nsIn K mainGlobals "isinstance" = some none)
    (z_repr : PySem.W.nsIn K mainGlobals "repr" = some none)
    (z_enumerate : PySem.W.nsIn K mainGlobals "enumerate" = some none)
    (z_ValueError : PySem.W.nsIn K mainGlobals "ValueError" = some none)
    (z_KeyError : PySem.W.nsIn K mainGlobals "KeyError" = some none)
    (z_IndexError : PySem.W.nsIn K mainGlobals "IndexError" = some none)
    (z_LookupError : PySem.W.nsIn K mainGlobals "LookupError" = some none)
    (z_RuntimeError : PySem.W.nsIn K mainGlobals "RuntimeError" = some none)
    (aE100 : PySem.W.nsIn K mainGlobals "WaitError" = some (some (.ref e100)))
    (aE101 : PySem.W.nsIn K mainGlobals "NoNumber" = some (some (.ref e101)))
    (aE102 : PySem.W.nsIn K mainGlobals "NoDrift" = some (some (.ref e102)))
    (aE103 : PySem.W.nsIn K mainGlobals "NoShare" = some (some (.ref e103)))
    (aE104 : PySem.W.nsIn K mainGlobals "NoPace" = some (some (.ref e104)))
    (aE105 : PySem.W.nsIn K mainGlobals "NoStamp" = some (some (.ref e105)))
    (aE106 : PySem.W.nsIn K mainGlobals "NoWorth" = some (some (.ref e106)))
    (aE107 : PySem.W.nsIn K mainGlobals "NoLetter" = some (some (.ref e107)))
    (aE108 : PySem.W.nsIn K mainGlobals "NoForm" = some (some (.ref e108)))
    (aE109 : PySem.W.nsIn K mainGlobals "NoDeed" = some (some (.ref e109)))
    (aE110 : PySem.W.nsIn K mainGlobals "NoHistory" = some (some (.ref e110)))
    (aE111 : PySem.W.nsIn K mainGlobals "NoRow" = some (some (.ref e111)))
    (aE112 : PySem.W.nsIn K mainGlobals "NoBounds" = some (some (.ref e112)))
    (aE113 : PySem.W.nsIn K mainGlobals "NoText" = some (some (.ref e113)))
    (aE114 : PySem.W.nsIn K mainGlobals "NoKey" = some (some (.ref e114)))
    (aE115 : PySem.W.nsIn K mainGlobals "NoName" = some (some (.ref e115)))
    (aE116 : PySem.W.nsIn K mainGlobals "Gone" = some (some (.ref e116)))
    (aE117 : PySem.W.nsIn K mainGlobals "Elsewhere" = some (some (.ref e117)))
    (aE118 : PySem.W.nsIn K mainGlobals "NoCopy" = some (some (.ref e118)))
    (aE119 : PySem.W.nsIn K mainGlobals "NoDealing" = some (some (.ref e119)))
    (aE120 : PySem.W.nsIn K mainGlobals "NoHold" = some (some (.ref e120)))
    (aE121 : PySem.W.nsIn K mainGlobals "NoHead" = some (some (.ref e121)))
    (aE122 : PySem.W.nsIn K mainGlobals "Waits" = some (some (.ref e122)))
    (aE123 : PySem.W.nsIn K mainGlobals "Early" = some (some (.ref e123)))
    (aE124 : PySem.W.nsIn K mainGlobals "Off" = some (some (.ref e124)))
    (aE125 : PySem.W.nsIn K mainGlobals "Sure" = some (some (.ref e125)))
    (aE126 : PySem.W.nsIn K mainGlobals "Unset" = some (some (.ref e126)))
    (aE127 : PySem.W.nsIn K mainGlobals "Bare" = some (some (.ref e127)))
    (j2 : PySem.W.specialIn K (.builtin "object.__class__") "__get__" = some (some (.builtin "getset_descriptor.__get__")))
    (j3 : PySem.W.takesIn K (.builtin "object.__class__") = some true)
    (x101 : K.lookup e101 = some (excClassObj nm101 q101 e101 N101 bs101 [.ref e100, .type "ValueError", .type "Exception", .type "BaseException", .type "object"] true sn101 sub101 ab101 col101 dd101 x0101 x1101 x2101 x3101 x5101 "ValueError.__new__"))
    (sa101 : PySem.W.findIn K (.ref e101) "__setattr__" = some (some (.builtin "object.__setattr__")))
    (xb101 : PySem.W.subIn K (.ref e101) (.type "BaseException") = some true)
    (ty101 : PySem.W.typeIn K (.ref e101) = some (.type "type"))
    (kp101 : PySem.W.keepIn K (.ref e101) = true)
    (in101 : PySem.W.findIn K (.ref e101) "__init__" = some (some (.ref i150)))
    (ga101 : PySem.W.findIn K (.ref e101) "__getattribute__" = some (some (.builtin "BaseException.__getattribute__")))
    (gg101 : PySem.W.findIn K (.ref e101) "__getattr__" = some none)
    (hd101 : PySem.W.hasDictIn K e101 = true)
    (jc101 : PySem.W.findIn K (.ref e101) "__class__" = some (some (.builtin "object.__class__")))
    (jm101 : PySem.W.mroIn K e101 (.type "object") = some true)
    (n0_101 : PySem.W.findIn K (.ref e101) "text" = some none)
    (x102 : K.lookup e102 = some (excClassObj nm102 q102 e102 N102 bs102 [.ref e100, .type "ValueError", .type "Exception", .type "BaseException", .type "object"] true sn102 sub102 ab102 col102 dd102 x0102 x1102 x2102 x3102 x5102 "ValueError.__new__"))
    (sa102 : PySem.W.findIn K (.ref e102) "__setattr__" = some (some (.builtin "object.__setattr__")))
    (xb102 : PySem.W.subIn K (.ref e102) (.type "BaseException") = some true)
    (ty102 : PySem.W.typeIn K (.ref e102) = some (.type "type"))
    (kp102 : PySem.W.keepIn K (.ref e102) = true)
    (in102 : PySem.W.findIn K (.ref e102) "__init__" = some (some (.ref i150)))
    (ga102 : PySem.W.findIn K (.ref e102) "__getattribute__" = some (some (.builtin "BaseException.__getattribute__")))
    (gg102 : PySem.W.findIn K (.ref e102) "__getattr__" = some none)
    (hd102 : PySem.W.hasDictIn K e102 = true)
    (jc102 : PySem.W.findIn K (.ref e102) "__class__" = some (some (.builtin "object.__class__")))
    (jm102 : PySem.W.mroIn K e102 (.type "object") = some true)
    (n0_102 : PySem.W.findIn K (.ref e102) "text" = some none)
    (x103 : K.lookup e103 = some (excClassObj nm103 q103 e103 N103 bs103 [.ref e100, .type "ValueError", .type "Exception", .type "BaseException", .type "object"] true sn103 sub103 ab103 col103 dd103 x0103 x1103 x2103 x3103 x5103 "ValueError.__new__"))
    (sa103 : PySem.W.findIn K (.ref e103) "__setattr__" = some (some (.builtin "object.__setattr__")))
    (xb103 : PySem.W.subIn K (.ref e103) (.type "BaseException") = some true)
    (ty103 : PySem.W.typeIn K (.ref e103) = some (.type "type"))
    (kp103 : PySem.W.keepIn K (.ref e103) = true)
    (in103 : PySem.W.findIn K (.ref e103) "__init__" = some (some (.ref i150)))
    (ga103 : PySem.W.findIn K (.ref e103) "__getattribute__" = some (some (.builtin "BaseException.__getattribute__")))
    (gg103 : PySem.W.findIn K (.ref e103) "__getattr__" = some none)
    (hd103 : PySem.W.hasDictIn K e103 = true)
    (jc103 : PySem.W.findIn K (.ref e103) "__class__" = some (some (.builtin "object.__class__")))
    (jm103 : PySem.W.mroIn K e103 (.type "object") = some true)
    (n0_103 : PySem.W.findIn K (.ref e103) "text" = some none)
    (x104 : K.lookup e104 = some (excClassObj nm104 q104 e104 N104 bs104 [.ref e100, .type "ValueError", .type "Exception", .type "BaseException", .type "object"] true sn104 sub104 ab104 col104 dd104 x0104 x1104 x2104 x3104 x5104 "ValueError.__new__"))
    (sa104 : PySem.W.findIn K (.ref e104) "__setattr__" = some (some (.builtin "object.__setattr__")))
    (xb104 : PySem.W.subIn K (.ref e104) (.type "BaseException") = some true)
    (ty104 : PySem.W.typeIn K (.ref e104) = some (.type "type"))
    (kp104 : PySem.W.keepIn K (.ref e104) = true)
    (in104 : PySem.W.findIn K (.ref e104) "__init__" = some (some (.ref i150)))
    (ga104 : PySem.W.findIn K (.ref e104) "__getattribute__" = some (some (.builtin "BaseException.__getattribute__")))
    (gg104 : PySem.W.findIn K (.ref e104) "__getattr__" = some none)
    (hd104 : PySem.W.hasDictIn K e104 = true)
    (jc104 : PySem.W.findIn K (.ref e104) "__class__" = some (some (.builtin "object.__class__")))
    (jm104 : PySem.W.mroIn K e104 (.type "object") = some true)
    (n0_104 : PySem.W.findIn K (.ref e104) "text" = some none)
    (x105 : K.lookup e105 = some (excClassObj nm105 q105 e105 N105 bs105 [.ref e100, .type "ValueError", .type "Exception", .type "BaseException", .type "object"] true sn105 sub105 ab105 col105 dd105 x0105 x1105 x2105 x3105 x5105 "ValueError.__new__"))
    (sa105 : PySem.W.findIn K (.ref e105) "__setattr__" = some (some (.builtin "object.__setattr__")))
    (xb105 : PySem.W.subIn K (.ref e105) (.type "BaseException") = some true)
    (ty105 : PySem.W.typeIn K (.ref e105) = some (.type "type"))
    (kp105 : PySem.W.keepIn K (.ref e105) = true)
    (in105 : PySem.W.findIn K (.ref e105) "__init__" = some (some (.ref i150)))
    (ga105 : PySem.W.findIn K (.ref e105) "__getattribute__" = some (some (.builtin "BaseException.__getattribute__")))
    (gg105 : PySem.W.findIn K (.ref e105) "__getattr__" = some none)
    (hd105 : PySem.W.hasDictIn K e105 = true)
    (jc105 : PySem.W.findIn K (.ref e105) "__class__" = some (some (.builtin "object.__class__")))
    (jm105 : PySem.W.mroIn K e105 (.type "object") = some true)
    (n0_105 : PySem.W.findIn K (.ref e105) "text" = some none)
    (x106 : K.lookup e106 = some (excClassObj nm106 q106 e106 N106 bs106 [.ref e100, .type "ValueError", .type "Exception", .type "BaseException", .type "object"] true sn106 sub106 ab106 col106 dd106 x0106 x1106 x2106 x3106 x5106 "ValueError.__new__"))
    (sa106 : PySem.W.findIn K (.ref e106) "__setattr__" = some (some (.builtin "object.__setattr__")))
    (xb106 : PySem.W.subIn K (.ref e106) (.type "BaseException") = some true)
    (ty106 : PySem.W.typeIn K (.ref e106) = some (.type "type"))
    (kp106 : PySem.W.keepIn K (.ref e106) = true)
    (in106 : PySem.W.findIn K (.ref e106) "__init__" = some (some (.ref i150)))
    (ga106 : PySem.W.findIn K (.ref e106) "__getattribute__" = some (some (.builtin "BaseException.__getattribute__")))
    (gg106 : PySem.W.findIn K (.ref e106) "__getattr__" = some none)
    (hd106 : PySem.W.hasDictIn K e106 = true)
    (jc106 : PySem.W.findIn K (.ref e106) "__class__" = some (some (.builtin "object.__class__")))
    (jm106 : PySem.W.mroIn K e106 (.type "object") = some true)
    (n0_106 : PySem.W.findIn K (.ref e106) "text" = some none)
    (x107 : K.lookup e107 = some (excClassObj nm107 q107 e107 N107 bs107 [.ref e100, .type "ValueError", .type "Exception", .type "BaseException", .type "object"] true sn107 sub107 ab107 col107 dd107 x0107 x1107 x2107 x3107 x5107 "ValueError.__new__"))
    (sa107 : PySem.W.findIn K (.ref e107) "__setattr__" = some (some (.builtin "object.__setattr__")))
    (xb107 : PySem.W.subIn K (.ref e107) (.type "BaseException") = some true)
    (ty107 : PySem.W.typeIn K (.ref e107) = some (.type "type"))
    (kp107 : PySem.W.keepIn K (.ref e107) = true)
    (in107 : PySem.W.findIn K (.ref e107) "__init__" = some (some (.ref i150)))
    (ga107 : PySem.W.findIn K (.ref e107) "__getattribute__" = some (some (.builtin "BaseException.__getattribute__")))
    (gg107 : PySem.W.findIn K (.ref e107) "__getattr__" = some none)
    (hd107 : PySem.W.hasDictIn K e107 = true)
    (jc107 : PySem.W.findIn K (.ref e107) "__class__" = some (some (.builtin "object.__class__")))
    (jm107 : PySem.W.mroIn K e107 (.type "object") = some true)
    (n0_107 : PySem.W.findIn K (.ref e107) "text" = some none)
    (x108 : K.lookup e108 = some (excClassObj nm108 q108 e108 N108 bs108 [.ref e100, .type "ValueError", .type "Exception", .type "BaseException", .type "object"] true sn108 sub108 ab108 col108 dd108 x0108 x1108 x2108 x3108 x5108 "ValueError.__new__"))
    (sa108 : PySem.W.findIn K (.ref e108) "__setattr__" = some (some (.builtin "object.__setattr__")))
    (xb108 : PySem.W.subIn K (.ref e108) (.type "BaseException") = some true)
    (ty108 : PySem.W.typeIn K (.ref e108) = some (.type "type"))
    (kp108 : PySem.W.keepIn K (.ref e108) = true)
    (in108 : PySem.W.findIn K (.ref e108) "__init__" = some (some (.ref i150)))
    (ga108 : PySem.W.findIn K (.ref e108) "__getattribute__" = some (some (.builtin "BaseException.__getattribute__")))
    (gg108 : PySem.W.findIn K (.ref e108) "__getattr__" = some none)
    (hd108 : PySem.W.hasDictIn K e108 = true)
    (jc108 : PySem.W.findIn K (.ref e108) "__class__" = some (some (.builtin "object.__class__")))
    (jm108 : PySem.W.mroIn K e108 (.type "object") = some true)
    (n0_108 : PySem.W.findIn K (.ref e108) "text" = some none)
    (x109 : K.lookup e109 = some (excClassObj nm109 q109 e109 N109 bs109 [.ref e100, .type "ValueError", .type "Exception", .type "BaseException", .type "object"] true sn109 sub109 ab109 col109 dd109 x0109 x1109 x2109 x3109 x5109 "ValueError.__new__"))
    (sa109 : PySem.W.findIn K (.ref e109) "__setattr__" = some (some (.builtin "object.__setattr__")))
    (xb109 : PySem.W.subIn K (.ref e109) (.type "BaseException") = some true)
    (ty109 : PySem.W.typeIn K (.ref e109) = some (.type "type"))
    (kp109 : PySem.W.keepIn K (.ref e109) = true)
    (in109 : PySem.W.findIn K (.ref e109) "__init__" = some (some (.ref i150)))
    (ga109 : PySem.W.findIn K (.ref e109) "__getattribute__" = some (some (.builtin "BaseException.__getattribute__")))
    (gg109 : PySem.W.findIn K (.ref e109) "__getattr__" = some none)
    (hd109 : PySem.W.hasDictIn K e109 = true)
    (jc109 : PySem.W.findIn K (.ref e109) "__class__" = some (some (.builtin "object.__class__")))
    (jm109 : PySem.W.mroIn K e109 (.type "object") = some true)
    (n0_109 : PySem.W.findIn K (.ref e109) "text" = some none)
    (x110 : K.lookup e110 = some (excClassObj nm110 q110 e110 N110 bs110 [.ref e100, .type "ValueError", .type "Exception", .type "BaseException", .type "object"] true sn110 sub110 ab110 col110 dd110 x0110 x1110 x2110 x3110 x5110 "ValueError.__new__"))
    (sa110 : PySem.W.findIn K (.ref e110) "__setattr__" = some (some (.builtin "object.__setattr__")))
    (xb110 : PySem.W.subIn K (.ref e110) (.type "BaseException") = some true)
    (ty110 : PySem.W.typeIn K (.ref e110) = some (.type "type"))
    (kp110 : PySem.W.keepIn K (.ref e110) = true)
    (in110 : PySem.W.findIn K (.ref e110) "__init__" = some (some (.ref i150)))
    (ga110 : PySem.W.findIn K (.ref e110) "__getattribute__" = some (some (.builtin "BaseException.__getattribute__")))
    (gg110 : PySem.W.findIn K (.ref e110) "__getattr__" = some none)
    (hd110 : PySem.W.hasDictIn K e110 = true)
    (jc110 : PySem.W.findIn K (.ref e110) "__class__" = some (some (.builtin "object.__class__")))
    (jm110 : PySem.W.mroIn K e110 (.type "object") = some true)
    (n0_110 : PySem.W.findIn K (.ref e110) "text" = some none)
    (x111 : K.lookup e111 = some (excClassObj nm111 q111 e111 N111 bs111 [.ref e100, .type "ValueError", .type "Exception", .type "BaseException", .type "object"] true sn111 sub111 ab111 col111 dd111 x0111 x1111 x2111 x3111 x5111 "ValueError.__new__"))
    (sa111 : PySem.W.findIn K (.ref e111) "__setattr__" = some (some (.builtin "object.__setattr__")))
    (xb111 : PySem.W.subIn K (.ref e111) (.type "BaseException") = some true)
    (ty111 : PySem.W.typeIn K (.ref e111) = some (.type "type"))
    (kp111 : PySem.W.keepIn K (.ref e111) = true)
    (in111 : PySem.W.findIn K (.ref e111) "__init__" = some (some (.ref i150)))
    (ga111 : PySem.W.findIn K (.ref e111) "__getattribute__" = some (some (.builtin "BaseException.__getattribute__")))
    (gg111 : PySem.W.findIn K (.ref e111) "__getattr__" = some none)
    (hd111 : PySem.W.hasDictIn K e111 = true)
    (jc111 : PySem.W.findIn K (.ref e111) "__class__" = some (some (.builtin "object.__class__")))
    (jm111 : PySem.W.mroIn K e111 (.type "object") = some true)
    (n0_111 : PySem.W.findIn K (.ref e111) "text" = some none)
    (x112 : K.lookup e112 = some (excClassObj nm112 q112 e112 N112 bs112 [.ref e100, .type "ValueError", .type "Exception", .type "BaseException", .type "object"] true sn112 sub112 ab112 col112 dd112 x0112 x1112 x2112 x3112 x5112 "ValueError.__new__"))
    (sa112 : PySem.W.findIn K (.ref e112) "__setattr__" = some (some (.builtin "object.__setattr__")))
    (xb112 : PySem.W.subIn K (.ref e112) (.type "BaseException") = some true)
    (ty112 : PySem.W.typeIn K (.ref e112) = some (.type "type"))
    (kp112 : PySem.W.keepIn K (.ref e112) = true)
    (in112 : PySem.W.findIn K (.ref e112) "__init__" = some (some (.ref i151)))
    (ga112 : PySem.W.findIn K (.ref e112) "__getattribute__" = some (some (.builtin "BaseException.__getattribute__")))
    (gg112 : PySem.W.findIn K (.ref e112) "__getattr__" = some none)
    (hd112 : PySem.W.hasDictIn K e112 = true)
    (jc112 : PySem.W.findIn K (.ref e112) "__class__" = some (some (.builtin "object.__class__")))
    (jm112 : PySem.W.mroIn K e112 (.type "object") = some true)
    (n0_112 : PySem.W.findIn K (.ref e112) "low" = some none)
    (n1_112 : PySem.W.findIn K (.ref e112) "high" = some none)
    (x113 : K.lookup e113 = some (excClassObj nm113 q113 e113 N113 bs113 [.ref e100, .type "ValueError", .type "Exception", .type "BaseException", .type "object"] true sn113 sub113 ab113 col113 dd113 x0113 x1113 x2113 x3113 x5113 "ValueError.__new__"))
    (sa113 : PySem.W.findIn K (.ref e113) "__setattr__" = some (some (.builtin "object.__setattr__")))
    (xb113 : PySem.W.subIn K (.ref e113) (.type "BaseException") = some true)
    (ty113 : PySem.W.typeIn K (.ref e113) = some (.type "type"))
    (kp113 : PySem.W.keepIn K (.ref e113) = true)
    (in113 : PySem.W.findIn K (.ref e113) "__init__" = some (some (.ref i152)))
    (ga113 : PySem.W.findIn K (.ref e113) "__getattribute__" = some (some (.builtin "BaseException.__getattribute__")))
    (gg113 : PySem.W.findIn K (.ref e113) "__getattr__" = some none)
    (hd113 : PySem.W.hasDictIn K e113 = true)
    (jc113 : PySem.W.findIn K (.ref e113) "__class__" = some (some (.builtin "object.__class__")))
    (jm113 : PySem.W.mroIn K e113 (.type "object") = some true)
    (n0_113 : PySem.W.findIn K (.ref e113) "row" = some none)
    (x114 : K.lookup e114 = some (excClassObj nm114 q114 e114 N114 bs114 [.type "KeyError", .type "LookupError", .type "Exception", .type "BaseException", .type "object"] true sn114 sub114 ab114 col114 dd114 x0114 x1114 x2114 x3114 x5114 "LookupError.__new__"))
    (sa114 : PySem.W.findIn K (.ref e114) "__setattr__" = some (some (.builtin "object.__setattr__")))
    (xb114 : PySem.W.subIn K (.ref e114) (.type "BaseException") = some true)
    (ty114 : PySem.W.typeIn K (.ref e114) = some (.type "type"))
    (kp114 : PySem.W.keepIn K (.ref e114) = true)
    (in114 : PySem.W.findIn K (.ref e114) "__init__" = some (some (.ref i153)))
    (ga114 : PySem.W.findIn K (.ref e114) "__getattribute__" = some (some (.builtin "BaseException.__getattribute__")))
    (gg114 : PySem.W.findIn K (.ref e114) "__getattr__" = some none)
    (hd114 : PySem.W.hasDictIn K e114 = true)
    (jc114 : PySem.W.findIn K (.ref e114) "__class__" = some (some (.builtin "object.__class__")))
    (jm114 : PySem.W.mroIn K e114 (.type "object") = some true)
    (n0_114 : PySem.W.findIn K (.ref e114) "key" = some none)
    (x115 : K.lookup e115 = some (excClassObj nm115 q115 e115 N115 bs115 [.type "KeyError", .type "LookupError", .type "Exception", .type "BaseException", .type "object"] true sn115 sub115 ab115 col115 dd115 x0115 x1115 x2115 x3115 x5115 "LookupError.__new__"))
    (sa115 : PySem.W.findIn K (.ref e115) "__setattr__" = some (some (.builtin "object.__setattr__")))
    (xb115 : PySem.W.subIn K (.ref e115) (.type "BaseException") = some true)
    (ty115 : PySem.W.typeIn K (.ref e115) = some (.type "type"))
    (kp115 : PySem.W.keepIn K (.ref e115) = true)
    (in115 : PySem.W.findIn K (.ref e115) "__init__" = some (some (.ref i154)))
    (ga115 : PySem.W.findIn K (.ref e115) "__getattribute__" = some (some (.builtin "BaseException.__getattribute__")))
    (gg115 : PySem.W.findIn K (.ref e115) "__getattr__" = some none)
    (hd115 : PySem.W.hasDictIn K e115 = true)
    (jc115 : PySem.W.findIn K (.ref e115) "__class__" = some (some (.builtin "object.__class__")))
    (jm115 : PySem.W.mroIn K e115 (.type "object") = some true)
    (n0_115 : PySem.W.findIn K (.ref e115) "name" = some none)
    (x116 : K.lookup e116 = some (excClassObj nm116 q116 e116 N116 bs116 [.type "LookupError", .type "Exception", .type "BaseException", .type "object"] true sn116 sub116 ab116 col116 dd116 x0116 x1116 x2116 x3116 x5116 "LookupError.__new__"))
    (sa116 : PySem.W.findIn K (.ref e116) "__setattr__" = some (some (.builtin "object.__setattr__")))
    (xb116 : PySem.W.subIn K (.ref e116) (.type "BaseException") = some true)
    (ty116 : PySem.W.typeIn K (.ref e116) = some (.type "type"))
    (kp116 : PySem.W.keepIn K (.ref e116) = true)
    (in116 : PySem.W.findIn K (.ref e116) "__init__" = some (some (.ref i155)))
    (ga116 : PySem.W.findIn K (.ref e116) "__getattribute__" = some (some (.builtin "BaseException.__getattribute__")))
    (gg116 : PySem.W.findIn K (.ref e116) "__getattr__" = some none)
    (hd116 : PySem.W.hasDictIn K e116 = true)
    (jc116 : PySem.W.findIn K (.ref e116) "__class__" = some (some (.builtin "object.__class__")))
    (jm116 : PySem.W.mroIn K e116 (.type "object") = some true)
    (n0_116 : PySem.W.findIn K (.ref e116) "time" = some none)
    (x117 : K.lookup e117 = some (excClassObj nm117 q117 e117 N117 bs117 [.type "LookupError", .type "Exception", .type "BaseException", .type "object"] true sn117 sub117 ab117 col117 dd117 x0117 x1117 x2117 x3117 x5117 "LookupError.__new__"))
    (sa117 : PySem.W.findIn K (.ref e117) "__setattr__" = some (some (.builtin "object.__setattr__")))
    (xb117 : PySem.W.subIn K (.ref e117) (.type "BaseException") = some true)
    (ty117 : PySem.W.typeIn K (.ref e117) = some (.type "type"))
    (kp117 : PySem.W.keepIn K (.ref e117) = true)
    (in117 : PySem.W.findIn K (.ref e117) "__init__" = some (some (.ref i156)))
    (ga117 : PySem.W.findIn K (.ref e117) "__getattribute__" = some (some (.builtin "BaseException.__getattribute__")))
    (gg117 : PySem.W.findIn K (.ref e117) "__getattr__" = some none)
    (hd117 : PySem.W.hasDictIn K e117 = true)
    (jc117 : PySem.W.findIn K (.ref e117) "__class__" = some (some (.builtin "object.__class__")))
    (jm117 : PySem.W.mroIn K e117 (.type "object") = some true)
    (n0_117 : PySem.W.findIn K (.ref e117) "key" = some none)
    (n1_117 : PySem.W.findIn K (.ref e117) "house" = some none)
    (x118 : K.lookup e118 = some (excClassObj nm118 q118 e118 N118 bs118 [.type "IndexError", .type "LookupError", .type "Exception", .type "BaseException", .type "object"] true sn118 sub118 ab118 col118 dd118 x0118 x1118 x2118 x3118 x5118 "IndexError.__new__"))
    (sa118 : PySem.W.findIn K (.ref e118) "__setattr__" = some (some (.builtin "object.__setattr__")))
    (xb118 : PySem.W.subIn K (.ref e118) (.type "BaseException") = some true)
    (ty118 : PySem.W.typeIn K (.ref e118) = some (.type "type"))
    (kp118 : PySem.W.keepIn K (.ref e118) = true)
    (in118 : PySem.W.findIn K (.ref e118) "__init__" = some (some (.ref i157)))
    (ga118 : PySem.W.findIn K (.ref e118) "__getattribute__" = some (some (.builtin "BaseException.__getattribute__")))
    (gg118 : PySem.W.findIn K (.ref e118) "__getattr__" = some none)
    (hd118 : PySem.W.hasDictIn K e118 = true)
    (jc118 : PySem.W.findIn K (.ref e118) "__class__" = some (some (.builtin "object.__class__")))
    (jm118 : PySem.W.mroIn K e118 (.type "object") = some true)
    (n0_118 : PySem.W.findIn K (.ref e118) "copy" = some none)
    (x119 : K.lookup e119 = some (excClassObj nm119 q119 e119 N119 bs119 [.type "IndexError", .type "LookupError", .type "Exception", .type "BaseException", .type "object"] true sn119 sub119 ab119 col119 dd119 x0119 x1119 x2119 x3119 x5119 "IndexError.__new__"))
    (sa119 : PySem.W.findIn K (.ref e119) "__setattr__" = some (some (.builtin "object.__setattr__")))
    (xb119 : PySem.W.subIn K (.ref e119) (.type "BaseException") = some true)
    (ty119 : PySem.W.typeIn K (.ref e119) = some (.type "type"))
    (kp119 : PySem.W.keepIn K (.ref e119) = true)
    (in119 : PySem.W.findIn K (.ref e119) "__init__" = some (some (.ref i158)))
    (ga119 : PySem.W.findIn K (.ref e119) "__getattribute__" = some (some (.builtin "BaseException.__getattribute__")))
    (gg119 : PySem.W.findIn K (.ref e119) "__getattr__" = some none)
    (hd119 : PySem.W.hasDictIn K e119 = true)
    (jc119 : PySem.W.findIn K (.ref e119) "__class__" = some (some (.builtin "object.__class__")))
    (jm119 : PySem.W.mroIn K e119 (.type "object") = some true)
    (n0_119 : PySem.W.findIn K (.ref e119) "dealing" = some none)
    (x120 : K.lookup e120 = some (excClassObj nm120 q120 e120 N120 bs120 [.type "RuntimeError", .type "Exception", .type "BaseException", .type "object"] true sn120 sub120 ab120 col120 dd120 x0120 x1120 x2120 x3120 x5120 "RuntimeError.__new__"))
    (sa120 : PySem.W.findIn K (.ref e120) "__setattr__" = some (some (.builtin "object.__setattr__")))
    (xb120 : PySem.W.subIn K (.ref e120) (.type "BaseException") = some true)
    (ty120 : PySem.W.typeIn K (.ref e120) = some (.type "type"))
    (kp120 : PySem.W.keepIn K (.ref e120) = true)
    (in120 : PySem.W.findIn K (.ref e120) "__init__" = some (some (.ref i159)))
    (ga120 : PySem.W.findIn K (.ref e120) "__getattribute__" = some (some (.builtin "BaseException.__getattribute__")))
    (gg120 : PySem.W.findIn K (.ref e120) "__getattr__" = some none)
    (hd120 : PySem.W.hasDictIn K e120 = true)
    (jc120 : PySem.W.findIn K (.ref e120) "__class__" = some (some (.builtin "object.__class__")))
    (jm120 : PySem.W.mroIn K e120 (.type "object") = some true)
    (n0_120 : PySem.W.findIn K (.ref e120) "key" = some none)
    (x121 : K.lookup e121 = some (excClassObj nm121 q121 e121 N121 bs121 [.type "RuntimeError", .type "Exception", .type "BaseException", .type "object"] true sn121 sub121 ab121 col121 dd121 x0121 x1121 x2121 x3121 x5121 "RuntimeError.__new__"))
    (sa121 : PySem.W.findIn K (.ref e121) "__setattr__" = some (some (.builtin "object.__setattr__")))
    (xb121 : PySem.W.subIn K (.ref e121) (.type "BaseException") = some true)
    (ty121 : PySem.W.typeIn K (.ref e121) = some (.type "type"))
    (kp121 : PySem.W.keepIn K (.ref e121) = true)
    (in121 : PySem.W.findIn K (.ref e121) "__init__" = some (some (.ref i160)))
    (ga121 : PySem.W.findIn K (.ref e121) "__getattribute__" = some (some (.builtin "BaseException.__getattribute__")))
    (gg121 : PySem.W.findIn K (.ref e121) "__getattr__" = some none)
    (hd121 : PySem.W.hasDictIn K e121 = true)
    (jc121 : PySem.W.findIn K (.ref e121) "__class__" = some (some (.builtin "object.__class__")))
    (jm121 : PySem.W.mroIn K e121 (.type "object") = some true)
    (n0_121 : PySem.W.findIn K (.ref e121) "house" = some none)
    (x122 : K.lookup e122 = some (excClassObj nm122 q122 e122 N122 bs122 [.type "RuntimeError", .type "Exception", .type "BaseException", .type "object"] true sn122 sub122 ab122 col122 dd122 x0122 x1122 x2122 x3122 x5122 "RuntimeError.__new__"))
    (sa122 : PySem.W.findIn K (.ref e122) "__setattr__" = some (some (.builtin "object.__setattr__")))
    (xb122 : PySem.W.subIn K (.ref e122) (.type "BaseException") = some true)
    (ty122 : PySem.W.typeIn K (.ref e122) = some (.type "type"))
    (kp122 : PySem.W.keepIn K (.ref e122) = true)
    (in122 : PySem.W.findIn K (.ref e122) "__init__" = some (some (.ref i161)))
    (ga122 : PySem.W.findIn K (.ref e122) "__getattribute__" = some (some (.builtin "BaseException.__getattribute__")))
    (gg122 : PySem.W.findIn K (.ref e122) "__getattr__" = some none)
    (hd122 : PySem.W.hasDictIn K e122 = true)
    (jc122 : PySem.W.findIn K (.ref e122) "__class__" = some (some (.builtin "object.__class__")))
    (jm122 : PySem.W.mroIn K e122 (.type "object") = some true)
    (n0_122 : PySem.W.findIn K (.ref e122) "time" = some none)
    (x123 : K.lookup e123 = some (excClassObj nm123 q123 e123 N123 bs123 [.type "RuntimeError", .type "Exception", .type "BaseException", .type "object"] true sn123 sub123 ab123 col123 dd123 x0123 x1123 x2123 x3123 x5123 "RuntimeError.__new__"))
    (sa123 : PySem.W.findIn K (.ref e123) "__setattr__" = some (some (.builtin "object.__setattr__")))
    (xb123 : PySem.W.subIn K (.ref e123) (.type "BaseException") = some true)
    (ty123 : PySem.W.typeIn K (.ref e123) = some (.type "type"))
    (kp123 : PySem.W.keepIn K (.ref e123) = true)
    (in123 : PySem.W.findIn K (.ref e123) "__init__" = some (some (.ref i162)))
    (ga123 : PySem.W.findIn K (.ref e123) "__getattribute__" = some (some (.builtin "BaseException.__getattribute__")))
    (gg123 : PySem.W.findIn K (.ref e123) "__getattr__" = some none)
    (hd123 : PySem.W.hasDictIn K e123 = true)
    (jc123 : PySem.W.findIn K (.ref e123) "__class__" = some (some (.builtin "object.__class__")))
    (jm123 : PySem.W.mroIn K e123 (.type "object") = some true)
    (n0_123 : PySem.W.findIn K (.ref e123) "time" = some none)
    (x124 : K.lookup e124 = some (excClassObj nm124 q124 e124 N124 bs124 [.type "RuntimeError", .type "Exception", .type "BaseException", .type "object"] true sn124 sub124 ab124 col124 dd124 x0124 x1124 x2124 x3124 x5124 "RuntimeError.__new__"))
    (sa124 : PySem.W.findIn K (.ref e124) "__setattr__" = some (some (.builtin "object.__setattr__")))
    (xb124 : PySem.W.subIn K (.ref e124) (.type "BaseException") = some true)
    (ty124 : PySem.W.typeIn K (.ref e124) = some (.type "type"))
    (kp124 : PySem.W.keepIn K (.ref e124) = true)
    (in124 : PySem.W.findIn K (.ref e124) "__init__" = some (some (.ref i163)))
    (ga124 : PySem.W.findIn K (.ref e124) "__getattribute__" = some (some (.builtin "BaseException.__getattribute__")))
    (gg124 : PySem.W.findIn K (.ref e124) "__getattr__" = some none)
    (hd124 : PySem.W.hasDictIn K e124 = true)
    (jc124 : PySem.W.findIn K (.ref e124) "__class__" = some (some (.builtin "object.__class__")))
    (jm124 : PySem.W.mroIn K e124 (.type "object") = some true)
    (n0_124 : PySem.W.findIn K (.ref e124) "dealing" = some none)
    (x125 : K.lookup e125 = some (excClassObj nm125 q125 e125 N125 bs125 [.type "RuntimeError", .type "Exception", .type "BaseException", .type "object"] true sn125 sub125 ab125 col125 dd125 x0125 x1125 x2125 x3125 x5125 "RuntimeError.__new__"))
    (sa125 : PySem.W.findIn K (.ref e125) "__setattr__" = some (some (.builtin "object.__setattr__")))
    (xb125 : PySem.W.subIn K (.ref e125) (.type "BaseException") = some true)
    (ty125 : PySem.W.typeIn K (.ref e125) = some (.type "type"))
    (kp125 : PySem.W.keepIn K (.ref e125) = true)
    (in125 : PySem.W.findIn K (.ref e125) "__init__" = some (some (.ref i164)))
    (ga125 : PySem.W.findIn K (.ref e125) "__getattribute__" = some (some (.builtin "BaseException.__getattribute__")))
    (gg125 : PySem.W.findIn K (.ref e125) "__getattr__" = some none)
    (hd125 : PySem.W.hasDictIn K e125 = true)
    (jc125 : PySem.W.findIn K (.ref e125) "__class__" = some (some (.builtin "object.__class__")))
    (jm125 : PySem.W.mroIn K e125 (.type "object") = some true)
    (n0_125 : PySem.W.findIn K (.ref e125) "stamp" = some none)
    (x126 : K.lookup e126 = some (excClassObj nm126 q126 e126 N126 bs126 [.type "RuntimeError", .type "Exception", .type "BaseException", .type "object"] true sn126 sub126 ab126 col126 dd126 x0126 x1126 x2126 x3126 x5126 "RuntimeError.__new__"))
    (sa126 : PySem.W.findIn K (.ref e126) "__setattr__" = some (some (.builtin "object.__setattr__")))
    (xb126 : PySem.W.subIn K (.ref e126) (.type "BaseException") = some true)
    (ty126 : PySem.W.typeIn K (.ref e126) = some (.type "type"))
    (kp126 : PySem.W.keepIn K (.ref e126) = true)
    (in126 : PySem.W.findIn K (.ref e126) "__init__" = some (some (.ref i165)))
    (ga126 : PySem.W.findIn K (.ref e126) "__getattribute__" = some (some (.builtin "BaseException.__getattribute__")))
    (gg126 : PySem.W.findIn K (.ref e126) "__getattr__" = some none)
    (hd126 : PySem.W.hasDictIn K e126 = true)
    (jc126 : PySem.W.findIn K (.ref e126) "__class__" = some (some (.builtin "object.__class__")))
    (jm126 : PySem.W.mroIn K e126 (.type "object") = some true)
    (n0_126 : PySem.W.findIn K (.ref e126) "text" = some none)
    (x127 : K.lookup e127 = some (excClassObj nm127 q127 e127 N127 bs127 [.type "RuntimeError", .type "Exception", .type "BaseException", .type "object"] true sn127 sub127 ab127 col127 dd127 x0127 x1127 x2127 x3127 x5127 "RuntimeError.__new__"))
    (sa127 : PySem.W.findIn K (.ref e127) "__setattr__" = some (some (.builtin "object.__setattr__")))
    (xb127 : PySem.W.subIn K (.ref e127) (.type "BaseException") = some true)
    (ty127 : PySem.W.typeIn K (.ref e127) = some (.type "type"))
    (kp127 : PySem.W.keepIn K (.ref e127) = true)
    (in127 : PySem.W.findIn K (.ref e127) "__init__" = some (some (.ref i166)))
    (ga127 : PySem.W.findIn K (.ref e127) "__getattribute__" = some (some (.builtin "BaseException.__getattribute__")))
    (gg127 : PySem.W.findIn K (.ref e127) "__getattr__" = some none)
    (hd127 : PySem.W.hasDictIn K e127 = true)
    (jc127 : PySem.W.findIn K (.ref e127) "__class__" = some (some (.builtin "object.__class__")))
    (jm127 : PySem.W.mroIn K e127 (.type "object") = some true)
    (n0_127 : PySem.W.findIn K (.ref e127) "text" = some none)
    (ti150 : PySem.W.typeIn K (.ref i150) = some (.type "function"))
    (li150 : K.lookup i150 = some ⟨oc150, od150, .func (PySem.W.fnOf "__init__" "WaitError.__init__" (defArgs s_IWaitError) (defBody s_IWaitError) (defScope s_IWaitError) (.ref T150) kV150 dc150 pm150 an150 cd150 ct150), sl150⟩)
    (cc150 : PySem.W.codeIn K cd150 "WaitError.__init__" = true)
    (kk150 : PySem.W.keepIn K (.ref i150) = true)
    (lT150 : K.lookup T150 = some ⟨ocT150, odT150, .seq #[.str "" tkT150] nT150, slT150⟩)
    (ti151 : PySem.W.typeIn K (.ref i151) = some (.type "function"))
    (li151 : K.lookup i151 = some ⟨oc151, od151, .func (PySem.W.fnOf "__init__" "NoBounds.__init__" (defArgs s_INoBounds) (defBody s_INoBounds) (defScope s_INoBounds) .none kV151 dc151 pm151 an151 cd151 ct151), sl151⟩)
    (cc151 : PySem.W.codeIn K cd151 "NoBounds.__init__" = true)
    (kk151 : PySem.W.keepIn K (.ref i151) = true)
    (ti152 : PySem.W.typeIn K (.ref i152) = some (.type "function"))
    (li152 : K.lookup i152 = some ⟨oc152, od152, .func (PySem.W.fnOf "__init__" "NoText.__init__" (defArgs s_INoText) (defBody s_INoText) (defScope s_INoText) .none kV152 dc152 pm152 an152 cd152 ct152), sl152⟩)
    (cc152 : PySem.W.codeIn K cd152 "NoText.__init__" = true)
    (kk152 : PySem.W.keepIn K (.ref i152) = true)
    (ti153 : PySem.W.typeIn K (.ref i153) = some (.type "function"))
    (li153 : K.lookup i153 = some ⟨oc153, od153, .func (PySem.W.fnOf "__init__" "NoKey.__init__" (defArgs s_INoKey) (defBody s_INoKey) (defScope s_INoKey) .none kV153 dc153 pm153 an153 cd153 ct153), sl153⟩)
    (cc153 : PySem.W.codeIn K cd153 "NoKey.__init__" = true)
    (kk153 : PySem.W.keepIn K (.ref i153) = true)
    (ti154 : PySem.W.typeIn K (.ref i154) = some (.type "function"))
    (li154 : K.lookup i154 = some ⟨oc154, od154, .func (PySem.W.fnOf "__init__" "NoName.__init__" (defArgs s_INoName) (defBody s_INoName) (defScope s_INoName) .none kV154 dc154 pm154 an154 cd154 ct154), sl154⟩)
    (cc154 : PySem.W.codeIn K cd154 "NoName.__init__" = true)
    (kk154 : PySem.W.keepIn K (.ref i154) = true)
    (ti155 : PySem.W.typeIn K (.ref i155) = some (.type "function"))
    (li155 : K.lookup i155 = some ⟨oc155, od155, .func (PySem.W.fnOf "__init__" "Gone.__init__" (defArgs s_IGone) (defBody s_IGone) (defScope s_IGone) .none kV155 dc155 pm155 an155 cd155 ct155), sl155⟩)
    (cc155 : PySem.W.codeIn K cd155 "Gone.__init__" = true)
    (kk155 : PySem.W.keepIn K (.ref i155) = true)
    (ti156 : PySem.W.typeIn K (.ref i156) = some (.type "function"))
    (li156 : K.lookup i156 = some ⟨oc156, od156, .func (PySem.W.fnOf "__init__" "Elsewhere.__init__" (defArgs s_IElsewhere) (defBody s_IElsewhere) (defScope s_IElsewhere) .none kV156 dc156 pm156 an156 cd156 ct156), sl156⟩)
    (cc156 : PySem.W.codeIn K cd156 "Elsewhere.__init__" = true)
    (kk156 : PySem.W.keepIn K (.ref i156) = true)
    (ti157 : PySem.W.typeIn K (.ref i157) = some (.type "function"))
    (li157 : K.lookup i157 = some ⟨oc157, od157, .func (PySem.W.fnOf "__init__" "NoCopy.__init__" (defArgs s_INoCopy) (defBody s_INoCopy) (defScope s_INoCopy) .none kV157 dc157 pm157 an157 cd157 ct157), sl157⟩)
    (cc157 : PySem.W.codeIn K cd157 "NoCopy.__init__" = true)
    (kk157 : PySem.W.keepIn K (.ref i157) = true)
    (ti158 : PySem.W.typeIn K (.ref i158) = some (.type "function"))
    (li158 : K.lookup i158 = some ⟨oc158, od158, .func (PySem.W.fnOf "__init__" "NoDealing.__init__" (defArgs s_INoDealing) (defBody s_INoDealing) (defScope s_INoDealing) .none kV158 dc158 pm158 an158 cd158 ct158), sl158⟩)
    (cc158 : PySem.W.codeIn K cd158 "NoDealing.__init__" = true)
    (kk158 : PySem.W.keepIn K (.ref i158) = true)
    (ti159 : PySem.W.typeIn K (.ref i159) = some (.type "function"))
    (li159 : K.lookup i159 = some ⟨oc159, od159, .func (PySem.W.fnOf "__init__" "NoHold.__init__" (defArgs s_INoHold) (defBody s_INoHold) (defScope s_INoHold) .none kV159 dc159 pm159 an159 cd159 ct159), sl159⟩)
    (cc159 : PySem.W.codeIn K cd159 "NoHold.__init__" = true)
    (kk159 : PySem.W.keepIn K (.ref i159) = true)
    (ti160 : PySem.W.typeIn K (.ref i160) = some (.type "function"))
    (li160 : K.lookup i160 = some ⟨oc160, od160, .func (PySem.W.fnOf "__init__" "NoHead.__init__" (defArgs s_INoHead) (defBody s_INoHead) (defScope s_INoHead) .none kV160 dc160 pm160 an160 cd160 ct160), sl160⟩)
    (cc160 : PySem.W.codeIn K cd160 "NoHead.__init__" = true)
    (kk160 : PySem.W.keepIn K (.ref i160) = true)
    (ti161 : PySem.W.typeIn K (.ref i161) = some (.type "function"))
    (li161 : K.lookup i161 = some ⟨oc161, od161, .func (PySem.W.fnOf "__init__" "Waits.__init__" (defArgs s_IWaits) (defBody s_IWaits) (defScope s_IWaits) .none kV161 dc161 pm161 an161 cd161 ct161), sl161⟩)
    (cc161 : PySem.W.codeIn K cd161 "Waits.__init__" = true)
    (kk161 : PySem.W.keepIn K (.ref i161) = true)
    (ti162 : PySem.W.typeIn K (.ref i162) = some (.type "function"))
    (li162 : K.lookup i162 = some ⟨oc162, od162, .func (PySem.W.fnOf "__init__" "Early.__init__" (defArgs s_IEarly) (defBody s_IEarly) (defScope s_IEarly) .none kV162 dc162 pm162 an162 cd162 ct162), sl162⟩)
    (cc162 : PySem.W.codeIn K cd162 "Early.__init__" = true)
    (kk162 : PySem.W.keepIn K (.ref i162) = true)
    (ti163 : PySem.W.typeIn K (.ref i163) = some (.type "function"))
    (li163 : K.lookup i163 = some ⟨oc163, od163, .func (PySem.W.fnOf "__init__" "Off.__init__" (defArgs s_IOff) (defBody s_IOff) (defScope s_IOff) .none kV163 dc163 pm163 an163 cd163 ct163), sl163⟩)
    (cc163 : PySem.W.codeIn K cd163 "Off.__init__" = true)
    (kk163 : PySem.W.keepIn K (.ref i163) = true)
    (ti164 : PySem.W.typeIn K (.ref i164) = some (.type "function"))
    (li164 : K.lookup i164 = some ⟨oc164, od164, .func (PySem.W.fnOf "__init__" "Sure.__init__" (defArgs s_ISure) (defBody s_ISure) (defScope s_ISure) .none kV164 dc164 pm164 an164 cd164 ct164), sl164⟩)
    (cc164 : PySem.W.codeIn K cd164 "Sure.__init__" = true)
    (kk164 : PySem.W.keepIn K (.ref i164) = true)
    (ti165 : PySem.W.typeIn K (.ref i165) = some (.type "function"))
    (li165 : K.lookup i165 = some ⟨oc165, od165, .func (PySem.W.fnOf "__init__" "Unset.__init__" (defArgs s_IUnset) (defBody s_IUnset) (defScope s_IUnset) .none kV165 dc165 pm165 an165 cd165 ct165), sl165⟩)
    (cc165 : PySem.W.codeIn K cd165 "Unset.__init__" = true)
    (kk165 : PySem.W.keepIn K (.ref i165) = true)
    (ti166 : PySem.W.typeIn K (.ref i166) = some (.type "function"))
    (li166 : K.lookup i166 = some ⟨oc166, od166, .func (PySem.W.fnOf "__init__" "Bare.__init__" (defArgs s_IBare) (defBody s_IBare) (defScope s_IBare) .none kV166 dc166 pm166 an166 cd166 ct166), sl166⟩)
    (cc166 : PySem.W.codeIn K cd166 "Bare.__init__" = true)
    (kk166 : PySem.W.keepIn K (.ref i166) = true)
    (hxT : ((([.ref e101, .ref e102, .ref e103, .ref e104, .ref e105, .ref e106, .ref e107, .ref e108, .ref e109, .ref e110, .ref e111, .ref e112, .ref e113, .ref e114, .ref e115, .ref e116, .ref e117, .ref e118, .ref e119, .ref e120, .ref e121, .ref e122, .ref e123, .ref e124, .ref e125, .ref e126, .ref e127] : List Value)).zip (List.range 27)).all (fun p => PySem.W.exmAny K p.1 [.ref e100, .ref e114, .ref e115, .ref e116, .ref e117, .ref e118, .ref e119, .ref e120] == some (decide (p.2 < 20)) && PySem.W.exmAny K p.1 [.ref e121, .ref e122, .ref e123, .ref e124, .ref e125, .ref e126, .ref e127] == some (decide (20 ≤ p.2))) = true)
    (hkT : ((([.ref e101, .ref e102, .ref e103, .ref e104, .ref e105, .ref e106, .ref e107, .ref e108, .ref e109, .ref e110, .ref e111, .ref e112, .ref e113, .ref e114, .ref e115, .ref e116, .ref e117, .ref e118, .ref e119, .ref e120, .ref e121, .ref e122, .ref e123, .ref e124, .ref e125, .ref e126, .ref e127] : List Value)).zip (List.range 27)).all (fun p => ((([.ref e101, .ref e102, .ref e103, .ref e104, .ref e105, .ref e106, .ref e107, .ref e108, .ref e109, .ref e110, .ref e111, .ref e112, .ref e113, .ref e114, .ref e115, .ref e116, .ref e117, .ref e118, .ref e119, .ref e120, .ref e121, .ref e122, .ref e123, .ref e124, .ref e125, .ref e126, .ref e127, .ref e100, .type "ValueError", .type "KeyError", .type "IndexError", .type "LookupError", .type "RuntimeError"] : List Value)).zip (List.range 33)).all fun q => PySem.W.kitOne K p.1 q.1 == some (kiB p.2 q.2)) = true)
    : ∃ fd : FuncData, (∀ (s : Shared) (v : Value), BindsTo s fd ⟨[v], []⟩ [("_law_script", v)]) ∧ ∀ base : Heap, K.In base → base.Ns mainGlobals mg → FnG l.prog w K mg base 12 fa fd ["_law_script"] (spLaw K) := by
  have e := hfa.symm.trans (PySem.W.mg_of X G a9)
  cases e
  have F0 := fun_mk (st := s_l_begun) l0 c0 k0
  have b0 := F0.binds (ps := ["_law_script", "_law_k"]) fun _ _ _ _ _ _ us hl => match us, hl with | [_, _], _ => rfl
  have F1 := fun_mk (st := s_l_take) l1 c1 k1
  have b1 := F1.binds (ps := ["_law_state", "_law_many"]) fun _ _ _ _ _ _ us hl => match us, hl with | [_, _], _ => rfl
  have F2 := fun_mk (st := s_l_by_text) l2 c2 k2
  have b2 := F2.binds (ps := ["_law_number", "_law_one", "_law_two"]) fun _ _ _ _ _ _ us hl => match us, hl with | [_, _, _], _ => rfl
  have F3 := fun_mk (st := s_l_by_value) l3 c3 k3
  have b3 := F3.binds (ps := ["_law_number", "_law_one", "_law_two"]) fun _ _ _ _ _ _ us hl => match us, hl with | [_, _, _], _ => rfl
  have F4 := fun_mk (st := s_l_by_another) l4 c4 k4
  have b4 := F4.binds (ps := ["_law_number", "_law_one", "_law_two"]) fun _ _ _ _ _ _ us hl => match us, hl with | [_, _, _], _ => rfl
  have F5 := fun_mk (st := s_l_raised) l5 c5 k5
  have b5 := F5.binds (ps := ["_law_number", "_law_one", "_law_two"]) fun _ _ _ _ _ _ us hl => match us, hl with | [_, _, _], _ => rfl
  have F6 := fun_mk (st := s_l_own) l6 c6 k6
  have b6 := F6.binds (ps := ["_law_error"]) fun _ _ _ _ _ _ us hl => match us, hl with | [_], _ => rfl
  have F7 := fun_mk (st := s_l_fields) l7 c7 k7
  have b7 := F7.binds (ps := ["_law_errors"]) fun _ _ _ _ _ _ us hl => match us, hl with | [_], _ => rfl
  have F8 := fun_mk (st := s_l_apart) l8 c8 k8
  have b8 := F8.binds (ps := ["_law_number", "_law_caught"]) fun _ _ _ _ _ _ us hl => match us, hl with | [_, _], _ => rfl
  have F9 := fun_mk (st := s_law) l9 c9 k9
  have b9 := F9.binds (ps := ["_law_script"]) fun _ _ _ _ _ _ us hl => match us, hl with | [_], _ => rfl
  have FI150 : FunD K "__init__" "WaitError.__init__" (defArgs s_IWaitError) (defBody s_IWaitError) (defScope s_IWaitError) [V.str ""] [] i150 (PySem.W.fnOf "__init__" "WaitError.__init__" (defArgs s_IWaitError) (defBody s_IWaitError) (defScope s_IWaitError) (.ref T150) kV150 dc150 pm150 an150 cd150 ct150) := ⟨⟨_, _, _, _, _, _, _, _, _, _, rfl, li150, cc150, .inr ⟨by simp, _, _, [Value.str "" tkT150], _, rfl, lT150, rfl, (.cons ⟨_, rfl⟩ .nil)⟩, .inl rfl⟩, kk150⟩
  have bI150 : Binds K (PySem.W.fnOf "__init__" "WaitError.__init__" (defArgs s_IWaitError) (defBody s_IWaitError) (defScope s_IWaitError) (.ref T150) kV150 dc150 pm150 an150 cd150 ct150) ["self", "text"] [] := by
    obtain ⟨ds, v, b⟩ := FI150.binds1 (ps := ["self", "text"]) 2 1 (by simp) rfl (fun T kV dc pm an cdv ct us its hu hi => match us, hu, its, hi with | [_, _], _, [_], _ => ⟨_, rfl, rfl⟩)
    cases v
    exact b
  have FI151 := fun_mk (st := s_INoBounds) li151 cc151 kk151
  have bI151 := FI151.binds (ps := ["self", "low", "high"]) fun _ _ _ _ _ _ us hl => match us, hl with | [_, _, _], _ => rfl
  have FI152 := fun_mk (st := s_INoText) li152 cc152 kk152
  have bI152 := FI152.binds (ps := ["self", "row"]) fun _ _ _ _ _ _ us hl => match us, hl with | [_, _], _ => rfl
  have FI153 := fun_mk (st := s_INoKey) li153 cc153 kk153
  have bI153 := FI153.binds (ps := ["self", "key"]) fun _ _ _ _ _ _ us hl => match us, hl with | [_, _], _ => rfl
  have FI154 := fun_mk (st := s_INoName) li154 cc154 kk154
  have bI154 := FI154.binds (ps := ["self", "name"]) fun _ _ _ _ _ _ us hl => match us, hl with | [_, _], _ => rfl
  have FI155 := fun_mk (st := s_IGone) li155 cc155 kk155
  have bI155 := FI155.binds (ps := ["self", "time"]) fun _ _ _ _ _ _ us hl => match us, hl with | [_, _], _ => rfl
  have FI156 := fun_mk (st := s_IElsewhere) li156 cc156 kk156
  have bI156 := FI156.binds (ps := ["self", "key", "house"]) fun _ _ _ _ _ _ us hl => match us, hl with | [_, _, _], _ => rfl
  have FI157 := fun_mk (st := s_INoCopy) li157 cc157 kk157
  have bI157 := FI157.binds (ps := ["self", "copy"]) fun _ _ _ _ _ _ us hl => match us, hl with | [_, _], _ => rfl
  have FI158 := fun_mk (st := s_INoDealing) li158 cc158 kk158
  have bI158 := FI158.binds (ps := ["self", "dealing"]) fun _ _ _ _ _ _ us hl => match us, hl with | [_, _], _ => rfl
  have FI159 := fun_mk (st := s_INoHold) li159 cc159 kk159
  have bI159 := FI159.binds (ps := ["self", "key"]) fun _ _ _ _ _ _ us hl => match us, hl with | [_, _], _ => rfl
  have FI160 := fun_mk (st := s_INoHead) li160 cc160 kk160
  have bI160 := FI160.binds (ps := ["self", "house"]) fun _ _ _ _ _ _ us hl => match us, hl with | [_, _], _ => rfl
  have FI161 := fun_mk (st := s_IWaits) li161 cc161 kk161
  have bI161 := FI161.binds (ps := ["self", "time"]) fun _ _ _ _ _ _ us hl => match us, hl with | [_, _], _ => rfl
  have FI162 := fun_mk (st := s_IEarly) li162 cc162 kk162
  have bI162 := FI162.binds (ps := ["self", "time"]) fun _ _ _ _ _ _ us hl => match us, hl with | [_, _], _ => rfl
  have FI163 := fun_mk (st := s_IOff) li163 cc163 kk163
  have bI163 := FI163.binds (ps := ["self", "dealing"]) fun _ _ _ _ _ _ us hl => match us, hl with | [_, _], _ => rfl
  have FI164 := fun_mk (st := s_ISure) li164 cc164 kk164
  have bI164 := FI164.binds (ps := ["self", "stamp"]) fun _ _ _ _ _ _ us hl => match us, hl with | [_, _], _ => rfl
  have FI165 := fun_mk (st := s_IUnset) li165 cc165 kk165
  have bI165 := FI165.binds (ps := ["self", "text"]) fun _ _ _ _ _ _ us hl => match us, hl with | [_, _], _ => rfl
  have FI166 := fun_mk (st := s_IBare) li166 cc166 kk166
  have bI166 := FI166.binds (ps := ["self", "text"]) fun _ _ _ _ _ _ us hl => match us, hl with | [_, _], _ => rfl
  let a : Nat → Addr := fun i => match i with | 0 => f0 | 1 => f1 | 2 => f2 | 3 => f3 | 4 => f4 | 5 => f5 | 6 => f6 | 7 => f7 | 8 => f8 | 9 => fa | 100 => e100 | 101 => e101 | 102 => e102 | 103 => e103 | 104 => e104 | 105 => e105 | 106 => e106 | 107 => e107 | 108 => e108 | 109 => e109 | 110 => e110 | 111 => e111 | 112 => e112 | 113 => e113 | 114 => e114 | 115 => e115 | 116 => e116 | 117 => e117 | 118 => e118 | 119 => e119 | 120 => e120 | 121 => e121 | 122 => e122 | 123 => e123 | 124 => e124 | 125 => e125 | 126 => e126 | 127 => e127 | 150 => i150 | 151 => i151 | 152 => i152 | 153 => i153 | 154 => i154 | 155 => i155 | 156 => i156 | 157 => i157 | 158 => i158 | 159 => i159 | 160 => i160 | 161 => i161 | 162 => i162 | 163 => i163 | 164 => i164 | 165 => i165 | 166 => i166 | _ => 0
  let d : Nat → FuncData := fun i => match i with | 0 => (PySem.W.fnOf "_law_begun" "_law_begun" (defArgs s_l_begun) (defBody s_l_begun) (defScope s_l_begun) .none kV0 dc0 pm0 an0 cd0 ct0) | 1 => (PySem.W.fnOf "_law_take" "_law_take" (defArgs s_l_take) (defBody s_l_take) (defScope s_l_take) .none kV1 dc1 pm1 an1 cd1 ct1) | 2 => (PySem.W.fnOf "_law_by_text" "_law_by_text" (defArgs s_l_by_text) (defBody s_l_by_text) (defScope s_l_by_text) .none kV2 dc2 pm2 an2 cd2 ct2) | 3 => (PySem.W.fnOf "_law_by_value" "_law_by_value" (defArgs s_l_by_value) (defBody s_l_by_value) (defScope s_l_by_value) .none kV3 dc3 pm3 an3 cd3 ct3) | 4 => (PySem.W.fnOf "_law_by_another" "_law_by_another" (defArgs s_l_by_another) (defBody s_l_by_another) (defScope s_l_by_another) .none kV4 dc4 pm4 an4 cd4 ct4) | 5 => (PySem.W.fnOf "_law_raised" "_law_raised" (defArgs s_l_raised) (defBody s_l_raised) (defScope s_l_raised) .none kV5 dc5 pm5 an5 cd5 ct5) | 6 => (PySem.W.fnOf "_law_own" "_law_own" (defArgs s_l_own) (defBody s_l_own) (defScope s_l_own) .none kV6 dc6 pm6 an6 cd6 ct6) | 7 => (PySem.W.fnOf "_law_fields" "_law_fields" (defArgs s_l_fields) (defBody s_l_fields) (defScope s_l_fields) .none kV7 dc7 pm7 an7 cd7 ct7) | 8 => (PySem.W.fnOf "_law_apart" "_law_apart" (defArgs s_l_apart) (defBody s_l_apart) (defScope s_l_apart) .none kV8 dc8 pm8 an8 cd8 ct8) | 9 => (PySem.W.fnOf "law" "law" (defArgs s_law) (defBody s_law) (defScope s_law) .none kV9 dc9 pm9 an9 cd9 ct9) | 150 => (PySem.W.fnOf "__init__" "WaitError.__init__" (defArgs s_IWaitError) (defBody s_IWaitError) (defScope s_IWaitError) (.ref T150) kV150 dc150 pm150 an150 cd150 ct150) | 151 => (PySem.W.fnOf "__init__" "NoBounds.__init__" (defArgs s_INoBounds) (defBody s_INoBounds) (defScope s_INoBounds) .none kV151 dc151 pm151 an151 cd151 ct151) | 152 => (PySem.W.fnOf "__init__" "NoText.__init__" (defArgs s_INoText) (defBody s_INoText) (defScope s_INoText) .none kV152 dc152 pm152 an152 cd152 ct152) | 153 => (PySem.W.fnOf "__init__" "NoKey.__init__" (defArgs s_INoKey) (defBody s_INoKey) (defScope s_INoKey) .none kV153 dc153 pm153 an153 cd153 ct153) | 154 => (PySem.W.fnOf "__init__" "NoName.__init__" (defArgs s_INoName) (defBody s_INoName) (defScope s_INoName) .none kV154 dc154 pm154 an154 cd154 ct154) | 155 => (PySem.W.fnOf "__init__" "Gone.__init__" (defArgs s_IGone) (defBody s_IGone) (defScope s_IGone) .none kV155 dc155 pm155 an155 cd155 ct155) | 156 => (PySem.W.fnOf "__init__" "Elsewhere.__init__" (defArgs s_IElsewhere) (defBody s_IElsewhere) (defScope s_IElsewhere) .none kV156 dc156 pm156 an156 cd156 ct156) | 157 => (PySem.W.fnOf "__init__" "NoCopy.__init__" (defArgs s_INoCopy) (defBody s_INoCopy) (defScope s_INoCopy) .none kV157 dc157 pm157 an157 cd157 ct157) | 158 => (PySem.W.fnOf "__init__" "NoDealing.__init__" (defArgs s_INoDealing) (defBody s_INoDealing) (defScope s_INoDealing) .none kV158 dc158 pm158 an158 cd158 ct158) | 159 => (PySem.W.fnOf "__init__" "NoHold.__init__" (defArgs s_INoHold) (defBody s_INoHold) (defScope s_INoHold) .none kV159 dc159 pm159 an159 cd159 ct159) | 160 => (PySem.W.fnOf "__init__" "NoHead.__init__" (defArgs s_INoHead) (defBody s_INoHead) (defScope s_INoHead) .none kV160 dc160 pm160 an160 cd160 ct160) | 161 => (PySem.W.fnOf "__init__" "Waits.__init__" (defArgs s_IWaits) (defBody s_IWaits) (defScope s_IWaits) .none kV161 dc161 pm161 an161 cd161 ct161) | 162 => (PySem.W.fnOf "__init__" "Early.__init__" (defArgs s_IEarly) (defBody s_IEarly) (defScope s_IEarly) .none kV162 dc162 pm162 an162 cd162 ct162) | 163 => (PySem.W.fnOf "__init__" "Off.__init__" (defArgs s_IOff) (defBody s_IOff) (defScope s_IOff) .none kV163 dc163 pm163 an163 cd163 ct163) | 164 => (PySem.W.fnOf "__init__" "Sure.__init__" (defArgs s_ISure) (defBody s_ISure) (defScope s_ISure) .none kV164 dc164 pm164 an164 cd164 ct164) | 165 => (PySem.W.fnOf "__init__" "Unset.__init__" (defArgs s_IUnset) (defBody s_IUnset) (defScope s_IUnset) .none kV165 dc165 pm165 an165 cd165 ct165) | 166 => (PySem.W.fnOf "__init__" "Bare.__init__" (defArgs s_IBare) (defBody s_IBare) (defScope s_IBare) .none kV166 dc166 pm166 an166 cd166 ct166) | _ => (PySem.W.fnOf "law" "law" (defArgs s_law) (defBody s_law) (defScope s_law) .none kV9 dc9 pm9 an9 cd9 ct9)
  have T : Txt K mg a d := ⟨PySem.W.mg_of X G a0, F0, b0, PySem.W.mg_of X G a1, F1, b1, PySem.W.mg_of X G a2, F2, b2, PySem.W.mg_of X G a3, F3, b3, PySem.W.mg_of X G a4, F4, b4, PySem.W.mg_of X G a5, F5, b5, PySem.W.mg_of X G a6, F6, b6, PySem.W.mg_of X G a7, F7, b7, PySem.W.mg_of X G a8, F8, b8, PySem.W.mg_of X G a9, F9, b9, PySem.W.mg_none_of X G z_max, PySem.W.mg_none_of X G z_min, PySem.W.mg_none_of X G z_len, PySem.W.mg_none_of X G z_int, PySem.W.mg_none_of X G z_range, PySem.W.mg_none_of X G z_isinstance, PySem.W.mg_none_of X G z_repr, PySem.W.mg_none_of X G z_enumerate, PySem.W.mg_none_of X G z_ValueError, PySem.W.mg_none_of X G z_KeyError, PySem.W.mg_none_of X G z_IndexError, PySem.W.mg_none_of X G z_LookupError, PySem.W.mg_none_of X G z_RuntimeError, (PySem.W.mg_of X G aE100), (PySem.W.mg_of X G aE101), (PySem.W.mg_of X G aE102), (PySem.W.mg_of X G aE103), (PySem.W.mg_of X G aE104), (PySem.W.mg_of X G aE105), (PySem.W.mg_of X G aE106), (PySem.W.mg_of X G aE107), (PySem.W.mg_of X G aE108), (PySem.W.mg_of X G aE109), (PySem.W.mg_of X G aE110), (PySem.W.mg_of X G aE111), (PySem.W.mg_of X G aE112), (PySem.W.mg_of X G aE113), (PySem.W.mg_of X G aE114), (PySem.W.mg_of X G aE115), (PySem.W.mg_of X G aE116), (PySem.W.mg_of X G aE117), (PySem.W.mg_of X G aE118), (PySem.W.mg_of X G aE119), (PySem.W.mg_of X G aE120), (PySem.W.mg_of X G aE121), (PySem.W.mg_of X G aE122), (PySem.W.mg_of X G aE123), (PySem.W.mg_of X G aE124), (PySem.W.mg_of X G aE125), (PySem.W.mg_of X G aE126), (PySem.W.mg_of X G aE127), (⟨(XB.Facts.under XB.valueError), ⟨nm101, q101, N101, bs101, sn101, sub101, ab101, col101, dd101, x0101, x1101, x2101, x3101, x5101, x101⟩, sa101, xb101, ty101, kp101⟩), (in101), (n0_101), (⟨ga101, gg101, xb101, hd101⟩), (⟨ga101, gg101, xb101, hd101, jc101, j2, j3, jm101⟩), (⟨(XB.Facts.under XB.valueError), ⟨nm102, q102, N102, bs102, sn102, sub102, ab102, col102, dd102, x0102, x1102, x2102, x3102, x5102, x102⟩, sa102, xb102, ty102, kp102⟩), (in102), (n0_102), (⟨ga102, gg102, xb102, hd102⟩), (⟨ga102, gg102, xb102, hd102, jc102, j2, j3, jm102⟩), (⟨(XB.Facts.under XB.valueError), ⟨nm103, q103, N103, bs103, sn103, sub103, ab103, col103, dd103, x0103, x1103, x2103, x3103, x5103, x103⟩, sa103, xb103, ty103, kp103⟩), (in103), (n0_103), (⟨ga103, gg103, xb103, hd103⟩), (⟨ga103, gg103, xb103, hd103, jc103, j2, j3, jm103⟩), (⟨(XB.Facts.under XB.valueError), ⟨nm104, q104, N104, bs104, sn104, sub104, ab104, col104, dd104, x0104, x1104, x2104, x3104, x5104, x104⟩, sa104, xb104, ty104, kp104⟩), (in104), (n0_104), (⟨ga104, gg104, xb104, hd104⟩), (⟨ga104, gg104, xb104, hd104, jc104, j2, j3, jm104⟩), (⟨(XB.Facts.under XB.valueError), ⟨nm105, q105, N105, bs105, sn105, sub105, ab105, col105, dd105, x0105, x1105, x2105, x3105, x5105, x105⟩, sa105, xb105, ty105, kp105⟩), (in105), (n0_105), (⟨ga105, gg105, xb105, hd105⟩), (⟨ga105, gg105, xb105, hd105, jc105, j2, j3, jm105⟩), (⟨(XB.Facts.under XB.valueError), ⟨nm106, q106, N106, bs106, sn106, sub106, ab106, col106, dd106, x0106, x1106, x2106, x3106, x5106, x106⟩, sa106, xb106, ty106, kp106⟩), (in106), (n0_106), (⟨ga106, gg106, xb106, hd106⟩), (⟨ga106, gg106, xb106, hd106, jc106, j2, j3, jm106⟩), (⟨(XB.Facts.under XB.valueError), ⟨nm107, q107, N107, bs107, sn107, sub107, ab107, col107, dd107, x0107, x1107, x2107, x3107, x5107, x107⟩, sa107, xb107, ty107, kp107⟩), (in107), (n0_107), (⟨ga107, gg107, xb107, hd107⟩), (⟨ga107, gg107, xb107, hd107, jc107, j2, j3, jm107⟩), (⟨(XB.Facts.under XB.valueError), ⟨nm108, q108, N108, bs108, sn108, sub108, ab108, col108, dd108, x0108, x1108, x2108, x3108, x5108, x108⟩, sa108, xb108, ty108, kp108⟩), (in108), (n0_108), (⟨ga108, gg108, xb108, hd108⟩), (⟨ga108, gg108, xb108, hd108, jc108, j2, j3, jm108⟩), (⟨(XB.Facts.under XB.valueError), ⟨nm109, q109, N109, bs109, sn109, sub109, ab109, col109, dd109, x0109, x1109, x2109, x3109, x5109, x109⟩, sa109, xb109, ty109, kp109⟩), (in109), (n0_109), (⟨ga109, gg109, xb109, hd109⟩), (⟨ga109, gg109, xb109, hd109, jc109, j2, j3, jm109⟩), (⟨(XB.Facts.under XB.valueError), ⟨nm110, q110, N110, bs110, sn110, sub110, ab110, col110, dd110, x0110, x1110, x2110, x3110, x5110, x110⟩, sa110, xb110, ty110, kp110⟩), (in110), (n0_110), (⟨ga110, gg110, xb110, hd110⟩), (⟨ga110, gg110, xb110, hd110, jc110, j2, j3, jm110⟩), (⟨(XB.Facts.under XB.valueError), ⟨nm111, q111, N111, bs111, sn111, sub111, ab111, col111, dd111, x0111, x1111, x2111, x3111, x5111, x111⟩, sa111, xb111, ty111, kp111⟩), (in111), (n0_111), (⟨ga111, gg111, xb111, hd111⟩), (⟨ga111, gg111, xb111, hd111, jc111, j2, j3, jm111⟩), (⟨(XB.Facts.under XB.valueError), ⟨nm112, q112, N112, bs112, sn112, sub112, ab112, col112, dd112, x0112, x1112, x2112, x3112, x5112, x112⟩, sa112, xb112, ty112, kp112⟩), (in112), (n0_112), (n1_112), (⟨ga112, gg112, xb112, hd112⟩), (⟨ga112, gg112, xb112, hd112, jc112, j2, j3, jm112⟩), (⟨(XB.Facts.under XB.valueError), ⟨nm113, q113, N113, bs113, sn113, sub113, ab113, col113, dd113, x0113, x1113, x2113, x3113, x5113, x113⟩, sa113, xb113, ty113, kp113⟩), (in113), (n0_113), (⟨ga113, gg113, xb113, hd113⟩), (⟨ga113, gg113, xb113, hd113, jc113, j2, j3, jm113⟩), (⟨XB.keyError, ⟨nm114, q114, N114, bs114, sn114, sub114, ab114, col114, dd114, x0114, x1114, x2114, x3114, x5114, x114⟩, sa114, xb114, ty114, kp114⟩), (in114), (n0_114), (⟨ga114, gg114, xb114, hd114⟩), (⟨ga114, gg114, xb114, hd114, jc114, j2, j3, jm114⟩), (⟨XB.keyError, ⟨nm115, q115, N115, bs115, sn115, sub115, ab115, col115, dd115, x0115, x1115, x2115, x3115, x5115, x115⟩, sa115, xb115, ty115, kp115⟩), (in115), (n0_115), (⟨ga115, gg115, xb115, hd115⟩), (⟨ga115, gg115, xb115, hd115, jc115, j2, j3, jm115⟩), (⟨XB.lookupError, ⟨nm116, q116, N116, bs116, sn116, sub116, ab116, col116, dd116, x0116, x1116, x2116, x3116, x5116, x116⟩, sa116, xb116, ty116, kp116⟩), (in116), (n0_116), (⟨ga116, gg116, xb116, hd116⟩), (⟨ga116, gg116, xb116, hd116, jc116, j2, j3, jm116⟩), (⟨XB.lookupError, ⟨nm117, q117, N117, bs117, sn117, sub117, ab117, col117, dd117, x0117, x1117, x2117, x3117, x5117, x117⟩, sa117, xb117, ty117, kp117⟩), (in117), (n0_117), (n1_117), (⟨ga117, gg117, xb117, hd117⟩), (⟨ga117, gg117, xb117, hd117, jc117, j2, j3, jm117⟩), (⟨XB.indexError, ⟨nm118, q118, N118, bs118, sn118, sub118, ab118, col118, dd118, x0118, x1118, x2118, x3118, x5118, x118⟩, sa118, xb118, ty118, kp118⟩), (in118), (n0_118), (⟨ga118, gg118, xb118, hd118⟩), (⟨ga118, gg118, xb118, hd118, jc118, j2, j3, jm118⟩), (⟨XB.indexError, ⟨nm119, q119, N119, bs119, sn119, sub119, ab119, col119, dd119, x0119, x1119, x2119, x3119, x5119, x119⟩, sa119, xb119, ty119, kp119⟩), (in119), (n0_119), (⟨ga119, gg119, xb119, hd119⟩), (⟨ga119, gg119, xb119, hd119, jc119, j2, j3, jm119⟩), (⟨XB.runtimeError, ⟨nm120, q120, N120, bs120, sn120, sub120, ab120, col120, dd120, x0120, x1120, x2120, x3120, x5120, x120⟩, sa120, xb120, ty120, kp120⟩), (in120), (n0_120), (⟨ga120, gg120, xb120, hd120⟩), (⟨ga120, gg120, xb120, hd120, jc120, j2, j3, jm120⟩), (⟨XB.runtimeError, ⟨nm121, q121, N121, bs121, sn121, sub121, ab121, col121, dd121, x0121, x1121, x2121, x3121, x5121, x121⟩, sa121, xb121, ty121, kp121⟩), (in121), (n0_121), (⟨ga121, gg121, xb121, hd121⟩), (⟨ga121, gg121, xb121, hd121, jc121, j2, j3, jm121⟩), (⟨XB.runtimeError, ⟨nm122, q122, N122, bs122, sn122, sub122, ab122, col122, dd122, x0122, x1122, x2122, x3122, x5122, x122⟩, sa122, xb122, ty122, kp122⟩), (in122), (n0_122), (⟨ga122, gg122, xb122, hd122⟩), (⟨ga122, gg122, xb122, hd122, jc122, j2, j3, jm122⟩), (⟨XB.runtimeError, ⟨nm123, q123, N123, bs123, sn123, sub123, ab123, col123, dd123, x0123, x1123, x2123, x3123, x5123, x123⟩, sa123, xb123, ty123, kp123⟩), (in123), (n0_123), (⟨ga123, gg123, xb123, hd123⟩), (⟨ga123, gg123, xb123, hd123, jc123, j2, j3, jm123⟩), (⟨XB.runtimeError, ⟨nm124, q124, N124, bs124, sn124, sub124, ab124, col124, dd124, x0124, x1124, x2124, x3124, x5124, x124⟩, sa124, xb124, ty124, kp124⟩), (in124), (n0_124), (⟨ga124, gg124, xb124, hd124⟩), (⟨ga124, gg124, xb124, hd124, jc124, j2, j3, jm124⟩), (⟨XB.runtimeError, ⟨nm125, q125, N125, bs125, sn125, sub125, ab125, col125, dd125, x0125, x1125, x2125, x3125, x5125, x125⟩, sa125, xb125, ty125, kp125⟩), (in125), (n0_125), (⟨ga125, gg125, xb125, hd125⟩), (⟨ga125, gg125, xb125, hd125, jc125, j2, j3, jm125⟩), (⟨XB.runtimeError, ⟨nm126, q126, N126, bs126, sn126, sub126, ab126, col126, dd126, x0126, x1126, x2126, x3126, x5126, x126⟩, sa126, xb126, ty126, kp126⟩), (in126), (n0_126), (⟨ga126, gg126, xb126, hd126⟩), (⟨ga126, gg126, xb126, hd126, jc126, j2, j3, jm126⟩), (⟨XB.runtimeError, ⟨nm127, q127, N127, bs127, sn127, sub127, ab127, col127, dd127, x0127, x1127, x2127, x3127, x5127, x127⟩, sa127, xb127, ty127, kp127⟩), (in127), (n0_127), (⟨ga127, gg127, xb127, hd127⟩), (⟨ga127, gg127, xb127, hd127, jc127, j2, j3, jm127⟩), (ti150), (FI150), (bI150), (ti151), (FI151), (bI151), (ti152), (FI152), (bI152), (ti153), (FI153), (bI153), (ti154), (FI154), (bI154), (ti155), (FI155), (bI155), (ti156), (FI156), (bI156), (ti157), (FI157), (bI157), (ti158), (FI158), (bI158), (ti159), (FI159), (bI159), (ti160), (FI160), (bI160), (ti161), (FI161), (bI161), (ti162), (FI162), (bI162), (ti163), (FI163), (bI163), (ti164), (FI164), (bI164), (ti165), (FI165), (bI165), (ti166), (FI166), (bI166), hxT, hkT⟩
  exact ⟨(PySem.W.fnOf "law" "law" (defArgs s_law) (defBody s_law) (defScope s_law) .none kV9 dc9 pm9 an9 cd9 ct9), fun s v => .of_eq rfl, fun base _ _ => ok_law T⟩
theorem walk {l : PySem.W.OpenLaw} {q : Program} {loose : List Str} {XP : (Str → Option Value) → Heap → Prop} {YP : World → Heap → Prop} {d : DefRec} {K : Params → PySem.W.Frag} (hn : l.most = some 63) (hdf : d.params.defaults = [])
    (hY : ∀ (w : World) (h : Heap), YP w h → (K w.params).In h)
    (F : ∀ (w : World) (mg : Str → Option Value) (fa : Addr) (h : Heap), (K w.params).In h → h.Ns mainGlobals mg → mg d.name = some (.ref fa) →
      ∃ fd : FuncData, (∀ (s : Shared) (u : Value), BindsTo s fd ⟨[u], []⟩ [("_law_script", u)]) ∧ ∀ base : Heap, (K w.params).In base → base.Ns mainGlobals mg → FnG l.prog w (K w.params) mg base 12 fa fd ["_law_script"] (spLaw (K w.params))) :
    PySem.W.WalkO q loose XP YP l.row.toRowW d [] (fun f vs => PySem.call f vs) :=
  walkG (n := 63) (k := 12) (x := "_law_script") (sp := fun w => (spLaw (K w.params))) hn (by decide) hdf ⟨rfl, by decide, by decide⟩ hY F (fun _ _ a ns hl _ _ hS => ⟨a, ns, rfl, hS, hl, fun _ => rfl⟩)
end M

open PySem PySem.W PyProof.Rows in
set_option maxRecDepth 100000 in
set_option maxHeartbeats 0 in
theorem PySem.Challenge.cw_stampedwait_k03_refusals_apart_holds : PySem.Challenge.rw_stampedwait_k03_refusals_apart.Holds := by
  w_on; o_law; k_head; (case hw => w_witness2)
  k_fill
  refine M.walk (l := PySem.Challenge.rw_stampedwait_k03_refusals_apart) rfl rfl (fun w h Y => PySem.W.kIn_of Y) ?F
  case F =>
    intro w mg fa h KX G hmg
    refine' M.all_mk KX G hmg ?a0 ?l0 ?c0 ?k0 ?a1 ?l1 ?c1 ?k1 ?a2 ?l2 ?c2 ?k2 ?a3 ?l3 ?c3 ?k3 ?a4 ?l4 ?c4 ?k4 ?a5 ?l5 ?c5 ?k5 ?a6 ?l6 ?c6 ?k6 ?a7 ?l7 ?c7 ?k7 ?a8 ?l8 ?c8 ?k8 ?a9 ?l9 ?c9 ?k9 ?z_max ?z_min ?z_len ?z_int ?z_range ?z_isinstance ?z_repr ?z_enumerate ?z_ValueError ?z_KeyError ?z_IndexError ?z_LookupError ?z_RuntimeError ?aE100 ?aE101 ?aE102 ?aE103 ?aE104 ?aE105 ?aE106 ?aE107 ?aE108 ?aE109 ?aE110 ?aE111 ?aE112 ?aE113 ?aE114 ?aE115 ?aE116 ?aE117 ?aE118 ?aE119 ?aE120 ?aE121 ?aE122 ?aE123 ?aE124 ?aE125 ?aE126 ?aE127 ?j2 ?j3 ?x101 ?sa101 ?xb101 ?ty101 ?kp101 ?in101 ?ga101 ?gg101 ?hd101 ?jc101 ?jm101 ?n0_101 ?x102 ?sa102 ?xb102 ?ty102 ?kp102 ?in102 ?ga102 ?gg102 ?hd102 ?jc102 ?jm102 ?n0_102 ?x103 ?sa103 ?xb103 ?ty103 ?kp103 ?in103 ?ga103 ?gg103 ?hd103 ?jc103 ?jm103 ?n0_103 ?x104 ?sa104 ?xb104 ?ty104 ?kp104 ?in104 ?ga104 ?gg104 ?hd104 ?jc104 ?jm104 ?n0_104 ?x105 ?sa105 ?xb105 ?ty105 ?kp105 ?in105 ?ga105 ?gg105 ?hd105 ?jc105 ?jm105 ?n0_105 ?x106 ?sa106 ?xb106 ?ty106 ?kp106 ?in106 ?ga106 ?gg106 ?hd106 ?jc106 ?jm106 ?n0_106 ?x107 ?sa107 ?xb107 ?ty107 ?kp107 ?in107 ?ga107 ?gg107 ?hd107 ?jc107 ?jm107 ?n0_107 ?x108 ?sa108 ?xb108 ?ty108 ?kp108 ?in108 ?ga108 ?gg108 ?hd108 ?jc108 ?jm108 ?n0_108 ?x109 ?sa109 ?xb109 ?ty109 ?kp109 ?in109 ?ga109 ?gg109 ?hd109 ?jc109 ?jm109 ?n0_109 ?x110 ?sa110 ?xb110 ?ty110 ?kp110 ?in110 ?ga110 ?gg110 ?hd110 ?jc110 ?jm110 ?n0_110 ?x111 ?sa111 ?xb111 ?ty111 ?kp111 ?in111 ?ga111 ?gg111 ?hd111 ?jc111 ?jm111 ?n0_111 ?x112 ?sa112 ?xb112 ?ty112 ?kp112 ?in112 ?ga112 ?gg112 ?hd112 ?jc112 ?jm112 ?n0_112 ?n1_112 ?x113 ?sa113 ?xb113 ?ty113 ?kp113 ?in113 ?ga113 ?gg113 ?hd113 ?jc113 ?jm113 ?n0_113 ?x114 ?sa114 ?xb114 ?ty114 ?kp114 ?in114 ?ga114 ?gg114 ?hd114 ?jc114 ?jm114 ?n0_114 ?x115 ?sa115 ?xb115 ?ty115 ?kp115 ?in115 ?ga115 ?gg115 ?hd115 ?jc115 ?jm115 ?n0_115 ?x116 ?sa116 ?xb116 ?ty116 ?kp116 ?in116 ?ga116 ?gg116 ?hd116 ?jc116 ?jm116 ?n0_116 ?x117 ?sa117 ?xb117 ?ty117 ?kp117 ?in117 ?ga117 ?gg117 ?hd117 ?jc117 ?jm117 ?n0_117 ?n1_117 ?x118 ?sa118 ?xb118 ?ty118 ?kp118 ?in118 ?ga118 ?gg118 ?hd118 ?jc118 ?jm118 ?n0_118 ?x119 ?sa119 ?xb119 ?ty119 ?kp119 ?in119 ?ga119 ?gg119 ?hd119 ?jc119 ?jm119 ?n0_119 ?x120 ?sa120 ?xb120 ?ty120 ?kp120 ?in120 ?ga120 ?gg120 ?hd120 ?jc120 ?jm120 ?n0_120 ?x121 ?sa121 ?xb121 ?ty121 ?kp121 ?in121 ?ga121 ?gg121 ?hd121 ?jc121 ?jm121 ?n0_121 ?x122 ?sa122 ?xb122 ?ty122 ?kp122 ?in122 ?ga122 ?gg122 ?hd122 ?jc122 ?jm122 ?n0_122 ?x123 ?sa123 ?xb123 ?ty123 ?kp123 ?in123 ?ga123 ?gg123 ?hd123 ?jc123 ?jm123 ?n0_123 ?x124 ?sa124 ?xb124 ?ty124 ?kp124 ?in124 ?ga124 ?gg124 ?hd124 ?jc124 ?jm124 ?n0_124 ?x125 ?sa125 ?xb125 ?ty125 ?kp125 ?in125 ?ga125 ?gg125 ?hd125 ?jc125 ?jm125 ?n0_125 ?x126 ?sa126 ?xb126 ?ty126 ?kp126 ?in126 ?ga126 ?gg126 ?hd126 ?jc126 ?jm126 ?n0_126 ?x127 ?sa127 ?xb127 ?ty127 ?kp127 ?in127 ?ga127 ?gg127 ?hd127 ?jc127 ?jm127 ?n0_127 ?ti150 ?li150 ?cc150 ?kk150 ?lT150 ?ti151 ?li151 ?cc151 ?kk151 ?ti152 ?li152 ?cc152 ?kk152 ?ti153 ?li153 ?cc153 ?kk153 ?ti154 ?li154 ?cc154 ?kk154 ?ti155 ?li155 ?cc155 ?kk155 ?ti156 ?li156 ?cc156 ?kk156 ?ti157 ?li157 ?cc157 ?kk157 ?ti158 ?li158 ?cc158 ?kk158 ?ti159 ?li159 ?cc159 ?kk159 ?ti160 ?li160 ?cc160 ?kk160 ?ti161 ?li161 ?cc161 ?kk161 ?ti162 ?li162 ?cc162 ?kk162 ?ti163 ?li163 ?cc163 ?kk163 ?ti164 ?li164 ?cc164 ?kk164 ?ti165 ?li165 ?cc165 ?kk165 ?ti166 ?li166 ?cc166 ?kk166 ?hxT ?hkT
    (case a0 => k_is)
    (case l0 => k_is)
    (case c0 => k_is)
    (case k0 => k_is)
    (case a1 => k_is)
    (case l1 => k_is)
    (case c1 => k_is)
    (case k1 => k_is)
    (case a2 => k_is)
    (case l2 => k_is)
    (case c2 => k_is)
    (case k2 => k_is)
    (case a3 => k_is)
    (case l3 => k_is)
    (case c3 => k_is)
    (case k3 => k_is)
    (case a4 => k_is)
    (case l4 => k_is)
    (case c4 => k_is)
    (case k4 => k_is)
    (case a5 => k_is)
    (case l5 => k_is)
    (case c5 => k_is)
    (case k5 => k_is)
    (case a6 => k_is)
    (case l6 => k_is)
    (case c6 => k_is)
    (case k6 => k_is)
    (case a7 => k_is)
    (case l7 => k_is)
    (case c7 => k_is)
    (case k7 => k_is)
    (case a8 => k_is)
    (case l8 => k_is)
    (case c8 => k_is)
    (case k8 => k_is)
    (case a9 => k_is)
    (case l9 => k_is)
    (case c9 => k_is)
    (case k9 => k_is)
    (case z_max => k_is)
    (case z_min => k_is)
    (case z_len => k_is)
    (case z_int => k_is)
    (case z_range => k_is)
    (case z_isinstance => k_is)
    (case z_repr => k_is)
    (case z_enumerate => k_is)
    (case z_ValueError => k_is)
    (case z_KeyError => k_is)
    (case z_IndexError => k_is)
    (case z_LookupError => k_is)
    (case z_RuntimeError => k_is)
    (case aE100 => k_is)
    (case aE101 => k_is)
    (case aE102 => k_is)
    (case aE103 => k_is)
    (case aE104 => k_is)
    (case aE105 => k_is)
    (case aE106 => k_is)
    (case aE107 => k_is)
    (case aE108 => k_is)
    (case aE109 => k_is)
    (case aE110 => k_is)
    (case aE111 => k_is)
    (case aE112 => k_is)
    (case aE113 => k_is)
    (case aE114 => k_is)
    (case aE115 => k_is)
    (case aE116 => k_is)
    (case aE117 => k_is)
    (case aE118 => k_is)
    (case aE119 => k_is)
    (case aE120 => k_is)
    (case aE121 => k_is)
    (case aE122 => k_is)
    (case aE123 => k_is)
    (case aE124 => k_is)
    (case aE125 => k_is)
    (case aE126 => k_is)
    (case aE127 => k_is)
    (case j2 => k_is)
    (case j3 => k_is)
    (case x101 => k_is)
    (case sa101 => k_is)
    (case xb101 => k_is)
    (case ty101 => k_is)
    (case kp101 => k_is)
    (case in101 => k_is)
    (case ga101 => k_is)
    (case gg101 => k_is)
    (case hd101 => k_is)
    (case jc101 => k_is)
    (case jm101 => k_is)
    (case n0_101 => k_is)
    (case x102 => k_is)
    (case sa102 => k_is)
    (case xb102 => k_is)
    (case ty102 => k_is)
    (case kp102 => k_is)
    (case in102 => k_is)
    (case ga102 => k_is)
    (case gg102 => k_is)
    (case hd102 => k_is)
    (case jc102 => k_is)
    (case jm102 => k_is)
    (case n0_102 => k_is)
    (case x103 => k_is)
    (case sa103 => k_is)
    (case xb103 => k_is)
    (case ty103 => k_is)
    (case kp103 => k_is)
    (case in103 => k_is)
    (case ga103 => k_is)
    (case gg103 => k_is)
    (case hd103 => k_is)
    (case jc103 => k_is)
    (case jm103 => k_is)
    (case n0_103 => k_is)
    (case x104 => k_is)
    (case sa104 => k_is)
    (case xb104 => k_is)
    (case ty104 => k_is)
    (case kp104 => k_is)
    (case in104 => k_is)
    (case ga104 => k_is)
    (case gg104 => k_is)
    (case hd104 => k_is)
    (case jc104 => k_is)
    (case jm104 => k_is)
    (case n0_104 => k_is)
    (case x105 => k_is)
    (case sa105 => k_is)
    (case xb105 => k_is)
    (case ty105 => k_is)
    (case kp105 => k_is)
    (case in105 => k_is)
    (case ga105 => k_is)
    (case gg105 => k_is)
    (case hd105 => k_is)
    (case jc105 => k_is)
    (case jm105 => k_is)
    (case n0_105 => k_is)
    (case x106 => k_is)
    (case sa106 => k_is)
    (case xb106 => k_is)
    (case ty106 => k_is)
    (case kp106 => k_is)
    (case in106 => k_is)
    (case ga106 => k_is)
    (case gg106 => k_is)
    (case hd106 => k_is)
    (case jc106 => k_is)
    (case jm106 => k_is)
    (case n0_106 => k_is)
    (case x107 => k_is)
    (case sa107 => k_is)
    (case xb107 => k_is)
    (case ty107 => k_is)
    (case kp107 => k_is)
    (case in107 => k_is)
    (case ga107 => k_is)
    (case gg107 => k_is)
    (case hd107 => k_is)
    (case jc107 => k_is)
    (case jm107 => k_is)
    (case n0_107 => k_is)
    (case x108 => k_is)
    (case sa108 => k_is)
    (case xb108 => k_is)
    (case ty108 => k_is)
    (case kp108 => k_is)
    (case in108 => k_is)
    (case ga108 => k_is)
    (case gg108 => k_is)
    (case hd108 => k_is)
    (case jc108 => k_is)
    (case jm108 => k_is)
    (case n0_108 => k_is)
    (case x109 => k_is)
    (case sa109 => k_is)
    (case xb109 => k_is)
    (case ty109 => k_is)
    (case kp109 => k_is)
    (case in109 => k_is)
    (case ga109 => k_is)
    (case gg109 => k_is)
    (case hd109 => k_is)
    (case jc109 => k_is)
    (case jm109 => k_is)
    (case n0_109 => k_is)
    (case x110 => k_is)
    (case sa110 => k_is)
    (case xb110 => k_is)
    (case ty110 => k_is)
    (case kp110 => k_is)
    (case in110 => k_is)
    (case ga110 => k_is)
    (case gg110 => k_is)
    (case hd110 => k_is)
    (case jc110 => k_is)
    (case jm110 => k_is)
    (case n0_110 => k_is)
    (case x111 => k_is)
    (case sa111 => k_is)
    (case xb111 => k_is)
    (case ty111 => k_is)
    (case kp111 => k_is)
    (case in111 => k_is)
    (case ga111 => k_is)
    (case gg111 => k_is)
    (case hd111 => k_is)
    (case jc111 => k_is)
    (case jm111 => k_is)
    (case n0_111 => k_is)
    (case x112 => k_is)
    (case sa112 => k_is)
    (case xb112 => k_is)
    (case ty112 => k_is)
    (case kp112 => k_is)
    (case in112 => k_is)
    (case ga112 => k_is)
    (case gg112 => k_is)
    (case hd112 => k_is)
    (case jc112 => k_is)
    (case jm112 => k_is)
    (case n0_112 => k_is)
    (case n1_112 => k_is)
    (case x113 => k_is)
    (case sa113 => k_is)
    (case xb113 => k_is)
    (case ty113 => k_is)
    (case kp113 => k_is)
    (case in113 => k_is)
    (case ga113 => k_is)
    (case gg113 => k_is)
    (case hd113 => k_is)
    (case jc113 => k_is)
    (case jm113 => k_is)
    (case n0_113 => k_is)
    (case x114 => k_is)
    (case sa114 => k_is)
    (case xb114 => k_is)
    (case ty114 => k_is)
    (case kp114 => k_is)
    (case in114 => k_is)
    (case ga114 => k_is)
    (case gg114 => k_is)
    (case hd114 => k_is)
    (case jc114 => k_is)
    (case jm114 => k_is)
    (case n0_114 => k_is)
    (case x115 => k_is)
    (case sa115 => k_is)
    (case xb115 => k_is)
    (case ty115 => k_is)
    (case kp115 => k_is)
    (case in115 => k_is)
    (case ga115 => k_is)
    (case gg115 => k_is)
    (case hd115 => k_is)
    (case jc115 => k_is)
    (case jm115 => k_is)
    (case n0_115 => k_is)
    (case x116 => k_is)
    (case sa116 => k_is)
    (case xb116 => k_is)
    (case ty116 => k_is)
    (case kp116 => k_is)
    (case in116 => k_is)
    (case ga116 => k_is)
    (case gg116 => k_is)
    (case hd116 => k_is)
    (case jc116 => k_is)
    (case jm116 => k_is)
    (case n0_116 => k_is)
    (case x117 => k_is)
    (case sa117 => k_is)
    (case xb117 => k_is)
    (case ty117 => k_is)
    (case kp117 => k_is)
    (case in117 => k_is)
    (case ga117 => k_is)
    (case gg117 => k_is)
    (case hd117 => k_is)
    (case jc117 => k_is)
    (case jm117 => k_is)
    (case n0_117 => k_is)
    (case n1_117 => k_is)
    (case x118 => k_is)
    (case sa118 => k_is)
    (case xb118 => k_is)
    (case ty118 => k_is)
    (case kp118 => k_is)
    (case in118 => k_is)
    (case ga118 => k_is)
    (case gg118 => k_is)
    (case hd118 => k_is)
    (case jc118 => k_is)
    (case jm118 => k_is)
    (case n0_118 => k_is)
    (case x119 => k_is)
    (case sa119 => k_is)
    (case xb119 => k_is)
    (case ty119 => k_is)
    (case kp119 => k_is)
    (case in119 => k_is)
    (case ga119 => k_is)
    (case gg119 => k_is)
    (case hd119 => k_is)
    (case jc119 => k_is)
    (case jm119 => k_is)
    (case n0_119 => k_is)
    (case x120 => k_is)
    (case sa120 => k_is)
    (case xb120 => k_is)
    (case ty120 => k_is)
    (case kp120 => k_is)
    (case in120 => k_is)
    (case ga120 => k_is)
    (case gg120 => k_is)
    (case hd120 => k_is)
    (case jc120 => k_is)
    (case jm120 => k_is)
    (case n0_120 => k_is)
    (case x121 => k_is)
    (case sa121 => k_is)
    (case xb121 => k_is)
    (case ty121 => k_is)
    (case kp121 => k_is)
    (case in121 => k_is)
    (case ga121 => k_is)
    (case gg121 => k_is)
    (case hd121 => k_is)
    (case jc121 => k_is)
    (case jm121 => k_is)
    (case n0_121 => k_is)
    (case x122 => k_is)
    (case sa122 => k_is)
    (case xb122 => k_is)
    (case ty122 => k_is)
    (case kp122 => k_is)
    (case in122 => k_is)
    (case ga122 => k_is)
    (case gg122 => k_is)
    (case hd122 => k_is)
    (case jc122 => k_is)
    (case jm122 => k_is)
    (case n0_122 => k_is)
    (case x123 => k_is)
    (case sa123 => k_is)
    (case xb123 => k_is)
    (case ty123 => k_is)
    (case kp123 => k_is)
    (case in123 => k_is)
    (case ga123 => k_is)
    (case gg123 => k_is)
    (case hd123 => k_is)
    (case jc123 => k_is)
    (case jm123 => k_is)
    (case n0_123 => k_is)
    (case x124 => k_is)
    (case sa124 => k_is)
    (case xb124 => k_is)
    (case ty124 => k_is)
    (case kp124 => k_is)
    (case in124 => k_is)
    (case ga124 => k_is)
    (case gg124 => k_is)
    (case hd124 => k_is)
    (case jc124 => k_is)
    (case jm124 => k_is)
    (case n0_124 => k_is)
    (case x125 => k_is)
    (case sa125 => k_is)
    (case xb125 => k_is)
    (case ty125 => k_is)
    (case kp125 => k_is)
    (case in125 => k_is)
    (case ga125 => k_is)
    (case gg125 => k_is)
    (case hd125 => k_is)
    (case jc125 => k_is)
    (case jm125 => k_is)
    (case n0_125 => k_is)
    (case x126 => k_is)
    (case sa126 => k_is)
    (case xb126 => k_is)
    (case ty126 => k_is)
    (case kp126 => k_is)
    (case in126 => k_is)
    (case ga126 => k_is)
    (case gg126 => k_is)
    (case hd126 => k_is)
    (case jc126 => k_is)
    (case jm126 => k_is)
    (case n0_126 => k_is)
    (case x127 => k_is)
    (case sa127 => k_is)
    (case xb127 => k_is)
    (case ty127 => k_is)
    (case kp127 => k_is)
    (case in127 => k_is)
    (case ga127 => k_is)
    (case gg127 => k_is)
    (case hd127 => k_is)
    (case jc127 => k_is)
    (case jm127 => k_is)
    (case n0_127 => k_is)
    (case ti150 => k_is)
    (case li150 => k_is)
    (case cc150 => k_is)
    (case kk150 => k_is)
    (case lT150 => k_is)
    (case ti151 => k_is)
    (case li151 => k_is)
    (case cc151 => k_is)
    (case kk151 => k_is)
    (case ti152 => k_is)
    (case li152 => k_is)
    (case cc152 => k_is)
    (case kk152 => k_is)
    (case ti153 => k_is)
    (case li153 => k_is)
    (case cc153 => k_is)
    (case kk153 => k_is)
    (case ti154 => k_is)
    (case li154 => k_is)
    (case cc154 => k_is)
    (case kk154 => k_is)
    (case ti155 => k_is)
    (case li155 => k_is)
    (case cc155 => k_is)
    (case kk155 => k_is)
    (case ti156 => k_is)
    (case li156 => k_is)
    (case cc156 => k_is)
    (case kk156 => k_is)
    (case ti157 => k_is)
    (case li157 => k_is)
    (case cc157 => k_is)
    (case kk157 => k_is)
    (case ti158 => k_is)
    (case li158 => k_is)
    (case cc158 => k_is)
    (case kk158 => k_is)
    (case ti159 => k_is)
    (case li159 => k_is)
    (case cc159 => k_is)
    (case kk159 => k_is)
    (case ti160 => k_is)
    (case li160 => k_is)
    (case cc160 => k_is)
    (case kk160 => k_is)
    (case ti161 => k_is)
    (case li161 => k_is)
    (case cc161 => k_is)
    (case kk161 => k_is)
    (case ti162 => k_is)
    (case li162 => k_is)
    (case cc162 => k_is)
    (case kk162 => k_is)
    (case ti163 => k_is)
    (case li163 => k_is)
    (case cc163 => k_is)
    (case kk163 => k_is)
    (case ti164 => k_is)
    (case li164 => k_is)
    (case cc164 => k_is)
    (case kk164 => k_is)
    (case ti165 => k_is)
    (case li165 => k_is)
    (case cc165 => k_is)
    (case kk165 => k_is)
    (case ti166 => k_is)
    (case li166 => k_is)
    (case cc166 => k_is)
    (case kk166 => k_is)
    (case hxT => first | kernel_rfl | rfl | decide +kernel)
    (case hkT => first | kernel_rfl | rfl | decide +kernel)
