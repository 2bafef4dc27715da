import PyProof.Rows.All
import Wide.All
import OpenK.AllK
import Wide.FinOn
import HandS.ForMost
import HandS.Wide
import HandS.IsInst
import HandS.Defaults
import HandS.Flow
import HandS.TupLe
import HandS.OwnEq
import HandS.More
import HandS.Small
import HandS.EndBits
import HandS.RaiseMore
import HandS.Walk
import HandS.Zip
import HandS.Conv
import HandS.Codes
import HandS.StrMore
import HandS.CallLocal
import PyProof.ReprRoads
import PyProof.WalksMore
import PyProof.ReprLen
import KE.GoesZip
import KE.GoesMore
import KE.IntTextLaws
import PyProof.Draws
import HandS.CallSlots
import KE.KTryMore
import PyProof.StrBlock2
import HandS.ForExc
import HandS.ExcField
import HandS.ExcInit
import HandS.ExcOwn
import HandS.ExcIs
import KE.KExcIs
import PyProof.ExcBaseAll.LookupError
import PyProof.ExcBaseAll.RuntimeError
import PyProof.ExcBaseAll.IndexError
import PyProof.ExcBaseAll.ValueError
import PySem.Challenge.RW_stampedwait_k80_texts_of_no_deed
set_option Elab.async false
set_option linter.all false
set_option maxRecDepth 100000
set_option maxHeartbeats 4000000
namespace M
open PySem L2


section
open PySem PySem.Spec PyProof.Rows L2
/-- the promise of a def that is only called where no object is being shown -/
structure FnG (P : Program) (w : World) (K : PySem.W.Frag) (mg : Str → Option Value) (base : Heap) (k : Nat) (f : Addr) (fd : FuncData) (ps : List Str) (sp : Sp) : Prop where
  size : ∀ vs H Q E, sp vs H Q E → vs.length = ps.length
  go : ∀ (A : Around) (outer : List Env) (s : Shared) (H : Hp) (us : List Value) (vs : List V) (Q : VK) (E : XK) (args : Args), A.guards = some [] → Room k A → Env0 P w K mg base A outer s H →
    BindsTo s fd args (ps.zip us) → Vals vs us → sp vs H Q E → codeAny (model P w) A (.call (.ref f) args) (CR CX0 outer P w H s Q E) s
theorem room66 {A : Around} {k : Nat} (hr : Room k A) : A.units + 66 < cLine := by
  have := hr.un
  omega
theorem guards_deeper (A : Around) (e : Env) : (A.deeper e).guards = A.guards := rfl
section
variable {P : Program} {w : World} {K : PySem.W.Frag} {mg : Str → Option Value} {base : Heap} {x qual : Str} {st : Stmt} {f : Addr} {fd : FuncData} {N ps : List Str} {k : Nat} {sp : Sp}
theorem fnG_mk (F : Fun K x qual st f fd) (S : FnScope N ps (defScope st)) (size : ∀ vs H Q E, sp vs H Q E → vs.length = ps.length)
    (body : ∀ (cdv : Value) (A : Around) (outer : List Env) (s : Shared) (H : Hp) (vs : List V) (Q : VK) (E : XK), (A.deeper (envOfC qual (defScope st) s.heap.objs.size f cdv)).guards = some [] →
      Room k (A.deeper (envOfC qual (defScope st) s.heap.objs.size f cdv)) → sp vs H Q E →
      ∃ t, PSs (cxOf CX0 P w K mg base N qual (defScope st) f cdv A outer s H E).nox (defBody st) t ∧ t { nx := fun _ H' => Q .non H', rt := Q } (start N vs) H) :
    FnG P w K mg base (k + 1) f fd ps sp := by
  obtain ⟨oc, od, kV, doc, pm, an, cdv, ct, osl, rfl, lk, hcd⟩ := F.ex
  refine ⟨size, ?_⟩
  intro A outer s H us vs Q E args gd hr e0 hb r hsp
  have old : ∀ b o, base.get? b = some o → s.heap.get? b = some o := fun b o z => (e0.bs b o z).1
  have kin := e0.mod.kin.keeps old
  have hkind : ∀ y ∈ ps.zip us, (defScope st).names.lookup y.1 = some .local ∨ ((defScope st).names.lookup y.1 = some .cell ∧ ((cellsFrom (s.heap.objs.size + 1) (defScope st).names []).lookup y.1).isSome = true) := by
    rintro ⟨n, v⟩ hy
    have := S.par n (List.of_mem_zip hy).1
    rcases this with z | z
    · exact .inl z
    · exact .inr ⟨z, PySem.W.cellsFrom_some _ _ _ (.inl z)⟩
  obtain ⟨t, ht, hq⟩ := body cdv A outer s H vs Q E gd (hr.deeper _) hsp
  refine codeAny_call_function hr.depth (kin _ _ lk) rfl S.co S.gen rfl (PySem.W.codeRec_of kin hcd) ?_
  refine hb _ _ _ _ (wpAny_newFunctionEnv_cells S.kind hkind ?_)
  rintro env rfl s1 y
  refine ⟨(e0.mod.nolimit.keeps old).keeps y.toInCall.keep, codeAny_func ?_⟩
  have I0 := inv_start (CX := CX0) (E := E) (cd := cdv) (f := f) (qual := qual) S hr.hd e0 (size _ _ _ _ hsp) r y
  refine wpAny_mono (ht.nox.run [] s1 _ H _ I0 hq) ?_ (fun _ _ z => z)
  intro fl s' hs
  cases fl with
  | ret u =>
    obtain ⟨v, σ', H', J, rv, z⟩ := hs
    exact ⟨v, H', J.os, J.bare, J.base, J.hok, rv, z⟩
  | next =>
    obtain ⟨σ', H', J, z⟩ := hs
    exact ⟨V.non, H', J.os, J.bare, J.base, J.hok, rfl, z⟩
  | brk => exact hs.elim fun _ h => h.elim fun _ h => h.2.elim
  | cont => exact hs.elim fun _ h => h.elim fun _ h => h.2.elim
end
section
variable {X : Cx} {k : Nat} {f : Addr} {fd : FuncData} {ps : List Str} {sp : Sp} {x : Str} {p pos : Pos} {e : Expr} {es : List Expr} {t : TA}
theorem pe_callG (F : FnG X.prog X.w X.K X.mg X.base k f fd ps sp) (gd : X.A.guards = some []) (hr : Room k X.A) (hg : Gl X x) (hm : X.mg x = some (.ref f)) (hk : PySem.W.keepIn X.K (.ref f) = true) (hb : Binds X.K fd ps [])
    (hx : Passes CX0 X E0) (ha : PA X (e :: es) t) (hdb : (x == ("__debug__" : Str)) = false := by decide) (he : starEach (e :: es) X.env = (false, eval e X.env) :: starEach es X.env := by rfl) (hpl : (backTo pos (starEach es X.env)).any (·.1) = false := by rfl) :
    PE X (.Call (.Name x p) (e :: es) [] pos) (tCall sp [] E0 t) := by
  constructor
  intro pins s σ H Q I h
  apply wpAny_Call_Name_kw
  refine ld_glob I hg hm ?_ hdb
  refine PySem.W.callWith_K (h₀ := X.base) I.ok.mod.kin hk (thn (ha.run pos pins s σ H _ I h) ?_) he hpl
  rintro us s1 ⟨vs, H1, I1, r, q⟩
  refine ⟨I1.kIn, ?_⟩
  rw [List.append_nil] at q
  have hl : us.length = ps.length := r.length.symm.trans (F.size _ _ _ _ q)
  have b := hb s1 us I1.kIn (by rw [List.append_nil]; exact hl)
  rw [List.append_nil] at b
  refine wpAny_call (codeAny_mono (F.go X.A X.stack s1 H1 us vs Q E0 ⟨us, []⟩ gd hr I1.env0 b r q) ?_)
  intro res s' hq
  cases res with
  | error e => exact hx pins σ H1 s1 e s' I1 hq
  | ok fl => cases fl <;> first | exact I1.after hq | exact False.elim hq
/-- repr of data -/
theorem call_reprD (gd : X.A.guards = some []) (hu : X.A.units + 66 < cLine) : CallR X (.builtin "repr") (fun xs H Q => ∃ (a : Addr) (d : PyData), xs = [.ref a] ∧ Dp X.K H (.ref a) d ∧ d.showable = true ∧ d.hasDict = false ∧ d.depth ≤ 64 ∧ d.shown.length ≤ sizeLine ∧ Q (.str d.shown) H) := by
  intro pins s σ H xs us Q I r h
  obtain ⟨a, d, rfl, hd, sh, nd, dp, sz, q⟩ := h
  cases r with
  | cons r1 r2 =>
    cases r2
    obtain ⟨as, rd⟩ := Dp.reads I d _ _ hd r1
    cases r1
    exact repr_of_reads' rd sh (fun z => by rw [nd] at z; cases z) gd (by omega) (fun _ _ z => z) (fun h' u tk z => ⟨.str d.shown, H, I.kept z, ⟨_, rfl⟩, q⟩) sz
end
/-- the law's call -/
theorem law_callG {P : Program} {w : World} {K : PySem.W.Frag} {mg mb : Str → Option Value} {k : Nat} {fa sa : Addr} {fd : FuncData} {x : Str} {sp : Sp} {s₁ : Shared} {vs : List Value} {ns : List Int}
    (KX : K.In s₁.heap) (hns : s₁.heap.Ns mainGlobals mg) (hb : s₁.heap.Ns builtinsNs mb) (hbb : ∀ x : Str, x ≠ "__name__" → mb x = bootBuiltins x) (hlim : s₁.heap.NoLimit) (hg : s₁.gens = #[])
    (ho : s₁.heap.get? sa = some { cls := .type "list", data := .seq vs.toArray }) (hi : IntsAre vs ns) (hl : ns.length ≤ sizeLine) (hr : Room k callerA)
    (F : ∀ base : Heap, K.In base → base.Ns mainGlobals mg → FnG P w K mg base k fa fd [x] sp) (hbind : ∀ (s : Shared) (u : Value), BindsTo s fd ⟨[u], []⟩ [(x, u)])
    (hsp : ∀ H : Hp, Only H → SqL K H sa (ns.map V.int) → sp [.ref sa] H (fun v _ => v = .bl true) fun _ _ _ => False) :
    codeAny (model P w) callerA (.call (.ref fa) ⟨[.ref sa], []⟩) (fun r s' => r = .ok (.ret (.bool true)) ∧ OldK s₁.heap s'.heap ∧ s'.os = s₁.os ∧ AllBare s'.gens) s₁ := by
  -- H tracks the script or nothing
  suffices main : ∀ H : Hp, Only H → SqL K H sa (ns.map V.int) → HOk P w H s₁.heap → (∀ b, H b ≠ none → b = sa) → (H sa ≠ none → K.lookup sa = none) →
      codeAny (model P w) callerA (.call (.ref fa) ⟨[.ref sa], []⟩) (fun r s' => r = .ok (.ret (.bool true)) ∧ OldK s₁.heap s'.heap ∧ s'.os = s₁.os ∧ AllBare s'.gens) s₁ by
    have rv := vals_ints hi
    cases hk : K.lookup sa with
    | none =>
      let H : Hp := fun b => if b = sa then some (.frz { cls := .type "list", data := .seq vs.toArray } (.lst (ns.map V.int))) else none
      have hH : H sa = some (.frz { cls := .type "list", data := .seq vs.toArray } (.lst (ns.map V.int))) := if_pos rfl
      have hN : ∀ b, b ≠ sa → H b = none := fun b z => if_neg z
      refine main H (fun b => ?_) (.inl (.inr ⟨_, hH⟩)) (fun b u z => ?_) (fun b z => ?_) fun _ => hk
      · by_cases c : b = sa
        · exact .inr ⟨_, _, by rw [c]; exact hH⟩
        · exact .inl (hN b c)
      · by_cases c : b = sa
        · subst c
          rw [hH] at z
          cases z
          exact ⟨ho, by rw [List.length_map]; exact hl, vs, _, rv, ho⟩
        · rw [hN b c] at z
          cases z
      · by_cases c : b = sa
        · exact c
        · exact absurd (hN b c) z
    | some o =>
      have z := KX sa o hk
      rw [ho] at z
      cases z
      exact main (fun _ => none) (fun _ => .inl rfl) (.inr ⟨_, vs.toArray, _, hk, rfl, rfl, rfl, by rw [List.size_toArray, hi.length]; exact hl, by simpa using rv⟩) (fun b u y => by cases y) (fun b y => absurd rfl y) fun y => absurd rfl y
  intro H hO hS hok hA hK
  have free : ∀ {b : Addr}, b ≠ sa → H b = none := fun {b} c => by
    cases z : H b with
    | none => rfl
    | some u => exact absurd (hA b (by rw [z]; simp)) c
  have dictFree : ∀ {b : Addr} {o : Obj} {es : Array DictEntry} {ep : Nat}, s₁.heap.get? b = some o → o.data = .dict es ep → H b = none := fun {b o es ep} e d => free fun c => by
    subst c
    rw [ho] at e
    cases e
    cases d
  have ns2 : ∀ {b : Addr} {m : Str → Option Value}, s₁.heap.Ns b m → (hidT s₁.heap H).Ns b m := by
    rintro b m ⟨o, es, ep, e, d, r⟩
    exact ⟨o, es, ep, hidT_get e (dictFree e d), d, r⟩
  have kin2 : K.In (hidT s₁.heap H) := by
    intro b o e
    refine hidT_get (KX b o e) ?_
    by_cases c : b = sa
    · subst c
      cases z : H b with
      | none => rfl
      | some u =>
        rw [hK (by rw [z]; simp)] at e
        cases e
    · exact free c
  have lim2 : (hidT s₁.heap H).NoLimit := by
    obtain ⟨mc, h1, h2⟩ := hlim
    exact ⟨mc, ns2 h1, h2⟩
  have env : Env0 P w K mg (hidT s₁.heap H) callerA [] s₁ H :=
    { frames := rfl, mod := ⟨kin2, ns2 hns, ⟨mb, ns2 hb, hbb⟩, lim2⟩, bs := fun b o e => of_hidT e, bsz := Nat.le_of_eq (hidT_size _ _), funs := trivial, frf := fun b z => by simp [frs] at z, hok := hok, bare := .of_eq hg }
  refine codeAny_mono ((F _ kin2 (ns2 hns)).go callerA [] s₁ H [.ref sa] [.ref sa] _ _ ⟨[.ref sa], []⟩ rfl hr env (hbind s₁ (.ref sa)) (.cons rfl .nil) (hsp H hO hS)) ?_
  intro res s' hres
  cases res with
  | error e => exact hres.elim
  | ok fl =>
    cases fl with
    | ret u =>
      obtain ⟨v, H', os, bare, un, hok', rv, qv⟩ := hres
      cases (show v = .bl true from qv)
      cases (show u = Value.bool true from rv)
      refine ⟨rfl, OldK.of_keep fun b o e => ?_, os, bare⟩
      rcases hO b with z | ⟨ob, xs, z⟩
      · exact un.keep b o e z (by simp [frs]) (by simp)
      · have z2 := un.frzs b ob _ z
        have e1 := (hok b _ z).1
        have e2 := (hok' b _ z2).1
        rw [e] at e1
        cases e1
        exact e2
    | next => exact hres.elim
    | brk => exact hres.elim
    | cont => exact hres.elim
theorem walkG {l : PySem.W.OpenLaw} {n k : Nat} {q : Program} {loose : List Str} {XP : (Str → Option Value) → Heap → Prop} {YP : World → Heap → Prop} {d : DefRec} {K : Params → PySem.W.Frag} {sp : World → Sp} {x : Str}
    (hn : l.most = some n) (hn2 : n ≤ sizeLine) (hdf : d.params.defaults = []) (hr : Room k callerA) (hY : ∀ (w : World) (h : Heap), YP w h → (K w.params).In h)
    (F : ∀ (w : World) (mg : Str → Option Value) (fa : Addr) (h : Heap), (K w.params).In h → h.Ns mainGlobals mg → mg d.name = some (.ref fa) →
      ∃ fd : FuncData, (∀ (s : Shared) (u : Value), BindsTo s fd ⟨[u], []⟩ [(x, u)]) ∧ ∀ base : Heap, (K w.params).In base → base.Ns mainGlobals mg → FnG l.prog w (K w.params) mg base k fa fd [x] (sp w))
    (hsp : ∀ (w : World) (H : Hp) (a : Addr) (ns : List Int), ns.length ≤ n → (∀ z ∈ ns, Builtin.Int.intBits z ≤ 1048576) → Only H → SqL (K w.params) H a (ns.map V.int) → sp w [.ref a] H (fun v _ => v = .bl true) fun _ _ _ => False) :
    PySem.W.WalkO q loose XP YP l.row.toRowW d [] (fun f vs => PySem.call f vs) := by
  apply Att.attach_callB hn hdf
  intro w s₀ s₁ mg mb fa o pm cd doc sa vs ns G Y ho hd hcd hmg hobj hints hlen hbits hg
  obtain ⟨fd, hb, hF⟩ := F w mg fa _ (hY w _ Y) G.T.g hmg
  exact law_callG (hY w _ Y) G.T.g G.T.b G.T.builtins G.T.nolimit hg hobj hints (Nat.le_trans hlen hn2) hr hF hb (fun H hO hS => hsp w H sa ns hlen hbits hO hS)
end

section
open PySem PySem.Spec PyProof.Rows L2
/-- data, or an empty dict -/
inductive An (K : PySem.W.Frag) (H : Hp) : V → PyData → Prop
  | dp {v : V} {d : PyData} (h : Dp K H v d) : An K H v d
  | dict {p : Addr} (e : H p = some (.dK [])) : An K H (.ref p) (.dict [])
mutual
theorem dp_up {K : PySem.W.Frag} {H H' : Hp} (k : Same H H') : ∀ {v : V} {d : PyData}, Dp K H v d → Dp K H' v d
  | _, _, .non => .non
  | _, _, .bl b => .bl b
  | _, _, .int i => .int i
  | _, _, .str x => .str x
  | _, _, .lst h hs => .lst (k.seq h) (dpall_up k hs)
  | _, _, .tup h hs => .tup (by
      rcases h with (h | ⟨u, h⟩) | h
      · exact .inl (.inl (k _ _ h))
      · exact .inl (.inr ⟨u, k _ _ h⟩)
      · exact .inr h) (dpall_up k hs)
theorem dpall_up {K : PySem.W.Frag} {H H' : Hp} (k : Same H H') : ∀ {vs : List V} {ds : List PyData}, DpAll K H vs ds → DpAll K H' vs ds
  | _, _, .nil => .nil
  | _, _, .cons h hs => .cons (dp_up k h) (dpall_up k hs)
end
mutual
theorem dp_nodict {K : PySem.W.Frag} {H : Hp} : ∀ {v : V} {d : PyData}, Dp K H v d → d.hasDict = false
  | _, _, .non => rfl
  | _, _, .bl b => rfl
  | _, _, .int i => rfl
  | _, _, .str x => rfl
  | _, _, .lst _ hs => by simp only [PyData.hasDict]; exact dpall_nodict hs
  | _, _, .tup _ hs => by simp only [PyData.hasDict]; exact dpall_nodict hs
theorem dpall_nodict {K : PySem.W.Frag} {H : Hp} : ∀ {vs : List V} {ds : List PyData}, DpAll K H vs ds → PyData.hasDictAll ds = false
  | _, _, .nil => rfl
  | _, _, .cons h hs => by simp only [PyData.hasDictAll, dp_nodict h, dpall_nodict hs, Bool.or_self]
end
theorem dpall_len {K : PySem.W.Frag} {H : Hp} : ∀ {vs : List V} {ds : List PyData}, DpAll K H vs ds → vs.length = ds.length
  | _, _, .nil => rfl
  | _, _, .cons _ hs => congrArg Nat.succ (dpall_len hs)
theorem dpall_get {K : PySem.W.Frag} {H : Hp} : ∀ {vs : List V} {ds : List PyData}, DpAll K H vs ds → ∀ {i : Nat} {v : V}, vs[i]? = some v → ∃ d, ds[i]? = some d ∧ Dp K H v d
  | _, _, .nil, i, v, e => by simp at e
  | _, _, .cons h hs, 0, v, e => by
    simp at e
    subst e
    exact ⟨_, rfl, h⟩
  | _, _, .cons h hs, i + 1, v, e => dpall_get hs (i := i) (by simpa using e)
theorem An.up {K : PySem.W.Frag} {H H' : Hp} (k : Same H H') {v : V} {d : PyData} (h : An K H v d) : An K H' v d := by
  cases h with
  | dp h => exact .dp (dp_up k h)
  | dict e => exact .dict (k _ _ e)
def wholeD : PyData → Bool
  | .int _ => true
  | _ => false
def isTup : PyData → Bool
  | .tuple _ => true
  | _ => false
theorem sql_ty {K : PySem.W.Frag} {H : Hp} {p : Addr} {xs : List V} (h : SqL K H p xs) : TyX K H (.ref p) (.type "list") := by
  rcases h with (h | ⟨u, h⟩) | ⟨o, its, n, h1, h2, _⟩
  · exact .base (.lst h)
  · exact .base (.frz h)
  · exact .kList h1 h2
theorem sqt_tyA {K : PySem.W.Frag} {H : Hp} {p : Addr} {xs : List V} (h : SqT K H p xs) : TyX K H (.ref p) (.type "tuple") := by
  rcases h with (h | ⟨u, h⟩) | ⟨o, its, n, h1, h2, _⟩
  · exact .base (.tup h)
  · exact .fTuple h
  · exact .kTuple h1 h2
/-- what isinstance says -/
theorem An.is {K : PySem.W.Frag} {H : Hp} {v : V} {d : PyData} (h : An K H v d) : ∃ (t : Value) (i b c : Bool), TyX K H v t ∧ PySem.W.kitOne K t (.type "int") = some i ∧ PySem.W.kitOne K t (.type "bool") = some b ∧ PySem.W.kitOne K t (.type "tuple") = some c ∧ (i && !b) = wholeD d ∧ c = isTup d := by
  cases h with
  | dict e => exact ⟨_, false, false, false, .base (.dK e), kit_ty (by decide +kernel), kit_ty (by decide +kernel), kit_ty (by decide +kernel), rfl, rfl⟩
  | dp h =>
    cases h with
    | non => exact ⟨_, false, false, false, .base .non, kit_ty (by decide +kernel), kit_ty (by decide +kernel), kit_ty (by decide +kernel), rfl, rfl⟩
    | bl b => exact ⟨_, true, true, false, .base (.bl b), kit_ty (by decide +kernel), kit_ty (by decide +kernel), kit_ty (by decide +kernel), rfl, rfl⟩
    | int i => exact ⟨_, true, false, false, .base (.int i), kit_ty (by decide +kernel), kit_ty (by decide +kernel), kit_ty (by decide +kernel), rfl, rfl⟩
    | str x => exact ⟨_, false, false, false, .base (.str x), kit_ty (by decide +kernel), kit_ty (by decide +kernel), kit_ty (by decide +kernel), rfl, rfl⟩
    | lst h _ => exact ⟨_, false, false, false, sql_ty h, kit_ty (by decide +kernel), kit_ty (by decide +kernel), kit_ty (by decide +kernel), rfl, rfl⟩
    | tup h _ => exact ⟨_, false, false, true, sqt_tyA h, kit_ty (by decide +kernel), kit_ty (by decide +kernel), kit_ty (by decide +kernel), rfl, rfl⟩
/-- a tuple of data -/
theorem An.tup {K : PySem.W.Frag} {H : Hp} {v : V} {ds : List PyData} (h : An K H v (.tuple ds)) : ∃ p xs, v = .ref p ∧ SqT K H p xs ∧ DpAll K H xs ds := by
  cases h with
  | dp h =>
    cases h with
    | tup h hs => exact ⟨_, _, rfl, h, hs⟩
section
variable {X : Cx}
/-- repr of any of these -/
theorem call_reprA (gd : X.A.guards = some []) (hu : X.A.units + 66 < cLine) : CallR X (.builtin "repr") (fun xs H Q => ∃ (x : V) (d : PyData), xs = [x] ∧ An X.K H x d ∧ d.showable = true ∧ d.depth ≤ 64 ∧ d.shown.length ≤ sizeLine ∧ Q (.str d.shown) H) := by
  intro pins s σ H xs us Q I r h
  obtain ⟨x, d, rfl, ha, sh, dp, sz, q⟩ := h
  cases r with
  | cons r1 r2 =>
    cases r2
    cases ha with
    | dict e =>
      cases r1
      obtain ⟨hz, hS, vs, r, o, es, ep, h1, h2, h3, h4⟩ := (show ObjOk X.prog X.w H s.heap _ (.dK []) from I.hok _ _ e)
      cases r
      have hes : es.toList = [] := by
        have z := h4.2.1
        generalize es.toList = l at z
        cases z
        rfl
      have rd : Reads s.heap (.ref _) (.dict []) (_ :: [] ++ []) := Reads.dict (kvs := []) (as := []) (bs := []) h1 h2.1 h3 (by rw [hes]; exact .nil) (by rw [hes]; exact .nil)
      refine repr_of_reads' rd rfl (fun _ z => ?_) gd (by show X.A.units + (1 + 1) < cLine; omega) (fun _ _ z => z) (fun h' u tk z => ⟨.str _, H, I.kept z, ⟨_, rfl⟩, q⟩) sz
      simp at z
      simp [z] at hS
    | dp hd =>
      cases hd with
      | non =>
        cases r1
        exact PySem.P.repr_of_none ⟨.str _, H, I.tok _, ⟨_, rfl⟩, q⟩
      | bl b =>
        cases r1
        exact PySem.P.repr_of_bool ⟨.str _, H, I.tok _, ⟨_, rfl⟩, q⟩
      | int i =>
        obtain ⟨t, rfl⟩ := r1
        exact PySem.P.repr_of_int (of_decide_eq_true sh) ⟨.str _, H, I.tok _, ⟨_, rfl⟩, q⟩
      | str z =>
        obtain ⟨t, rfl⟩ := r1
        exact PySem.P.repr_of_str ⟨.str _, H, I.tok _, ⟨_, rfl⟩, q⟩ sz
      | lst h hs =>
        obtain ⟨as, rd⟩ := Dp.reads I _ _ _ (.lst h hs) r1
        cases r1
        exact repr_of_reads' rd sh (fun z => by rw [dp_nodict (.lst h hs)] at z; cases z) gd (by omega) (fun _ _ z => z) (fun h' u tk z => ⟨.str _, H, I.kept z, ⟨_, rfl⟩, q⟩) sz
      | tup h hs =>
        obtain ⟨as, rd⟩ := Dp.reads I _ _ _ (.tup h hs) r1
        cases r1
        exact repr_of_reads' rd sh (fun z => by rw [dp_nodict (.tup h hs)] at z; cases z) gd (by omega) (fun _ _ z => z) (fun h' u tk z => ⟨.str _, H, I.kept z, ⟨_, rfl⟩, q⟩) sz
/-- min of a tuple of ints -/
theorem cr_minT (hc : X.calm = true) : CallR X (.builtin "min") (fun vs H Q => ∃ (a : Addr) (ns : List Int), vs = [V.ref a] ∧ SqT X.K H a (ns.map V.int) ∧ 0 < ns.length ∧ ∀ m, m ∈ ns → (∀ y, y ∈ ns → m ≤ y) → Q (.int m) H) := by
  intro pins s σ H vs us Q I r h
  obtain ⟨a, ns, rfl, hs, hne, q⟩ := h
  obtain ⟨its, rv, ht, _⟩ := I.tuple hs
  rw [Vals.ref1 r]
  have hi : IntsAre its ns := rv.ints
  obtain ⟨xs, e⟩ := hi.allInts.items
  have hn : numsOf (intItems xs).toList = ns := by rw [← e]; exact hi.numsOf
  rw [nums_intItems] at hn
  subst hn
  rw [e] at ht
  have hsz : 0 < xs.size := by simpa using hne
  have ht' : s.heap.IsTuple a (intItems xs) := ht
  have hlt : a < s.heap.objs.size := by
    obtain ⟨_, z, _⟩ := ht'
    exact Heap.lt_size z
  have hsz1 : ∀ o, (s.heap.push o).objs.size = s.heap.objs.size + 1 := fun o => Heap.size_push ..
  refine call_min_walk (wpAny_pyIter_tuple ht' ⟨_, _, _, _, _, _, _, rfl, Walks.tuple (A := X.A.in1) (I.ok.hd hc) _ a (Nat.ne_of_lt hlt) (intItems xs), ⟨⟨_, Heap.get?_push_size _ rfl, rfl, rfl⟩, ?_⟩, ?_, by simpa [intItems] using hsz, CmpOf.ints_lt (numAt xs) (fun _ _ => intItems_at), ?_⟩)
  · obtain ⟨o, z1, z2⟩ := ht'
    exact ⟨o, Heap.get?_push_of_some _ z1, z2⟩
  · intro b hb
    show b < (s.heap.push _).objs.size
    rw [hsz1]
    rcases List.mem_cons.mp hb with rfl | hb
    · exact Nat.lt_succ_self _
    · rcases List.mem_cons.mp hb with rfl | hb
      · exact Nat.lt_succ_of_lt hlt
      · cases hb
  · intro v h' tk hP hk
    have hv : (intItems xs)[argBest (fun i j => decide (numAt xs i < numAt xs j)) (xs.size - 1)]? = some v := by simpa [intItems] using hP
    obtain ⟨t, rfl⟩ := intItems_at hv
    obtain ⟨h1, h2⟩ := argBest_lt (numAt xs) (xs.size - 1)
    have kept : ∀ b o, s.heap.get? b = some o → h'.get? b = some o := fun b o z => hk b o (by simpa using Nat.ne_of_lt (Heap.lt_size z)) (Heap.get?_push_of_some _ z)
    refine ⟨.int _, H, I.kept kept, ⟨_, rfl⟩, q _ ?_ ?_⟩
    · rw [numAt_eq]; exact PySem.getD_mem (by rw [List.length_map, Array.length_toList]; omega)
    · intro z hz
      obtain ⟨j, hj, rfl⟩ := mem_getD hz
      rw [List.length_map, Array.length_toList] at hj
      rw [← numAt_eq]; exact h2 j (by omega)
end
end
/-! zip of two things, each a list, a tuple or a text -/
namespace ZG
open PySem PySem.Spec PyProof.Rows L2
/-- what is walked: a list at an address, a tuple at one, a text -/
inductive Sc
  | lst (c : Addr)
  | tup (c : Addr)
  | str (z : Str)
def Sc.val : Sc → V
  | .lst c => .ref c
  | .tup c => .ref c
  | .str z => .str z
def signs (z : Str) : List V := z.cps.toList.map fun c => V.str ⟨#[c]⟩
def Sc.Has (K : PySem.W.Frag) (H : Hp) : Sc → List V → Prop
  | .lst c, xs => SqL K H c xs
  | .tup c, xs => SqT K H c xs
  | .str z, xs => xs = signs z
/-- its iterator at a turn -/
def Sc.It (S : Sc) (t : Tok) (h : Heap) (i : Addr) (k : Nat) : Prop := match S with
  | .lst c => h.IsListIter i c k
  | .tup c => h.IsTupleIter i c k
  | .str z => h.IsStrIter i (strIterType z) z t k
def Sc.obj (S : Sc) (t : Tok) : Obj := match S with
  | .lst c => { cls := .type "list_iterator", data := .fields #[.ref c, .int 0 0] }
  | .tup c => { cls := .type "tuple_iterator", data := .fields #[.ref c, .int 0 0] }
  | .str z => { cls := .type (strIterType z), data := .fields #[.str z t, .int 0 0] }
/-- the thing itself in the heap -/
def Sc.Src (S : Sc) (h : Heap) (us : List Value) : Prop := match S with
  | .lst c => h.IsList c us.toArray
  | .tup c => h.IsTuple c us.toArray
  | .str _ => True
def Sc.many (S : Sc) (us : List Value) : Nat := match S with
  | .str z => z.cps.size
  | _ => us.length
def Sc.Gv (S : Sc) (us : List Value) (k : Nat) (v : Value) : Prop := match S with
  | .str z => ∃ c u, z.cps[k]? = some c ∧ v = .str ⟨#[c]⟩ u
  | _ => us.toArray[k]? = some v
def Sc.own : Sc → List Addr
  | .lst c => [c]
  | .tup c => [c]
  | .str _ => []
abbrev Sc.fp (S : Sc) (i : Addr) : List Addr := i :: S.own
abbrev Sc.Off (S : Sc) (i : Addr) : Prop := ∀ c ∈ S.own, c ≠ i
theorem Sc.draws {P : Program} {w : World} {A : Around} (hh : A.handled = none) (S : Sc) (t : Tok) (i : Addr) (ne : S.Off i) (us : List Value) :
    Draws P w A i (S.fp i) (S.many us) (S.Gv us) (fun k h => S.It t h i k ∧ S.Src h us) := by
  cases S with
  | lst c => exact Draws.list hh i c (ne c (by simp [Sc.own])) us.toArray
  | tup c => exact Draws.tuple hh i c (ne c (by simp [Sc.own])) us.toArray
  | str z =>
    have D := Draws.text (prog := P) (w := w) hh i z t
    exact ⟨fun k h st => D.live k h st.1, fun k h h2 st q => ⟨D.frame k h h2 st.1 q, trivial⟩, fun k s Q E hk st hq => D.item k s Q E hk st.1 fun x h2 tk a b c => hq x h2 tk a ⟨b, trivial⟩ c, fun s Q E st he => D.done s Q E st.1 he⟩
theorem Sc.start (S : Sc) (us : List Value) {u : Value} (r : RelV S.val u) : ∃ t : Tok, Begins u (S.obj t) (fun h => S.Src h us) := by
  cases S with
  | lst c => cases r; exact ⟨0, begins_list c us.toArray⟩
  | tup c => cases r; exact ⟨0, begins_tuple c us.toArray⟩
  | str z => obtain ⟨t, rfl⟩ := r; exact ⟨t, begins_text z t⟩
theorem Sc.live {S : Sc} {t : Tok} {h : Heap} {i : Addr} {k : Nat} (st : S.It t h i k) : ∃ o, h.get? i = some o ∧ ∀ v, o.data ≠ .cell v := by
  cases S with
  | lst c => obtain ⟨o, e, _, d⟩ := st; exact ⟨o, e, fun v q => by rw [d] at q; cases q⟩
  | tup c => obtain ⟨o, e, _, d⟩ := st; exact ⟨o, e, fun v q => by rw [d] at q; cases q⟩
  | str z => obtain ⟨o, e, _, d⟩ := st; exact ⟨o, e, fun v q => by rw [d] at q; cases q⟩
theorem Sc.keep {S : Sc} {t : Tok} {h h2 : Heap} {i : Addr} {k : Nat} (st : S.It t h i k) (q : ∀ o, h.get? i = some o → h2.get? i = some o) : S.It t h2 i k := by
  cases S with
  | lst c => obtain ⟨o, e, r⟩ := st; exact ⟨o, q o e, r⟩
  | tup c => obtain ⟨o, e, r⟩ := st; exact ⟨o, q o e, r⟩
  | str z => obtain ⟨o, e, r⟩ := st; exact ⟨o, q o e, r⟩
theorem Sc.zero {S : Sc} {t : Tok} {h : Heap} {i : Addr} (e : h.get? i = some (S.obj t)) : S.It t h i 0 := by
  cases S with
  | lst c => exact ⟨_, e, rfl, rfl⟩
  | tup c => exact ⟨_, e, rfl, rfl⟩
  | str z => exact ⟨_, e, rfl, rfl⟩
section
variable {X : Cx} {pins : List (Addr × Obj)} {σ : L2.St} {H : Hp} {s : Shared}
theorem Sc.src {S : Sc} {xs : List V} (I : Inv X pins σ H s) (h : S.Has X.K H xs) : ∃ us : List Value, S.Src s.heap us ∧ S.many us = xs.length ∧ (∀ c ∈ S.own, c < s.heap.objs.size) ∧ ∀ k v, S.Gv us k v → ∃ x, xs[k]? = some x ∧ RelV x v := by
  cases S with
  | lst c =>
    obtain ⟨its, rv, p, _⟩ := I.list h
    refine ⟨its, p.isList, rv.length.symm, fun b hb => ?_, fun k v g => ?_⟩
    · simp only [Sc.own, List.mem_cons, List.not_mem_nil, or_false] at hb
      exact hb ▸ p.lt
    · have g' : its[k]? = some v := by simpa [Sc.Gv] using g
      obtain ⟨hk, e⟩ := List.getElem?_eq_some_iff.mp g'
      have hx : xs[k]? = some (xs[k]'(by rw [rv.length]; exact hk)) := List.getElem?_eq_getElem _
      obtain ⟨u, hu, ru⟩ := rv.get hx
      rw [g'] at hu
      cases hu
      exact ⟨_, hx, ru⟩
  | tup c =>
    obtain ⟨its, rv, p, _⟩ := I.tuple h
    obtain ⟨o, ho, _⟩ := id p
    refine ⟨its, p, rv.length.symm, fun b hb => ?_, fun k v g => ?_⟩
    · simp only [Sc.own, List.mem_cons, List.not_mem_nil, or_false] at hb
      exact hb ▸ Heap.lt_size ho
    · have g' : its[k]? = some v := by simpa [Sc.Gv] using g
      obtain ⟨hk, e⟩ := List.getElem?_eq_some_iff.mp g'
      have hx : xs[k]? = some (xs[k]'(by rw [rv.length]; exact hk)) := List.getElem?_eq_getElem _
      obtain ⟨u, hu, ru⟩ := rv.get hx
      rw [g'] at hu
      cases hu
      exact ⟨_, hx, ru⟩
  | str z =>
    have h' : xs = signs z := h
    subst h'
    refine ⟨[], trivial, by simp [Sc.many, signs], fun b hb => ?_, fun k v g => ?_⟩
    · simp [Sc.own] at hb
    · obtain ⟨c, u, e, rfl⟩ := g
      refine ⟨.str ⟨#[c]⟩, ?_, u, rfl⟩
      unfold signs
      rw [List.getElem?_map, Array.getElem?_toList, e]
      rfl
theorem Sc.inj {S : Sc} {xs ys : List V} (I : Inv X pins σ H s) (h : S.Has X.K H xs) (h2 : S.Has X.K H ys) : xs = ys := by
  cases S with
  | lst c => exact I.list_inj h h2
  | tup c => exact I.tuple_inj h h2
  | str z => exact Eq.trans h (Eq.symm h2)
end
/-- apart: by the numbers -/
structure Apart (S R : Sc) (z TI TO i1 i2 : Addr) : Prop where
  sep : ZipSep2 z TI TO i1 i2 (S.fp i1) (R.fp i2)
  o1 : S.Off i1
  o2 : R.Off i2
theorem apart_of {S R : Sc} {n : Nat} (h1 : ∀ c ∈ S.own, c < n) (h2 : ∀ c ∈ R.own, c < n) : Apart S R (n + 4) (n + 2) (n + 3) n (n + 1) := by
  have lo : ∀ {S : Sc}, (∀ c ∈ S.own, c < n) → ∀ {i : Nat} {c : Nat}, (c : Addr) ∈ S.fp i → n ≤ c → c = i := fun h i c hc hn => by
    rcases List.mem_cons.mp hc with z | z
    · exact z
    · exact absurd (Nat.lt_of_lt_of_le (h c z) hn) (Nat.lt_irrefl _)
  have ne : ∀ p q : Nat, p ≠ q → n + p ≠ n + q := fun p q h e => h (Nat.add_left_cancel e)
  have off : ∀ {S : Sc}, (∀ c ∈ S.own, c < n) → ∀ p : Nat, S.Off (n + p) := fun h p c hc => Nat.ne_of_lt (Nat.lt_of_lt_of_le (h c hc) (Nat.le_add_right _ _))
  have nin : ∀ {S : Sc}, (∀ c ∈ S.own, c < n) → ∀ p q : Nat, p ≠ q → (n + p : Nat) ∉ S.fp (n + q) := fun h p q d m => ne p q d (lo h m (Nat.le_add_right _ _))
  exact ⟨⟨ne 2 4 (by decide), ne 3 4 (by decide), ne 2 3 (by decide), ne 2 0 (by decide), .head _, nin h1 4 0 (by decide), nin h1 3 0 (by decide), ne 2 1 (by decide), .head _,
    nin h2 4 1 (by decide), nin h2 3 1 (by decide), nin h2 0 1 (by decide), nin h1 1 0 (by decide)⟩, off h1 0, off h2 1⟩
/-- the pairs of both, in new tuples -/
def ItG (K : PySem.W.Frag) (S R : Sc) : It :=
  ⟨fun k H => ∃ xs ys, S.Has K H xs ∧ R.Has K H ys ∧ k < xs.length ∧ k < ys.length,
    fun k H v G => ∃ T x y, v = .ref T ∧ H T = none ∧ G = upd H T (.tup [x, y]) ∧ (∀ xs, S.Has K H xs → xs[k]? = some x) ∧ ∀ ys, R.Has K H ys → ys[k]? = some y,
    fun k H => ∃ xs ys, S.Has K H xs ∧ R.Has K H ys ∧ k ≤ xs.length ∧ k ≤ ys.length ∧ (k = xs.length ∨ k = ys.length)⟩
theorem turnG {P : Program} {w : World} {K : PySem.W.Frag} {elts : List Expr} {kk : Nat} {tpos : Pos} {S R : Sc} {t1 t2 : Tok} {z TI TO i1 i2 : Addr} (D : Apart S R z TI TO i1 i2) :
    Turn P w K (.Tuple elts kk tpos) (ItG K S R) [z, TI, TO, i1, i2] z (fun k h => IsZip h z TI TO .none ∧ IsTupOf2 h TI (.ref i1) (.ref i2) ∧ (∃ x y, IsTupOf2 h TO x y) ∧ S.It t1 h i1 k ∧ R.It t2 h i2 k) where
  mem := List.mem_cons_self ..
  obj := fun k h st c hc => by
    obtain ⟨a1, a2, ⟨x, y, a3⟩, a4, a5⟩ := st
    simp only [List.mem_cons, List.not_mem_nil, or_false] at hc
    rcases hc with q | q | q | q | q <;> rw [q]
    · exact ⟨_, a1, fun v q => nomatch q⟩
    · exact ⟨_, a2, fun v q => nomatch q⟩
    · exact ⟨_, a3, fun v q => nomatch q⟩
    · exact Sc.live (S := S) a4
    · exact Sc.live (S := R) a5
  keep := fun k h h2 st q => by
    obtain ⟨a1, a2, ⟨x, y, a3⟩, a4, a5⟩ := st
    exact ⟨q z (by simp) _ a1, q TI (by simp) _ a2, ⟨x, y, q TO (by simp) _ a3⟩, Sc.keep (S := S) a4 fun o => q i1 (by simp) o, Sc.keep (S := R) a5 fun o => q i2 (by simp) o⟩
  item := by
    intro X hP hw hK hc k pins s σ H E I hf st hg
    subst hP hw hK
    obtain ⟨a1, a2, ⟨x0, y0, a3⟩, a4, a5⟩ := st
    obtain ⟨xs, ys, gx, gy, lx, ly⟩ := hg
    have hh : X.A.in1.handled = none := I.ok.hd hc
    obtain ⟨us, sx, nx, _, rx⟩ := Sc.src I gx
    obtain ⟨vs, sy, ny, _, ry⟩ := Sc.src I gy
    have zlt : z < s.heap.objs.size := Heap.lt_size a1
    refine wpAny_pyNext_zipD2_item D.sep (Sc.draws (A := X.A.in1) hh S t1 i1 D.o1 us) (Sc.draws (A := X.A.in1) hh R t2 i2 D.o2 vs) a1 a2 a3 ⟨a4, sx⟩ ⟨a5, sy⟩ (by omega) (by omega) fun u v h2 tk gu gv b1 b2 b3 b4 b5 _ b7 => ?_
    obtain ⟨x, ex, ru⟩ := rx k u gu
    obtain ⟨y, ey, rv⟩ := ry k v gv
    refine ⟨_, rfl, wpAny_letOwnedTupleGo_zip (s := { s with heap := h2, toks := tk }) b1 fun h3 c1 sb => ?_⟩
    have b5' : h3.get? s.heap.objs.size = some { cls := .type "tuple", data := .seq #[u, v] } := (sb.2 _ (Nat.ne_of_gt zlt)).trans b5
    have nw : ObjOk X.prog X.w (upd H s.heap.objs.size (.tup [x, y])) h3 s.heap.objs.size (.tup [x, y]) :=
      ⟨(by decide : 2 ≤ sizeLine), [u, v], .cons ru (.cons rv .nil), ⟨_, b5', rfl, _, rfl⟩⟩
    have J : Inv X pins σ (upd H s.heap.objs.size (.tup [x, y])) { s with heap := h3, toks := tk } :=
      I.turnedNew (ch := [z, TI, TO, i1, i2]) (fun c o hb q => by
        simp only [List.mem_cons, List.not_mem_nil, or_false, not_or] at hb
        exact (sb.2 c hb.1).trans (b7 c o hb.1 hb.2.2.1 hb.2.2.2.1 hb.2.2.2.2 q)) hf (Nat.le_refl _) nw
    refine ⟨.ref s.heap.objs.size, _, J, rfl, ⟨_, x, y, rfl, I.hok.fresh (Nat.le_refl _), rfl, fun l hl => by rw [Sc.inj I hl gx]; exact ex, fun l hl => by rw [Sc.inj I hl gy]; exact ey⟩, ⟨c1, ?_, ⟨u, v, ?_⟩, ?_, ?_⟩, fun c hcm => ?_⟩
    · exact (sb.2 _ D.sep.TIz).trans (b7 _ _ D.sep.TIz D.sep.TITO D.sep.TIi1 D.sep.TIi2 a2)
    · exact (sb.2 _ D.sep.TOz).trans b2
    · exact Sc.keep (S := S) b3.1 fun o q => (sb.2 _ (Ne.symm D.sep.zi1)).trans q
    · exact Sc.keep (S := R) b4.1 fun o q => (sb.2 _ (Ne.symm D.sep.zi2)).trans q
    · have hlt : c < s.heap.objs.size := by
        simp only [List.mem_cons, List.not_mem_nil, or_false] at hcm
        rcases hcm with q | q | q | q | q <;> rw [q]
        · exact zlt
        · exact Heap.lt_size a2
        · exact Heap.lt_size a3
        · obtain ⟨_, e, _⟩ := Sc.live (S := S) a4; exact Heap.lt_size e
        · obtain ⟨_, e, _⟩ := Sc.live (S := R) a5; exact Heap.lt_size e
      rw [upd_ne (Nat.ne_of_lt hlt)]
      exact (hf c hcm).1
  done := by
    intro X hP hw hK hc k pins s σ H E I hf st hg
    subst hP hw hK
    obtain ⟨a1, a2, ⟨x0, y0, a3⟩, a4, a5⟩ := st
    obtain ⟨xs, ys, gx, gy, lx, ly, hend⟩ := hg
    have hh : X.A.in1.handled = none := I.ok.hd hc
    obtain ⟨us, sx, nx, _, _⟩ := Sc.src I gx
    obtain ⟨vs, sy, ny, _, _⟩ := Sc.src I gy
    exact wpAny_pyNext_zipD2_end D.sep (Sc.draws (A := X.A.in1) hh S t1 i1 D.o1 us) (Sc.draws (A := X.A.in1) hh R t2 i2 D.o2 vs) a1 a2 a3 ⟨a4, sx⟩ ⟨a5, sy⟩ (by omega) (by omega) (by omega) fun h2 tk b =>
      ⟨rfl, I.turnedL (ch := [z, TI, TO, i1, i2]) (fun c o hb q => by
        simp only [List.mem_cons, List.not_mem_nil, or_false, not_or] at hb
        exact b c o hb.1 hb.2.2.1 hb.2.2.2.1 hb.2.2.2.2 q) hf⟩
  self := fun A k s Q E st h => wpAny_pyIter_zip st.1 h
def iZipG (K : PySem.W.Frag) (ta : TA) : TI := fun σ H W => ta σ H fun vs G => ∃ (S R : Sc) (xs ys : List V), vs = [S.val, R.val] ∧ S.Has K G xs ∧ R.Has K G ys ∧ W (ItG K S R) G
theorem pi_zipG {X : Cx} {e e2 : Expr} {ta : TA} {p pos tpos : Pos} {elts : List Expr} {kk : Nat} (hg : Gl X "zip") (hm : X.mg "zip" = none) (ha : PA X [e, e2] ta)
    (hs : starEach [e, e2] X.env = (false, eval e X.env) :: starEach [e2] X.env := by rfl) (hpl : (backTo pos (starEach [e2] X.env)).any (·.1) = false := by rfl) :
    PI X (.Tuple elts kk tpos) (.Call (.Name "zip" p) [e, e2] [] pos) (iZipG X.K ta) := by
  refine ⟨fun pins s σ H W I h => ?_⟩
  refine Call_ (ld_blt I hg hm PyProof.Rows.boot_zip (PyProof.Rows.callWith_type1 (thn (ha.run pos pins s σ H _ I h) fun us s1 ⟨vs, G, I1, r1, q1⟩ => ?_) hs hpl))
  obtain ⟨S, R, xs, ys, ex, gx, gy, q⟩ := q1
  subst ex
  cases r1 with
  | cons ru rr =>
  cases rr with
  | cons rv rr =>
    cases rr
    obtain ⟨as, sx, _, ox, _⟩ := Sc.src I1 gx
    obtain ⟨bs, sy, _, oy, _⟩ := Sc.src I1 gy
    obtain ⟨t1, B1⟩ := Sc.start S as ru
    obtain ⟨t2, B2⟩ := Sc.start R bs rv
    refine zip_begins2 B1 B2 sx sy fun h2 b1 b2 b3 b4 b5 _ b7 => wpAny_pyIter_zip b1 ?_
    have I2 : Inv X pins σ G { s1 with heap := h2 } := I1.kept (t' := s1.toks) b7
    have ap := apart_of ox oy
    have st0 := (⟨b1, b2, ⟨_, _, b3⟩, Sc.zero b4, Sc.zero b5⟩ : IsZip h2 (s1.heap.objs.size + 4) (s1.heap.objs.size + 2) (s1.heap.objs.size + 3) .none ∧ IsTupOf2 h2 (s1.heap.objs.size + 2) (.ref s1.heap.objs.size) (.ref (s1.heap.objs.size + 1)) ∧ (∃ x y, IsTupOf2 h2 (s1.heap.objs.size + 3) x y) ∧ S.It t1 h2 s1.heap.objs.size 0 ∧ R.It t2 h2 (s1.heap.objs.size + 1) 0)
    refine ⟨s1.heap.objs.size + 4, [s1.heap.objs.size + 4, s1.heap.objs.size + 2, s1.heap.objs.size + 3, s1.heap.objs.size, s1.heap.objs.size + 1], _, _, G, rfl, I2, turnG (t1 := t1) (t2 := t2) ap, st0, fun c hc => ?_, q⟩
    have le : s1.heap.objs.size ≤ c := by
      simp only [List.mem_cons, List.not_mem_nil, or_false] at hc
      rcases hc with q | q | q | q | q <;> rw [q]
      · exact Nat.le_add_right _ _
      · exact Nat.le_add_right _ _
      · exact Nat.le_add_right _ _
      · exact Nat.le_refl _
      · exact Nat.le_add_right _ _
    exact I1.fpOk le (I1.hok.fresh le)
theorem walkG {K : PySem.W.Frag} {S R : Sc} {xs ys : List V} (hl : xs.length = ys.length) : Walk (ItG K S R) xs.length (fun H => S.Has K H xs ∧ R.Has K H ys) (YPair (fun i => xs[i]?) (fun i => ys[i]?)) :=
  ⟨fun k H hk g => ⟨xs, ys, g.1, g.2, hk, hl ▸ hk⟩, fun H g => ⟨xs, ys, g.1, g.2, Nat.le_refl _, Nat.le_of_eq hl, .inl rfl⟩, fun k H v G hk g y => by
    obtain ⟨T, x, z, e1, e2, e3, e4, e5⟩ := y
    exact ⟨T, x, z, e1, e2, e3, e4 xs g.1, e5 ys g.2⟩⟩
end ZG
/-! d.get(k) and d[k] of a dict that the module's top has written; one of two readings -/
namespace KG
open PySem PySem.Spec PyProof.Rows L2
/-- a dict of the top with texts as keys -/
def KIs (K : PySem.W.Frag) (w : World) (p : Addr) : Prop := ∃ es n, K.lookup p = some ⟨.type "dict", none, .dict es n, #[]⟩ ∧ PySem.W.KeysLit w.params es.toList ∧ (p == sysModules) = false
/-- what it has at a text -/
def KAt (K : PySem.W.Frag) (p : Addr) (z : Str) (o : Option V) : Prop := match o with
  | none => PySem.W.nsIn K p z = some none
  | some v => ∃ u, PySem.W.nsIn K p z = some (some u) ∧ RelV v u
theorem KIs.dct {K : PySem.W.Frag} {w : World} {p : Addr} {z : Str} {v : V} (k : KIs K w p) (h : KAt K p z (some v)) : KDct K w p z v := by
  obtain ⟨es, n, hl, lit, _⟩ := k
  obtain ⟨u, e, r⟩ := h
  exact ⟨es, n, u, hl, lit, e, r⟩
def tKGet (K : PySem.W.Frag) (w : World) (td ty : TE) : TE := fun σ H Q => td σ H fun x H1 => ∃ p, x = .ref p ∧ KIs K w p ∧ ty σ H1 fun y H2 => ∃ z o, y = .str z ∧ KAt K p z o ∧ Q (o.getD .non) H2
section
variable {X : Cx} {o e : Expr} {apos cpos : Pos} {td ty : TE}
theorem pe_kget (ho : PE X o td) (he : PE X e ty) (m : M1 X o "get" apos e cpos) : PE X (.Call (.Attribute o "get" apos) [e] [] cpos) (tKGet X.K X.w td ty) := by
  refine ⟨fun pins s σ H Q I h => ?_⟩
  refine wpAny_Call_method m.base m.few m.line PySem.F.plainAttrs_dict PySem.F.slot_dict_get PySem.F.type_dict_get (thn (ho.run pins s σ H _ I h) fun u s1 ⟨x, H1, I1, rx, a, ex, kd, q1⟩ => ?_)
  subst ex
  obtain rfl : u = Value.ref a := rx
  obtain ⟨es, n, hl, lit, hd⟩ := kd
  have hm1 := PySem.W.mapOf_K (prog := X.prog) (w := X.w) I1.kIn hl lit
  refine ⟨hm1.typeIs, fun b q => ⟨_, by cases q; exact I1.kIn _ _ hl, rfl⟩, ?_⟩
  rw [m.trees]
  refine Calls.callWith_builtin rfl (Calls.evalArgs_plain (Calls.spliced_cons (thn (he.run pins s1 σ H1 _ I1 q1) fun iv s2 ⟨y, H2, I2, ry, z, ov, ey, ka, q2⟩ => Calls.spliced_nil ?_)))
  subst ey
  obtain ⟨t, rfl⟩ := (show ∃ t, iv = Value.str z t from ry)
  have hm := PySem.W.mapOf_K (prog := X.prog) (w := X.w) I2.kIn hl lit
  refine call_meetsIn PySem.F.slot_dict_get hm.typeIs PySem.F.entry_dict_get (PySem.F.args_dict_get_2 _ _) (meets_dict_get (strKind X.prog X.w) a (strKind_is X.prog X.w z t) hd) ⟨_, hm, ?_⟩
  cases ov with
  | none =>
    rw [PySem.W.find_K hl ka]
    exact ⟨.non, H2, I2.tok _, rfl, q2⟩
  | some v =>
    obtain ⟨u, e, r⟩ := ka
    rw [PySem.W.find_K hl e]
    exact ⟨v, H2, I2.tok _, r, q2⟩
end
/-! one of two -/
section
variable {X : Cx}
theorem pe_or {e : Expr} {t1 t2 : TE} (h1 : PE X e t1) (h2 : PE X e t2) : PE X e (fun σ H Q => t1 σ H Q ∨ t2 σ H Q) :=
  ⟨fun pins s σ H Q I h => h.elim (h1.run pins s σ H Q I) (h2.run pins s σ H Q I)⟩
theorem pi_or {tg e : Expr} {w1 w2 : TI} (h1 : PI X tg e w1) (h2 : PI X tg e w2) : PI X tg e (fun σ H R => w1 σ H R ∨ w2 σ H R) :=
  ⟨fun pins s σ H R I h => h.elim (h1.run pins s σ H R I) (h2.run pins s σ H R I)⟩
theorem call_or {f : Value} {r1 r2 : List V → Hp → VK → Prop} (h1 : CallR X f r1) (h2 : CallR X f r2) : CallR X f (fun xs H Q => r1 xs H Q ∨ r2 xs H Q) :=
  fun pins s σ H xs us Q I r h => h.elim (h1 pins s σ H xs us Q I r) (h2 pins s σ H xs us Q I r)
end
end KG
section
open PySem PySem.Builtin.Str
theorem take_lt {f : Nat → Bool} : ∀ {l : List Nat}, (∃ c ∈ l, f c = false) → (l.takeWhile f).length < l.length
  | [], h => by
    obtain ⟨c, hc, _⟩ := h
    cases hc
  | x :: r, h => by
    rw [List.takeWhile_cons]
    cases hx : f x with
    | false => simp
    | true =>
      obtain ⟨c, hc, e⟩ := h
      have hr : c ∈ r := by
        rcases List.mem_cons.mp hc with rfl | hc
        · rw [hx] at e
          cases e
        · exact hc
      have := take_lt (f := f) (l := r) ⟨c, hr, e⟩
      simp only [if_true, List.length_cons]
      omega
theorem take_whole {f : Nat → Bool} : ∀ {l : List Nat}, (∀ c ∈ l, f c = true) → l.takeWhile f = l
  | [], _ => rfl
  | x :: r, h => by
    rw [List.takeWhile_cons, h x (List.mem_cons_self ..), if_pos rfl, take_whole fun c hc => h c (List.mem_cons_of_mem _ hc)]
theorem take_drop_no {f : Nat → Bool} : ∀ {l : List Nat}, (∃ c ∈ l, f c = false) → ∃ c ∈ l.drop (l.takeWhile f).length, f c = false
  | [], h => by
    obtain ⟨c, hc, _⟩ := h
    cases hc
  | x :: r, h => by
    rw [List.takeWhile_cons]
    cases hx : f x with
    | false => exact ⟨x, List.mem_cons_self .., hx⟩
    | true =>
      obtain ⟨c, hc, e⟩ := h
      have hr : c ∈ r := by
        rcases List.mem_cons.mp hc with rfl | hc
        · rw [hx] at e
          cases e
        · exact hc
      obtain ⟨c2, h2, e2⟩ := take_drop_no (f := f) (l := r) ⟨c, hr, e⟩
      exact ⟨c2, by simpa using h2, e2⟩
/-- a text whose signs are all struck off at the ends -/
theorem strip_empty (z b : Str) : (Txt.stripChars z b = (⟨#[]⟩ : Str)) ↔ ∀ c ∈ z.cps.toList, b.cps.contains c = true := by
  have hz : z.length = z.cps.toList.length := (Array.length_toList (xs := z.cps)).symm
  constructor
  · intro h
    by_cases ha : ∀ c ∈ z.cps.toList, b.cps.contains c = true
    · exact ha
    · exfalso
      have hn : ∃ c ∈ z.cps.toList, b.cps.contains c = false := by
        apply Classical.byContradiction
        intro hno
        apply ha
        intro c hc
        cases e : b.cps.contains c with
        | true => rfl
        | false => exact absurd ⟨c, hc, e⟩ hno
      have l1 := take_lt hn
      have l2 := take_lt (f := b.cps.contains) (l := (z.cps.toList.drop (z.cps.toList.takeWhile b.cps.contains).length).reverse) (by
        obtain ⟨c, hc, e⟩ := take_drop_no hn
        exact ⟨c, List.mem_reverse.mpr hc, e⟩)
      rw [List.length_reverse, List.length_drop] at l2
      unfold Txt.stripChars Txt.stripBy at h
      split at h
      · have : z.cps.toList.length = 0 := by rw [h]; rfl
        omega
      · have h3 := congrArg (fun s : Str => s.cps.size) h
        simp only [stripped, strSub, Array.size_extract, stripLo, stripHi, if_true] at h3
        have hs : z.cps.size = z.cps.toList.length := (Array.length_toList (xs := z.cps)).symm
        have he : (#[] : Array Nat).size = 0 := rfl
        rw [he] at h3
        omega
  · intro ha
    have e1 := take_whole ha
    have lo : stripLo b.cps.contains true z = z.cps.toList.length := by
      unfold stripLo
      rw [if_pos rfl, e1]
    have hi : stripHi b.cps.contains true z (z.cps.toList.length) = z.cps.toList.length := by
      unfold stripHi
      rw [if_pos rfl, List.drop_length]
      exact hz
    unfold Txt.stripChars Txt.stripBy
    split
    next h =>
      unfold stripSame at h
      rw [lo, hi] at h
      simp only [Bool.and_eq_true, beq_iff_eq] at h
      have hl : z.cps.toList = [] := List.length_eq_zero_iff.mp h.1
      cases z with
      | mk cps =>
        have : cps = #[] := Array.toList_inj.mp hl
        rw [this]
    next h =>
      unfold stripped
      rw [lo, hi]
      unfold strSub
      have : z.cps.extract z.cps.toList.length z.cps.toList.length = #[] := by
        apply Array.toList_inj.mp
        simp
      rw [this]
end
section
open PySem PySem.Spec PyProof.Rows L2
variable {X : Cx}
/-- d.update(e), both dicts of ints and texts for keys -/
def rUpdK : V → List V → Hp → VK → Prop := fun x xs H Q => ∃ (d o : Addr) (kvs more : List (Key × V)), x = .ref d ∧ xs = [.ref o] ∧ d ≠ o ∧ H d = some (.dK kvs) ∧ H o = some (.dK more) ∧ kvs.length + more.length ≤ sizeLine ∧ Q .non (upd H d (.dK (mergeK kvs more)))
theorem mt_updK : MtM X "dict.update" rUpdK := by
  intro pins s σ H x xs v us Q I rx rv h
  obtain ⟨d, o, kvs, more, rfl, rfl, hne, hd, ho, hz, q⟩ := h
  cases rx
  obtain rfl := Vals.ref1 rv
  obtain ⟨z1, lo1, vs, rel, dd⟩ := dk_of I.hok hd
  obtain ⟨z2, lo2, rs, rel2, dd2⟩ := dk_of I.hok ho
  refine call_meetsIn PySem.F.slot_dict_update dd.typeIs PySem.F.entry_dict_update (PySem.F.args_dict_update_2 _ _) (meets_dict_update (mixKind X.prog X.w) d o hne lo2) ⟨vs, rs, dd, dd2, (by rw [← rel.length, ← rel2.length]; exact hz), fun h' hmm _ hs => ?_⟩
  have hz' : (mergeK kvs more).length ≤ sizeLine := Nat.le_trans (length_mergeK more kvs) hz
  have he : ∃ q, h'.get? d = some q := let ⟨q, _, _, hq, _⟩ := hmm; ⟨q, hq⟩
  exact ⟨.non, _, d_write I (by rw [hd]; exact True.intro) hs he (dk_new hz' lo1 (rel2.merge rel) hmm), rfl, q⟩
end
section
open PySem PySem.Spec PyProof.Rows L2
/-- a caught exception that is kept: of the class cls, its dict d -/
def ExK (cls : Value) (d : Option Addr) (a : Addr) : HO := .ext fun h => ∃ (oe : Obj) (vs : Array Value), h.get? a = some oe ∧ Zc cls d oe ∧ oe.data = .fields vs
theorem exK_ok {P : Program} {w : World} {H : Hp} {h : Heap} {a : Addr} {cls : Value} {d : Option Addr} {oe : Obj} {vs : Array Value} (e : h.get? a = some oe) (z : Zc cls d oe) (hd : oe.data = .fields vs) : ObjOk P w H h a (ExK cls d a) :=
  ⟨⟨oe, vs, e, z, hd⟩, ⟨oe, e⟩, fun h1 h2 ⟨o, vs, e, z, hd⟩ k => ⟨o, vs, k _ e, z, hd⟩⟩
theorem exK_at {P : Program} {w : World} {H : Hp} {h : Heap} {a : Addr} {cls : Value} {d : Option Addr} (hok : HOk P w H h) (e : H a = some (ExK cls d a)) : ∃ (oe : Obj) (vs : Array Value), h.get? a = some oe ∧ Zc cls d oe ∧ oe.data = .fields vs := by
  obtain ⟨x, _⟩ := hok a _ e
  exact x
section
variable {X : Cx} {pins : List (Addr × Obj)} {σ : L2.St} {H : Hp} {s sI : Shared} {B : Heap}
/-- an exception that has landed, tracked -/
theorem inv_track {a : Addr} {o : HO} (J : Inv X pins σ H sI) (I : Inv X pins σ H s) (nI : sI.heap.get? a = none) (na : H a = none) (nL : a ≠ X.env.locals) (new : ObjOk X.prog X.w (upd H a o) s.heap a o) : Inv X pins σ (upd H a o) s := by
  refine ⟨I.ok, I.os, I.bare, ⟨I.base.keep, I.base.slot, fun b ob e n hx => ?_, I.base.there, fun b xs e => ?_, fun b ob u e => ?_, fun b ps e => ?_⟩, I.loc, I.cell, ?_, fun y c e => ?_, fun p hp => ?_, fun b u e => ?_, I.len⟩
  · rw [upd_ne (fun z => by
      subst z
      obtain ⟨o', e'⟩ := J.base.there _ _ e hx
      rw [nI] at e'; cases e')]
    exact I.base.free b ob e n hx
  · have z := I.base.tups b xs e
    rw [upd_ne (ne_of_none z na)]; exact z
  · have z := I.base.frzs b ob u e
    rw [upd_ne (ne_of_none z na)]; exact z
  · obtain ⟨m, z⟩ := I.base.tbls b ps e
    exact ⟨m, by rw [upd_ne (ne_of_none z na)]; exact z⟩
  · rw [upd_ne (fun z => nL z.symm)]; exact I.free
  · obtain ⟨v, z⟩ := J.cell y c e
    rw [upd_ne (fun q => by
      subst q
      obtain ⟨o', e', _⟩ := z
      rw [nI] at e'; cases e')]
    exact I.freeC y c e
  · obtain ⟨e1, e2, e3, e4, e5⟩ := I.pin p hp
    refine ⟨e1, ?_, e3, e4, e5⟩
    rw [upd_ne (fun q => by
      have z := (J.pin p hp).1
      rw [q, nI] at z; cases z)]
    exact e2
  · by_cases hb : b = a
    · subst hb
      rw [upd_same] at e
      cases e
      exact new
    · rw [upd_ne hb] at e
      exact (I.hok b u e).stay (fun c v _ q => q) (fun c q => by rw [upd_ne (ne_of_none q na)]; exact q) fun c xs q => by rw [upd_ne (ne_of_none q na)]; exact q
theorem inv_suiteK (I : Inv X pins σ H s) (a : Addr) : Inv (X.suite a (X.pn ++ pins)) [] σ H s where
  ok := I.ok.suite _ _
  os := I.os
  bare := I.bare
  base := I.base
  loc := I.loc
  cell := I.cell
  free := I.free
  freeC := I.freeC
  pin := fun p hp => I.pin p (by simpa using hp)
  hok := I.hok
  len := I.len
theorem inv_unsuiteK {a : Addr} {pn' : List (Addr × Obj)} (I : Inv (X.suite a (X.pn ++ pins)) pn' σ H s) (ok : X.Ok) : Inv X pins σ H s where
  ok := ok
  os := I.os
  bare := I.bare
  base := I.base
  loc := I.loc
  cell := I.cell
  free := I.free
  freeC := I.freeC
  pin := fun p hp => I.pin p (List.mem_append.mpr (.inl hp))
  hok := I.hok
  len := I.len
end
/-- an exception that came down from a try's body: B its ground, sI the state ahead of it, t the state now -/
structure Down (X : Cx) (pins : List (Addr × Obj)) (σ : L2.St) (H : Hp) (cls : Value) (d : Option Addr) (a : Addr) (B : Heap) (sI t : Shared) : Prop where
  inv : Inv X pins σ H sI
  gr : ∀ b o, sI.heap.get? b = some o → b ∉ frs X.stack → B.get? b = some o
  up : sI.heap.UpToSlots t.heap
  fl : HandSPX.FlyingZ B (X.env :: X.outer) a (Zc cls d) t.heap
  na : H a = none
  so : t.os = sI.os
  ag : AllBare t.gens
section
variable {X : Cx} {pins : List (Addr × Obj)} {σ : L2.St} {H : Hp} {cls : Value} {d : Option Addr} {a : Addr} {B : Heap} {sI t : Shared}
theorem Down.here (z : Down X pins σ H cls d a B sI t) : Inv X pins σ H t := z.inv.landed z.gr z.fl.1 z.up z.so z.ag
theorem Down.again (z : Down X pins σ H cls d a B sI t) {h : Heap} (f : HandSPX.FlyingZ B (X.env :: X.outer) a (Zc cls d) h) (u : t.heap.UpToSlots h) : Down X pins σ H cls d a B sI { t with heap := h } :=
  ⟨z.inv, z.gr, z.up.trans u, f, z.na, z.so, z.ag⟩
theorem Down.apart (z : Down X pins σ H cls d a B sI t) : a ∉ frs (X.env :: X.outer) := fun hm => by
  obtain ⟨oe, vs, he, _, hd⟩ := z.fl.there
  obtain ⟨_, o2, e2, no⟩ := z.fl.2.2.1.mem hm
  exact no vs (by rw [he] at e2; cases e2; exact hd)
theorem Down.nloc (z : Down X pins σ H cls d a B sI t) (hf : X.env.frame = some X.env.locals) : a ≠ X.env.locals := fun q => by
  refine z.apart ?_
  rw [q]
  exact List.mem_filterMap.mpr ⟨X.env, .head _, hf⟩
theorem Down.new (z : Down X pins σ H cls d a B sI t) (hs : X.stack = X.env :: X.outer) : sI.heap.get? a = none := by
  have n := z.apart
  rw [← hs] at n
  have nB : B.get? a = none := z.fl.2.1
  by_cases q : sI.heap.get? a = none
  · exact q
  · obtain ⟨o, e⟩ := Option.ne_none_iff_exists'.mp q
    rw [z.gr a o e n] at nB
    cases nB
theorem Down.kept (z : Down X pins σ H cls d a B sI t) (hs : X.stack = X.env :: X.outer) (hf : X.env.frame = some X.env.locals) : Inv X pins σ (upd H a (ExK cls d a)) t := by
  obtain ⟨oe, vs, he, hz, hd⟩ := z.fl.there
  exact inv_track z.inv z.here (z.new hs) z.na (z.nloc hf) (exK_ok he hz hd)
/-- the class of a clause, asked of it -/
theorem Down.asks {x : Str} {c : Value} {b : Bool} {np : Pos} {Q : Bool → Shared → Prop} {E : Value → Shared → Prop} (z : Down X pins σ H cls d a B sI t) (hc : Names X x c) (hb : PySem.W.exmOne X.K cls c = some b) (q : Q b t) :
    wpAny (model X.prog X.w) (X.A.mark (some (.ref a))) (eval (.Name x np) X.env) (fun v s1 => wpAny (model X.prog X.w) (X.A.mark (some (.ref a))) (excMatches (.ref a) v) Q E s1) E t := by
  obtain ⟨oe, vs, he, hz, hd⟩ := z.fl.there
  have ty : PySem.W.Looks (model X.prog X.w) t.heap (typeOf (.ref a)) cls := by
    intro A Q E s k q
    exact wpAny_typeOf_ref (k _ _ he) (hz.1 ▸ q)
  have m := (PySem.W.exm_one (M := model X.prog X.w) z.here.kIn ty hb).here (A := X.A.mark (some (.ref a))) (E := E) q
  have S := inv_suiteK z.here a
  obtain ⟨g, nd, h | ⟨h, v, nn⟩⟩ := hc
  · exact ld_glob S g h m nd
  · exact ld_blt S g h v m nn nd
end
/-- where a suite ends, its name gone -/
def offAt (i : Nat) (D : Ends) : Ends where
  nx := fun σ H => D.nx (σ.set i none) H
  rt := D.rt
  bk := fun σ H => D.bk (σ.set i none) H
  ct := fun σ H => D.ct (σ.set i none) H
/-- the clauses of a try: except x as n (its slot), or except x -/
inductive HK (X : Cx) : List ExceptHandler → List (Value × Option Nat × (Addr → Value → Option Addr → TS)) → Prop
  | nil : HK X [] []
  | named {x n : Str} {c : Value} {i : Nat} {ts : Addr → Value → Option Addr → TS} {b0 : Stmt} {suite : List Stmt} {np pos : Pos} {hds : List ExceptHandler} {l : List (Value × Option Nat × (Addr → Value → Option Addr → TS))}
      (hc : Names X x c) (hi : X.N[i]? = some n) (hk : X.env.kindOf n = some .local) (su : ∀ (a : Addr) (cls : Value) (d : Option Addr) (pn : List (Addr × Obj)), PSs (X.suite a pn) (b0 :: suite) (ts a cls d)) (r : HK X hds l) :
      HK X (.ExceptHandler (some (.Name x np)) (some n) (b0 :: suite) pos :: hds) ((c, some i, ts) :: l)
  | bare {x : Str} {c : Value} {ts : Addr → Value → Option Addr → TS} {b0 : Stmt} {suite : List Stmt} {np pos : Pos} {hds : List ExceptHandler} {l : List (Value × Option Nat × (Addr → Value → Option Addr → TS))}
      (hc : Names X x c) (su : ∀ (a : Addr) (cls : Value) (d : Option Addr) (pn : List (Addr × Obj)), PSs (X.suite a pn) (b0 :: suite) (ts a cls d)) (r : HK X hds l) :
      HK X (.ExceptHandler (some (.Name x np)) none (b0 :: suite) pos :: hds) ((c, none, ts) :: l)
/-- what the clauses wish of an exception of the body -/
def wHK (K : PySem.W.Frag) (W : WX) (D : Ends) : List (Value × Option Nat × (Addr → Value → Option Addr → TS)) → WX
  | [] => W
  | (c, some i, ts) :: l => fun cls d σ H => ∃ b, PySem.W.exmOne K cls c = some b ∧ (b = true → ∀ a, H a = none → ts a cls d (offAt i D) (σ.set i (some (.ref a))) (upd H a (ExK cls d a))) ∧ (b = false → wHK K W D l cls d σ H)
  | (c, none, ts) :: l => fun cls d σ H => ∃ b, PySem.W.exmOne K cls c = some b ∧ (b = true → ∀ a, H a = none → ts a cls d D σ (upd H a (ExK cls d a))) ∧ (b = false → wHK K W D l cls d σ H)
section
variable {X : Cx} {W : WX} {D : Ends} {hds : List ExceptHandler} {l : List (Value × Option Nat × (Addr → Value → Option Addr → TS))}
theorem handledK (hs : X.stack = X.env :: X.outer) (hf : X.env.frame = some X.env.locals) (hN : X.N.Nodup) (tk : Takes X W) (hh : HK X hds l) :
    ∀ {pins : List (Addr × Obj)} {σ : L2.St} {H : Hp} {cls : Value} {d : Option Addr} {a : Addr} {B : Heap} {sI t : Shared}, Down X pins σ H cls d a B sI t → wHK X.K W D l cls d σ H →
      wpAny (model X.prog X.w) X.A (handleBy (.ref a) X.env hds) (SP X pins D) X.xe t := by
  induction hh with
  | nil =>
    intro pins σ H cls d a B sI t z w
    have go : wpAny (model X.prog X.w) X.A (setFlight (.ref a) X.env.frame) (fun _ s4 => wpAny (model X.prog X.w) X.A (throw (.ref a) : Sem Flow) (SP X pins D) X.xe s4) X.xe t := by
      rw [hf]
      refine HandSPX.setFlight_upZ z.fl fun h hh u => ?_
      refine wpAny_throw (tk _ _ ?_)
      exact ⟨a, B, sI, pins, σ, H, cls, d, rfl, z.inv, z.gr, z.up.trans u, .inr (.inr (hs ▸ hh)), z.na, z.so, z.ag, w⟩
    obtain ⟨_, _, _, oe, vs, T, _, _, he, _, hd, h1, _⟩ := id z.fl
    apply wpAny_handleBy_nil
    unfold PySem.passOn
    apply wpAny_bind
    apply wpAny_field he hd h1
    rw [if_neg (by simp)]
    first
      | exact wpAny_bind (wpAny_pure (wpAny_bind go))
      | exact wpAny_bind go
  | @named x n c i ts b0 suite np pos hds l hc hi hk su r ih =>
    intro pins σ H cls d a B sI t z w
    obtain ⟨b, hb, yes, no⟩ := w
    refine wpAny_handleBy_cons (codeAny_handlers_test (z.asks hc hb ?_)) fun q => by cases q
    cases b with
    | false => exact ih z (no rfl)
    | true =>
      refine codeAny_handlers_suite_as (HandSPX.lands_againZ z.fl fun h f u => ?_)
      have S := inv_suiteK ((z.again f u).kept hs hf) a
      refine store_ok (X := X.suite a (X.pn ++ pins)) (v := .ref a) S hN hi (.inl hk) rfl (fun s5 S5 => ?_) (.inr hk)
      refine wpAny_mono ((su a cls d (X.pn ++ pins)).run [] s5 _ _ _ S5 (yes rfl a z.na)) (fun fl s6 e6 => ?_) fun _ _ q => q.elim
      cases fl with
      | next => obtain ⟨σ6, H6, S6, q6⟩ := e6; exact gone_ok (inv_unsuiteK S6 z.inv.ok) hN hi hk fun s7 J7 => ⟨_, _, J7, q6⟩
      | brk => obtain ⟨σ6, H6, S6, q6⟩ := e6; exact gone_ok (inv_unsuiteK S6 z.inv.ok) hN hi hk fun s7 J7 => ⟨_, _, J7, q6⟩
      | cont => obtain ⟨σ6, H6, S6, q6⟩ := e6; exact gone_ok (inv_unsuiteK S6 z.inv.ok) hN hi hk fun s7 J7 => ⟨_, _, J7, q6⟩
      | ret u => obtain ⟨v6, σ6, H6, S6, r6, q6⟩ := e6; exact gone_ok (inv_unsuiteK S6 z.inv.ok) hN hi hk fun s7 J7 => ⟨_, _, _, J7, r6, q6⟩
  | @bare x c ts b0 suite np pos hds l hc su r ih =>
    intro pins σ H cls d a B sI t z w
    obtain ⟨b, hb, yes, no⟩ := w
    refine wpAny_handleBy_cons (codeAny_handlers_test (z.asks hc hb ?_)) fun q => by cases q
    cases b with
    | false => exact ih z (no rfl)
    | true =>
      refine codeAny_handlers_suite (HandSPX.lands_againZ z.fl fun h f u => ?_)
      have S := inv_suiteK ((z.again f u).kept hs hf) a
      refine wpAny_mono ((su a cls d (X.pn ++ pins)).run [] _ _ _ _ S (yes rfl a z.na)) (fun fl s6 e6 => ?_) fun _ _ q => q.elim
      cases fl with
      | next => obtain ⟨σ6, H6, S6, q6⟩ := e6; exact ⟨_, _, inv_unsuiteK S6 z.inv.ok, q6⟩
      | brk => obtain ⟨σ6, H6, S6, q6⟩ := e6; exact ⟨_, _, inv_unsuiteK S6 z.inv.ok, q6⟩
      | cont => obtain ⟨σ6, H6, S6, q6⟩ := e6; exact ⟨_, _, inv_unsuiteK S6 z.inv.ok, q6⟩
      | ret u => obtain ⟨v6, σ6, H6, S6, r6, q6⟩ := e6; exact ⟨_, _, _, inv_unsuiteK S6 z.inv.ok, r6, q6⟩
/-- try: body, any clauses; what is caught stays known behind the suite -/
theorem ps_tryK {body : List Stmt} {h0 : ExceptHandler} {pos : Pos} {tb : WX → TS} (hs : X.stack = X.env :: X.outer) (hf : X.env.frame = some X.env.locals) (hN : X.N.Nodup) (tk : Takes X W) (hh : HK X (h0 :: hds) l)
    (hb : ∀ (V : WX) (pn : List (Addr × Obj)) (xe : Value → Shared → Prop), Takes (X.tr pn xe) V → PassesOwn (model X.prog X.w) X.A X.env xe → PSs (X.tr pn xe) body (tb V)) :
    PS X (.Try body (h0 :: hds) [] [] pos) (fun D σ H => tb (wHK X.K W D l) D σ H) := by
  constructor
  intro pins s σ H D I h
  have fr : X.A.frames = some (X.env :: X.outer) := hs ▸ I.ok.frames
  apply wpAny_Try_except
  let xe : Value → Shared → Prop := fun e s1 => wpAny (model X.prog X.w) X.A (noteFrame e X.env) (fun _ s2 => wpAny (model X.prog X.w) X.A (setFlight e none) (fun _ s3 =>
    wpAny (model X.prog X.w) X.A (handleBy e X.env (h0 :: hds)) (SP X pins D) X.xe s3) X.xe s2) X.xe s1
  have T : Takes (X.tr (X.pn ++ pins) xe) (wHK X.K W D l) := fun u t y => by
    obtain ⟨a, B, sI, _, σ1, H1, cls, d, rfl, J, gr, up, sky, na, so, ag, w⟩ := y
    have sky1 : Sky B (X.env :: X.outer) a (Zc cls d) X.env.locals t.heap := hs ▸ sky
    exact Sky.land Zc.steady fr hf sky1 fun h3 f3 u3 => handledK hs hf hN tk hh ⟨J.ofTry I.ok, gr, up.trans u3, f3, na, so, ag⟩ w
  refine wpAny_mono ((hb (wHK X.K W D l) (X.pn ++ pins) xe T PassesOwn.looking).run [] s σ H D (I.toTry _) h) (fun f s1 e => ?_) fun _ _ q => q
  cases f with
  | next => obtain ⟨σ1, H1, J, q⟩ := e; exact wpAny_execs_nil ⟨σ1, H1, J.ofTry I.ok, q⟩
  | brk => obtain ⟨σ1, H1, J, q⟩ := e; exact ⟨σ1, H1, J.ofTry I.ok, q⟩
  | cont => obtain ⟨σ1, H1, J, q⟩ := e; exact ⟨σ1, H1, J.ofTry I.ok, q⟩
  | ret u => obtain ⟨v, σ1, H1, J, r, q⟩ := e; exact ⟨v, σ1, H1, J.ofTry I.ok, r, q⟩
end
/-- e.f of a kept exception -/
def tXk (C : Addr) (f : Str) (te : TE) : TE := fun σ H Q => te σ H fun x H1 => ∃ (a dd : Addr) (fs : List (Str × V)) (v : V), x = .ref a ∧ H1 a = some (ExK (.ref C) (some dd) a) ∧ H1 dd = some (.xd fs) ∧ fs.lookup f = some v ∧ Q v H1
theorem pe_xk {X : Cx} {C : Addr} {e : Expr} {te : TE} {pos : Pos} {n : Str} (T : XfC X.K C) (hno : PySem.W.findIn X.K (.ref C) n = some none) (he : PE X e te) (hb : attributeBase e n X.env (eval e X.env) = eval e X.env := by rfl) :
    PE X (.Attribute e n pos) (tXk C n te) := by
  constructor
  intro pins s σ H Q I h
  apply attr_of hb
  refine thn (he.run pins s σ H _ I h) ?_
  rintro u s1 ⟨x, H1, I1, rx, a, dd, fs, v, rfl, ek, ea, l, q⟩
  cases rx
  obtain ⟨oe, vs, there, ⟨zc, zd⟩, fv⟩ := exK_at I1.hok ek
  obtain ⟨mA, ns, rel⟩ : ∃ mA, s1.heap.Ns1 dd mA ∧ ∀ g, RelO (fs.lookup g) (mA g) := I1.hok dd _ ea
  obtain ⟨od, look, found⟩ := lookIn_ns ns
  have rv := rel n
  rw [l] at rv
  obtain ⟨u, mu, ru⟩ := RelO.some_of rv
  have no : PySem.W.notCls oe = true := by unfold PySem.W.notCls; rw [fv] <;> rfl
  have at_ : PySem.W.InstAt s1.heap a oe C (some od) := ⟨there, zc, no, by rw [zd]; exact look⟩
  have own := PySem.W.findObj_own (K := X.K) (C := C) (od := od) (name := n) (v := u) T.hdC hno rfl ((found n).trans (congrArg some mu))
  exact HandSPX.exc_get I1.kIn at_ T.ga T.gg T.exC own (handed_of ru) ⟨v, H1, I1.tok _, ru, q⟩
/-- a method called where an exception of it is awaited, by the slots as they stand -/
def tMethS (C : Addr) (m : Str) (sp : Sp) (E : L2.St → XK) (ta : TE) (t : TA) : TE := fun σ H Q => ta σ H fun x H1 => ∃ a dx fs, x = .ref a ∧ H1 a = some (.ins C dx fs) ∧ fs.lookup m = none ∧ t σ H1 fun vs H2 => sp (.ref a :: vs) H2 Q (E σ)
theorem pe_methS {X : Cx} {CX : CXT} {k : Nat} {f C : Addr} {fd : FuncData} {ps : List Str} {sp : Sp} {E : L2.St → XK} {m : Str} {pos apos : Pos} {e o : Expr} {es : List Expr} {ta : TE} {t : TA} {pl : Sem Bool} (he : PE X o ta) (c : Cls X.K C) (hm : Meth X.K C m f)
    (F : FnOk X.prog X.w X.K X.mg X.base CX k f fd ps sp) (hr : Room k X.A) (hb : Binds X.K fd ps []) (hx : ∀ σ, PassesAt CX X σ (E σ)) (ha : PA X (e :: es) t) (hst : starEach (e :: es) X.env = (false, eval e X.env) :: starEach es X.env := by rfl)
    (hpl : (backTo pos (starEach es X.env)).any (·.1) = false := by rfl)
    (ht : eval (.Call (.Attribute o m apos) (e :: es) [] pos) X.env = (do let ov ← eval o X.env; standAt apos.atName; let (f, first) ← holding [ov] (getMethod ov m pl); callWith pos f first (backTo pos (starEach (e :: es) X.env)) (backToKw pos (keywordEach [] X.env))) := by rfl) :
    PE X (.Call (.Attribute o m apos) (e :: es) [] pos) (tMethS C m sp E ta t) := by
  constructor
  intro pins s σ H Q I h
  refine PySem.W.methodCall_KW (pl := pl) (thn (he.run pins s σ H _ I h) ?_) ht
  rintro u s1 ⟨x, H1, I1, rx, a, dx, fs, rfl, ea, l, q⟩
  cases rx
  apply getmeth_ok I1 ea c hm l
  refine PySem.W.callWith_K (first := [.ref a]) (h₀ := X.base) I.ok.mod.kin hm.kp (thn (ha.run pos pins s1 σ H1 _ I1 q) ?_) hst hpl
  rintro us s2 ⟨vs, H2, I2, r, q2⟩
  exact ⟨I2.kIn, run_fnS (us := .ref a :: us) (vs := .ref a :: vs) F hr hb (hx σ) I2 (.cons rfl r) q2⟩
end
section
open PySem PySem.Spec PyProof.Rows L2
/-- isinstance(e, c), e a kept exception of an own class D with a dict -/
def rIsK (K : PySem.W.Frag) : List V → Hp → VK → Prop := fun xs H Q => ∃ (x D dd : Addr) (fs : List (Str × V)) (c : V) (cv : Value) (b : Bool), xs = [.ref x, c] ∧ ExcC K D ∧ H x = some (ExK (.ref D) (some dd) x) ∧ H dd = some (.xd fs) ∧ (∀ u, RelV c u → u = cv) ∧ PySem.W.kitOne K (.ref D) cv = some b ∧ Q (.bl b) H
theorem call_isK {X : Cx} : CallR X (.builtin "isinstance") (rIsK X.K) := by
  intro pins s σ H xs us Q I r h
  obtain ⟨x, D, dd, fs, c, cv, b, rfl, Z, ek, ed, hcv, e, q⟩ := h
  obtain ⟨oe, vs, there, ⟨zc, zd⟩, fv⟩ := exK_at I.hok ek
  obtain ⟨mA, ns, _⟩ : ∃ mA, s.heap.Ns1 dd mA ∧ ∀ g, RelO (fs.lookup g) (mA g) := I.hok dd _ ed
  obtain ⟨od, look, _⟩ := lookIn_ns ns
  have no : PySem.W.notCls oe = true := by unfold PySem.W.notCls; rw [fv] <;> rfl
  have at_ : PySem.W.InstAt s.heap x oe D (some od) := ⟨there, zc, no, by rw [zd]; exact look⟩
  have hcl : (PySem.W.clsIn X.K D).isSome = true := by
    obtain ⟨cd, hc, _⟩ := PySem.W.any_some Z.hd
    rw [hc]; rfl
  match us, r with
  | [_, u], .cons rx (.cons rc .nil) =>
    cases rx
    cases hcv _ rc
    exact PySem.W.kia_one (PySem.W.kitx_exc hcl Z.hg Z.hk Z.hs Z.ha Z.hn Z.ht Z.hm) I.kIn at_ e (fun z => nomatch z) fun tk => ⟨.bl b, H, I.kept (t' := tk) fun _ _ z => z, rfl, q⟩
end
namespace XB
open PySem PySem.Spec PyProof.Rows PySem.Builtin PySem.Builtin.ObjectAttr
/-- what is asked of a built-in error class that own ones stand under: B the one whose __new__ makes them, bm the line of the one they stand under -/
structure Facts (B newId initId : String) (bm : List Value) : Prop where
  base : ∃ bmB, ExcBaseFacts B newId initId bmB
  hB : bm.contains (.type B) = true
  hA : bm.contains (.type "AttributeError") = false
  hN : bm.contains (.type "NameError") = false
  free : ∀ self : Value, refuseLoop self "__setattr__" bm = pure ()
  thing : bm.contains (.type "object") = true
theorem lookupError : Facts "LookupError" "LookupError.__new__" "LookupError.__init__" [.type "LookupError", .type "Exception", .type "BaseException", .type "object"] := ⟨⟨_, PySem.F.excBase_LookupError⟩, by decide +kernel, by decide +kernel, by decide +kernel, fun _ => by kernel_rfl, by decide +kernel⟩
theorem runtimeError : Facts "RuntimeError" "RuntimeError.__new__" "RuntimeError.__init__" [.type "RuntimeError", .type "Exception", .type "BaseException", .type "object"] := ⟨⟨_, PySem.F.excBase_RuntimeError⟩, by decide +kernel, by decide +kernel, by decide +kernel, fun _ => by kernel_rfl, by decide +kernel⟩
theorem indexError : Facts "IndexError" "IndexError.__new__" "IndexError.__init__" [.type "IndexError", .type "LookupError", .type "Exception", .type "BaseException", .type "object"] := ⟨⟨_, PySem.F.excBase_IndexError⟩, by decide +kernel, by decide +kernel, by decide +kernel, fun _ => by kernel_rfl, by decide +kernel⟩
theorem valueError : Facts "ValueError" "ValueError.__new__" "ValueError.__init__" [.type "ValueError", .type "Exception", .type "BaseException", .type "object"] := ⟨⟨_, PySem.F.excBase_ValueError⟩, by decide +kernel, by decide +kernel, by decide +kernel, fun _ => by kernel_rfl, by decide +kernel⟩
/-- under an own class that stands there -/
theorem Facts.under {W : Addr} {B newId initId : String} {bm : List Value} (T : Facts B newId initId bm) : Facts B newId initId (.ref W :: bm) :=
  ⟨T.base, by rw [List.contains_cons, T.hB, Bool.or_true], by rw [List.contains_cons, T.hA]; rfl, by rw [List.contains_cons, T.hN]; rfl, fun self => by rw [refuseLoop_ref]; exact T.free self, by rw [List.contains_cons, T.thing, Bool.or_true]⟩
/-- a KeyError has no __new__ of its own -/
theorem keyError : Facts "LookupError" "LookupError.__new__" "LookupError.__init__" [.type "KeyError", .type "LookupError", .type "Exception", .type "BaseException", .type "object"] := ⟨⟨_, PySem.F.excBase_LookupError⟩, by decide +kernel, by decide +kernel, by decide +kernel, fun _ => by kernel_rfl, by decide +kernel⟩
section
variable {prog : Program} {w : World} {A : Around} {E : Value → Shared → Prop} {R : Result → Shared → Prop} {h : Heap} {g : Array GenState} {d : Drawn} {t : Nat} {os : OsState}
variable {nm q : Str} {C N : Addr} {bs bm : List Value} {hdct : Bool} {sn : List Str} {sub : List Value} {ab : Bool} {col : Option Bool} {dd : Option Addr} {k0 k1 k2 k3 k5 : Option Value} {B newId initId : String}
/-- the new one is laid by __new__ -/
theorem mk_new (T : Facts B newId initId bm) {rest : List Value} (hC : h.get? C = some (excClassObj nm q C N bs bm hdct sn sub ab col dd k0 k1 k2 k3 k5 newId)) (few : rest.length ≤ sizeLine)
    (go : R (.ok (.ret (.ref (h.objs.size + 1)))) ⟨(h.push (W.kdv_tup rest)).push (PySem.HandSPX.excO C h.objs.size), g, d, t, os⟩) : codeAny (model prog w) A (.builtin newId ⟨.ref C :: rest, []⟩) R ⟨h, g, d, t, os⟩ := by
  obtain ⟨bmB, F⟩ := T.base
  have e1 : (Value.ref C :: bm).contains (.type B) = true := by rw [List.contains_cons, T.hB, Bool.or_true]
  have e2 : (Value.ref C :: bm).contains (.type "AttributeError") = false := by rw [List.contains_cons, T.hA]; rfl
  have e3 : (Value.ref C :: bm).contains (.type "NameError") = false := by rw [List.contains_cons, T.hN]; rfl
  have e4 := F.ends
  refine codeAny_builtinAt F.entry ?_
  unfold Builtin.«BaseException.__new__»
  refine PySem.wpAt_bind (?_ : PySem.wpAt _ _ _ (stack >>= _) _ _ _)
  refine PySem.wpAt_bind (PySem.wpAt_stack fun _ _ => PySem.wpAt_of_wpAny ?_)
  wp_walk
  refine PySem.wpAt_of_wpAny (?_)
  rw [F.owner]
  repeat (first | (with_reducible refine wpAny_madeHere_exc F.canon hC ?_) | (with_reducible refine wpAny_loadPart_at hC ?_) | (with_reducible refine wpAny_isSubtype_exc hC ?_; (first | rw [e1] | rw [e2] | rw [e3])) | wp_step)
  show R _ _
  rw [Heap.size_push]
  exact go
theorem chk_new (T : Facts B newId initId bm) {rest : List Value} {Q : Unit → Shared → Prop} (hC : h.get? C = some (excClassObj nm q C N bs bm hdct sn sub ab col dd k0 k1 k2 k3 k5 newId)) (go : Q () ⟨h, g, d, t, os⟩) :
    wpAny (model prog w) A (checkBuiltinCall newId ⟨.ref C :: rest, []⟩) Q E ⟨h, g, d, t, os⟩ := by
  obtain ⟨bmB, F⟩ := T.base
  have e1 : (Value.ref C :: bm).contains (.type B) = true := by rw [List.contains_cons, T.hB, Bool.or_true]
  have e4 := F.noStar
  simp only [checkBuiltinCall, F.newRow, F.newSplit, F.newKind]
  repeat (first | refine wpAny_loadPart_at hC ?_ | (refine wpAny_isSubtype_exc hC ?_; (rw [e1])) | refine wpAny_madeBy_exc hC ?_ | refine wpAny_staticBase_exc hC ?_ | (simp only [bne_self_eq_false, Bool.false_eq_true, if_false]) | wp_step)
  exact go
theorem call_typ (T : Facts B newId initId bm) {rest : List Value} {fI : Addr} {Q : Fin → Shared → Prop} (hC : h.get? C = some (excClassObj nm q C N bs bm hdct sn sub ab col dd k0 k1 k2 k3 k5 newId)) (few : rest.length ≤ sizeLine)
    (hi : W.Looks (model prog w) h (typeLookup (.ref C) "__init__") (some (.ref fI))) (hb : ∀ self, W.Looks (model prog w) h (bindSpecial (.ref fI) self) (.ref fI, [self]))
    (go : codeAny (model prog w) A (.call (.ref fI) ⟨.ref (h.objs.size + 1) :: rest, []⟩) (fun r s' => match r with | .ok (.ret v) => v = .none ∧ Q (.done (.ret (.ref (h.objs.size + 1)))) s' | .ok _ => False | .error e => E e s') ⟨(h.push (W.kdv_tup rest)).push (PySem.HandSPX.excO C h.objs.size), g, d, t, os⟩) :
    wpAny (model prog w) A (Builtin.«type.__call__» ⟨.ref C :: rest, []⟩) Q E ⟨h, g, d, t, os⟩ := by
  obtain ⟨bmB, F⟩ := T.base
  repeat (first | (with_reducible refine wpAny_loadPart_at hC ?_) | (with_reducible refine wpAny_madeBy_exc hC ?_) | wp_step)
  refine codeAny_call_builtin_code (Code.quiet_builtin _ F.quiet) (chk_new T hC (mk_new T hC few ?_))
  show wpAny _ _ _ _ _ _
  have up : ∀ b o, h.get? b = some o → ((h.push (W.kdv_tup rest)).push (PySem.HandSPX.excO C h.objs.size)).get? b = some o := fun _ _ z => Heap.get?_push_of_some _ (Heap.get?_push_of_some _ z)
  have hC1 := up _ _ hC
  have at1 : ((h.push (W.kdv_tup rest)).push (PySem.HandSPX.excO C h.objs.size)).get? (h.objs.size + 1) = some (PySem.HandSPX.excO C h.objs.size) := by heap_get
  have e1 : (Value.ref C :: bm).contains (.ref C) = true := by simp
  have i1 := hi.keeps up
  have b1 := (hb (.ref (h.objs.size + 1))).keeps up
  unfold isInstance
  repeat (first | (with_reducible refine wpAny_loadPart_at at1 ?_) | (with_reducible refine wpAny_isSubtype_exc hC1 ?_; (rw [e1])) | wp_step)
  refine (i1.at ?_ : wpAny _ _ (typeLookup (.ref C) _) _ _ _)
  refine wpAny_holding (wpAny_bind (b1.at (wpAny_bind (wpAny_call (codeAny_mono go fun r s' z => ?_)))))
  rcases r with e | (v | _ | _ | _) <;> first | exact z.elim | exact z | skip
  obtain ⟨rfl, z⟩ := z
  first | exact wpAny_pure (wpAny_pure z) | (wp_walk; exact z)
theorem call_cls (T : Facts B newId initId bm) {rest : List Value} {fI : Addr} (hC : h.get? C = some (excClassObj nm q C N bs bm hdct sn sub ab col dd k0 k1 k2 k3 k5 newId))
    (hi : W.Looks (model prog w) h (typeLookup (.ref C) "__init__") (some (.ref fI))) (hb : ∀ self, W.Looks (model prog w) h (bindSpecial (.ref fI) self) (.ref fI, [self])) (few : rest.length ≤ sizeLine)
    (go : codeAny (model prog w) (A.under (.builtin "type.__call__" ⟨.ref C :: rest, []⟩)) (.call (.ref fI) ⟨.ref (h.objs.size + 1) :: rest, []⟩) (W.InitBack (h.objs.size + 1) R) ⟨(h.push (W.kdv_tup rest)).push (PySem.HandSPX.excO C h.objs.size), g, d, t, os⟩) :
    codeAny (model prog w) A (.call (.ref C) ⟨rest, []⟩) R ⟨h, g, d, t, os⟩ := by
  have z1 := tc_lookup
  have z2 := tc_bind (.ref C)
  have z3 : (⟨h, g, d, t, os⟩ : Shared).TypeIs (.ref C) "type" := ⟨_, hC, rfl⟩
  refine codeAny_of_tree (?_ : wpAny _ _ (callAny (.ref C) _) _ _ _)
  repeat (any_goals (first | assumption | (with_reducible refine wpAny_loadPart_at hC ?_) | wp_step))
  refine ⟨rfl, codeAny_call_builtin_at (Code.quiet_builtin _ (by decide +kernel)) entry_typeCall (wpAny_check_type_call_sub hC (call_typ T hC few hi hb ?_))⟩
  refine codeAny_mono go fun r s' z => ?_
  rcases r with e | (v | _ | _ | _) <;> exact z
end
/-- the first field of a new error, whatever built-in class its own class stands under -/
theorem first_field {prog : Program} {w : World} {A : Around} {R : Result → Shared → Prop} {h : Heap} {g : Array GenState} {d : Drawn} {t : Nat} {os : OsState} {K : W.Frag} {name : Str} {tk : Tok} {v : Value} {x C : Addr} {fv : Array Value} {cd : ClassData}
    (X : K.In h) (hx : h.get? x = some { cls := .ref C, data := .fields fv }) (hcd : W.clsIn K C = some cd) (some_ : cd.mro.isEmpty = false) (thing : cd.mro.contains (.type "object") = true) (free : ∀ self : Value, refuseLoop self "__setattr__" cd.mro = pure ())
    (own : cd.hasDict = true) (no : W.findIn K (.ref C) name = some none)
    (q : ∀ h' tk' dx, (∀ b o, b ≠ x → h.get? b = some o → h'.get? b = some o) → h.objs.size ≤ dx → dx ≠ x → h'.get? x = some { cls := .ref C, dict := some dx, data := .fields fv } → h'.Ns1 dx (fun y => if y = name then some v else none) → R (.ok (.ret .none)) ⟨h', g, d, tk', os⟩) :
    codeAny (model prog w) A (.call (.builtin "object.__setattr__") ⟨[.ref x, .str name tk, v], []⟩) R ⟨h, g, d, t, os⟩ := by
  have at_ : W.InstAt h x { cls := .ref C, data := .fields fv } C none := ⟨hx, rfl, rfl, trivial⟩
  have apart : x ≠ h.objs.size := Nat.ne_of_lt (Heap.lt_size hx)
  have class_ : W.Looks (model prog w) h (classData C) cd := W.looks_clsIn X hcd
  have line_ : W.Looks (model prog w) h (mroOf (.ref C)) cd.mro := class_.andThen .now
  have under : W.Looks (model prog w) h (isInstance (.ref x) (.type "object")) true := at_.type.andThen (W.looks_mroIn X (by unfold W.mroIn; rw [hcd, Option.bind_some, if_neg (by rw [some_]; decide), thing]))
  have st := PySem.F.store_object
  refine codeAny_call_builtin st.slot.plain st.entry (@W.check_slot (model prog w) _ _ ⟨h, g, d, t, os⟩ "object.__setattr__" "object" "__setattr__" (.ref x) [.str name tk, v] [] _ st.kind st.split under (st.args (.ref x) (.str name tk) v) ?_)
  have none_ : W.Looks (model prog w) h (storeTaker? none) none := .now
  rw [W.osa_eq, refuse_eq]
  refine wpAny_bind (wpAny_bind (at_.type.at (wpAny_bind (line_.at ?_))))
  rw [free]
  refine wpAny_pure ?_
  refine wpAny_bind (at_.type.at (wpAny_bind ((W.looks_findIn X no).at (wpAny_bind (none_.at ?_)))))
  show wpAny _ _ (storeInOwnDict (.ref x) (.ref C) (.str name tk) name v false) _ _ _
  cases cd
  cases own
  unfold storeInOwnDict ownDictForStores
  repeat (first | with_reducible refine PySem.HandSPX.store_in_new ?_ ?_ | with_reducible refine wpAny_loadPart_at hx ?_ | with_reducible refine class_.at ?_ | wp_step)
  · exact ⟨_, #[], _, (Heap.get?_update_ne _ _ _ _ apart.symm).trans (Heap.get?_push_at rfl rfl), rfl, fun e he => absurd he (by simp), fun _ => rfl⟩
  · intro h' tk' new only
    have hx1 : (h.push { cls := .type "dict", data := .dict #[] }).get? x = some { cls := .ref C, data := .fields fv } := Heap.get?_push_of_some _ hx
    exact q h' tk' h.objs.size (fun b o nb ob => (only.2 b (Nat.ne_of_lt (Heap.lt_size ob))).trans ((Heap.get?_update_ne _ _ _ _ nb).trans (Heap.get?_push_of_some _ ob))) (Nat.le_refl _) apart.symm ((only.2 x apart).trans (Heap.get?_update_self _ hx1 rfl)) new

open L2
/-- what the written part says of an own error class that stands straight under a built-in one -/
structure Own (K : PySem.W.Frag) (C : Addr) (B newId initId : String) (bm : List Value) : Prop where
  fx : Facts B newId initId bm
  cls : ∃ nm q N bs sn sub ab col dd k0 k1 k2 k3 k5, K.lookup C = some (excClassObj nm q C N bs bm true sn sub ab col dd k0 k1 k2 k3 k5 newId)
  sa : PySem.W.findIn K (.ref C) "__setattr__" = some (some (.builtin "object.__setattr__"))
  exC : PySem.W.subIn K (.ref C) (.type "BaseException") = some true
  tyC : PySem.W.typeIn K (.ref C) = some (.type "type")
  kC : PySem.W.keepIn K (.ref C) = true
section
variable {X : Cx} {pins : List (Addr × Obj)} {σ : L2.St} {H : Hp} {s : Shared} {a C : Addr} {f : Str} {y : V} {u : Value} {Q : Unit → Shared → Prop} {E : Value → Shared → Prop} {A : Around} {B newId initId : String} {bm : List Value}
/-- self.f = y of a new error that has no field yet -/
theorem put_first (T : Own X.K C B newId initId bm) (I : Inv X pins σ H s) (e : H a = some (exo a C none)) (no : PySem.W.findIn X.K (.ref C) f = some none) (ry : RelV y u)
    (q : ∀ dx s', H dx = none → dx ≠ a → Inv X pins σ (upd (upd H dx (exd dx [(f, y)])) a (exo a C (some dx))) s' → Q () s') : wpAny (model X.prog X.w) A (setAttr (.ref a) f u) Q E s := by
  obtain ⟨nm, qn, N, bs, sn, sub, ab, col, dd, k0, k1, k2, k3, k5, hC⟩ := T.cls
  have cl : PySem.W.clsIn X.K C = some { name := nm, bases := bs, mro := .ref C :: bm, ns := N, qualname := qn, hasDict := true, slotNames := sn, subclasses := sub, abstract := ab, collection := col, hasDel := false } := by
    unfold PySem.W.clsIn
    rw [hC] <;> rfl
  obtain ⟨t1, there⟩ := exo_at I.hok e
  obtain ⟨h, g, d, t, os⟩ := s
  refine PySem.W.set_plain I.kIn (ox := { cls := .ref C, dict := none, data := .fields #[.ref t1, .none, .none, .none, .bool false, .none] }) (od := none) ⟨there, rfl, rfl, trivial⟩ T.sa ?_
  refine first_field I.kIn there cl rfl (by show (Value.ref C :: bm).contains _ = true; rw [List.contains_cons, T.fx.thing, Bool.or_true]) (fun self => by show refuseLoop self _ (.ref C :: bm) = _; rw [refuseLoop_ref]; exact T.fx.free self) rfl no ?_
  intro h' tk' dx keep new na here ns
  have fresh : H dx = none := I.hok.fresh new
  have off : ∀ {b : Addr} {o : Obj}, h.get? b = some o → b ≠ dx := fun z => Nat.ne_of_lt (Nat.lt_of_lt_of_le (Heap.lt_size z) new)
  have other : ∀ {b : Addr}, H b = none → b ≠ a := fun n z => by
    rw [z, e] at n
    cases n
  have two : ∀ {b : Addr}, b ≠ a → b ≠ dx → (upd (upd H dx (exd dx [(f, y)])) a (exo a C (some dx))) b = H b := fun n1 n2 => by rw [upd_ne n1, upd_ne n2]
  refine q dx _ fresh na (I.un (t' := tk') ⟨fun b o z n _ _ => keep b o (other n) z, fun b o z n _ _ => ⟨o.slots, keep b o (other n) z⟩, fun b o z n _ => by rw [two (other n) (off z)]; exact n, fun b o z _ => ?_,
    fun b xs z => by rw [two (at_ne e z exo_tup) (ne_of_none z fresh)]; exact z, fun b o v z => by rw [two (at_ne e z exo_frz) (ne_of_none z fresh)]; exact z, fun b ps z => ⟨#[], by rw [two (at_ne e z exo_tbl) (ne_of_none z fresh), z]; simp⟩⟩ fun b o z => ?_)
  · by_cases c : b = a
    · exact ⟨_, by rw [c]; exact here⟩
    · exact ⟨o, keep b o c z⟩
  · by_cases c : b = a
    · subst c
      rw [upd_same] at z
      cases z
      exact exo_ok here
    · by_cases c2 : b = dx
      · subst c2
        rw [upd_ne c, upd_same] at z
        cases z
        exact exd_ok ns (relO_put (fs := []) ry fun g => True.intro)
      · rw [two c c2] at z
        refine (I.hok b o z).stay (fun b' v hb z' => keep b' v ?_ z') (fun b' hb => by rw [two (at_ne e hb exo_own) (ne_of_none hb fresh)]; exact hb) (fun b' xs hb => by rw [two (at_ne e hb exo_tup) (ne_of_none hb fresh)]; exact hb)
        rcases hb with hb | hb
        · rw [hb]
          exact c
        · exact at_ne e hb exo_own
end
/-- self.f = e in the own __init__, the first one -/
def tPut (K : PySem.W.Frag) (C : Addr) (f : Str) (to te : TE) : TS := fun D σ H => te σ H fun y H1 => to σ H1 fun x H2 => ∃ a : Addr, x = .ref a ∧ H2 a = some (exo a C none) ∧ ∀ dx, H2 dx = none → dx ≠ a → D.nx σ (upd (upd H2 dx (exd dx [(f, y)])) a (exo a C (some dx)))
section
variable {X : Cx} {C : Addr} {B newId initId : String} {bm : List Value} {o e : Expr} {es : List Expr} {to te : TE} {ta : TA} {f : Str} {p p' pos : Pos}
theorem ps_put (T : Own X.K C B newId initId bm) (no : PySem.W.findIn X.K (.ref C) f = some none) (ho : PE X o to) (he : PE X e te) (hs : swapsWith e (some (.Attribute o f p')) pos.line X.env = pure false := by rfl) : PS X (.Assign [.Attribute o f p'] e pos) (tPut X.K C f to te) := by
  constructor
  intro pins s σ H D I h
  refine plainObj_wpAny_Assign_Attribute (thn (he.run pins s σ H _ I h) ?_) hs
  rintro v s1 ⟨y, H1, I1, r1, q1⟩
  refine thn (ho.run pins s1 σ H1 _ I1 q1) ?_
  rintro u s2 ⟨x, H2, I2, r2, a, rfl, ea, q⟩
  cases r2
  exact put_first T I2 ea no r1 fun dx s' n ne J => ⟨σ, _, J, q dx n ne⟩
/-- C(e, ..) of such a class, to be raised -/
theorem pmk {CX : CXT} {x : Str} {fI : Addr} {k : Nat} {fd : FuncData} {ps : List Str} {sp : Sp} (T : Own X.K C B newId initId bm) (iC : PySem.W.findIn X.K (.ref C) "__init__" = some (some (.ref fI))) (tI : PySem.W.typeIn X.K (.ref fI) = some (.type "function"))
    (F1 : FnOk X.prog X.w X.K X.mg X.base CX k fI fd ps sp) (hr : Room (k + 1) X.A) (hb : Binds X.K fd ps []) (hx : Passes CX X (fun _ _ _ => False)) (hg : Gl X x) (hm : X.mg x = some (.ref C)) (ha : PA X (e :: es) ta)
    (hdb : (x == ("__debug__" : Str)) = false := by decide) (he : starEach (e :: es) X.env = (false, eval e X.env) :: starEach es X.env := by rfl) (hpl : (backTo pos (starEach es X.env)).any (·.1) = false := by rfl) :
    PMk X (.Call (.Name x p) (e :: es) [] pos) (tMkO C sp [] ta) := by
  intro pins s σ H Q I h
  obtain ⟨nm, qn, N, bs, sn, sub, ab, col, dd, k0, k1, k2, k3, k5, hC⟩ := T.cls
  refine wpAny_Call_Name_kw (ld_glob I hg hm ?_ hdb)
  refine PySem.W.callWith_K (h₀ := X.base) I.ok.mod.kin T.kC (thn (ha.run pos pins s σ H _ I h) ?_) he hpl
  rintro us ⟨hp, g, dr, tk, os⟩ ⟨vs, H1, I1, r1, hz, q1⟩
  refine ⟨I1.kIn, ?_⟩
  have new : hp.objs.size ≤ hp.objs.size + 1 := Nat.le_succ _
  have hq := q1 (hp.objs.size + 1) (I1.hok.fresh new)
  have grow : ∀ b o, hp.get? b = some o → ((hp.push (PySem.W.kdv_tup us)).push (PySem.HandSPX.excO C hp.objs.size)).get? b = some o := fun b o z => Heap.get?_push_of_some _ (Heap.get?_push_of_some _ z)
  have there : ((hp.push (PySem.W.kdv_tup us)).push (PySem.HandSPX.excO C hp.objs.size)).get? (hp.objs.size + 1) = some (PySem.HandSPX.excO C hp.objs.size) := by heap_get
  have I2 := I1.laid (t' := tk) (a := hp.objs.size + 1) (o := exo (hp.objs.size + 1) C none) (h' := (hp.push (PySem.W.kdv_tup us)).push (PySem.HandSPX.excO C hp.objs.size)) grow new (exo_ok there)
  rw [List.append_nil] at hq
  have r2 : Vals (V.ref (hp.objs.size + 1) :: vs) (Value.ref (hp.objs.size + 1) :: us) := .cons rfl r1
  have len : (Value.ref (hp.objs.size + 1) :: us ++ []).length = ps.length := by
    have z := r2.length
    rw [F1.len _ _ _ _ hq] at z
    rw [List.append_nil]
    exact z.symm
  have few : us.length ≤ sizeLine := by
    rw [← Paired.length r1, sizeLine_eq]
    omega
  have bd := hb _ (Value.ref (hp.objs.size + 1) :: us) I2.kIn len
  rw [List.append_nil] at bd
  refine wpAny_call (call_cls T.fx (I1.kIn _ _ hC) (PySem.W.looks_findIn I1.kIn iC) (fun self => PySem.W.bind_fn I1.kIn self tI) few
    (codeAny_mono (F1.run _ X.stack _ _ ⟨Value.ref (hp.objs.size + 1) :: us, []⟩ (Value.ref (hp.objs.size + 1) :: us) _ _ (fun _ _ _ => False) (hr.make C us []) (I2.env0.make C us []) bd r2 hq) fun r s' z => ?_))
  cases r with
  | error er => exact hx pins σ _ _ er s' I2 z
  | ok fl =>
    cases fl with
    | ret u =>
      obtain ⟨v, H2, os2, bare2, un2, hok2, rv, ev, d, fs, ea, ed, hd1, q2⟩ := z
      cases ev
      obtain ⟨h2, g2, d2, t2, os'⟩ := s'
      exact ⟨rv, mk_end (raises_own T.exC T.tyC) I1 new grow un2 hok2 os2 bare2 ea ed hd1 q2⟩
    | next => exact z.elim
    | brk => exact z.elim
    | cont => exact z.elim
end
end XB
/-! a list comprehension whose element calls what may let an exception out -/
namespace LR
open PySem PySem.Spec PyProof.Rows L2
section
variable {X : Cx} {pins : List (Addr × Obj)} {σ : L2.St} {H : Hp} {s : Shared} {C : Addr}
/-- an object that isn't tracked and that is no one's, left out of the heap -/
theorem inv_drop (I : Inv X pins σ H s) (f : FpOk X pins H C) (hx : X.ex = []) : ∃ G : Heap, (∀ b, b ≠ C → G.get? b = s.heap.get? b) ∧ G.get? C = none ∧ Inv X pins σ H { s with heap := G } := by
  obtain ⟨f0, f1, f2, f3, f4, f5⟩ := f
  obtain ⟨G, g1, g2⟩ := restrict s.heap fun b => decide (b ≠ C)
  have gk : ∀ b, b ≠ C → G.get? b = s.heap.get? b := fun b hb => g1 b (decide_eq_true hb)
  have gC : G.get? C = none := g2 C (decide_eq_false fun z => z rfl)
  have n0 : X.s_0.heap.objs.size ≤ C := f3.elim (fun z => by rw [hx] at z; cases z) id
  have ne0 : ∀ b o, X.s_0.heap.get? b = some o → b ≠ C := fun b o e z => by
    rw [z] at e
    exact absurd (Nat.lt_of_lt_of_le (Heap.lt_size e) n0) (Nat.lt_irrefl _)
  have neH : ∀ b u, H b = some u → b ≠ C := fun b u e z => by
    rw [z, f0] at e
    cases e
  have cellK : ∀ x c, X.env.cells.lookup x = some c → ∀ v, s.heap.IsCell c v → G.IsCell c v := fun x c e v ⟨o, ho, hd⟩ => ⟨o, by rw [gk c (f4 x c e)]; exact ho, hd⟩
  refine ⟨G, gk, gC, ⟨I.ok, I.os, I.bare, ⟨fun b o e n hb hq => ?_, fun b o e n hb hq => ?_, I.base.free, fun b o e hq => ?_, I.base.tups, I.base.frzs, I.base.tbls⟩, ?_, fun x c e => ?_, I.free, I.freeC, fun p hp => ?_, fun b u e => ?_, I.len⟩⟩
  · show G.get? b = _
    rw [gk b (ne0 b o e)]
    exact I.base.keep b o e n hb hq
  · obtain ⟨sl, q⟩ := I.base.slot b o e n hb hq
    exact ⟨sl, (gk b (ne0 b o e)).trans q⟩
  · obtain ⟨o', q⟩ := I.base.there b o e hq
    exact ⟨o', (gk b (ne0 b o e)).trans q⟩
  · obtain ⟨m, ⟨o, es, ep, ho, r⟩, hl⟩ := I.loc
    refine ⟨m, ⟨o, es, ep, (gk _ (fun z => f1 z.symm)).trans ho, r⟩, fun i x v e1 e2 e3 => ?_⟩
    obtain ⟨u, r', l⟩ := hl i x v e1 e2 e3
    refine ⟨u, r', ?_⟩
    rcases l with l | ⟨k, c, ec, z⟩
    · exact .inl l
    · exact .inr ⟨k, c, ec, cellK x c ec _ z⟩
  · obtain ⟨v, z⟩ := I.cell x c e
    exact ⟨v, cellK x c e v z⟩
  · obtain ⟨e, n, ne, nf, d⟩ := I.pin p hp
    exact ⟨(gk _ (f5 p hp)).trans e, n, ne, nf, d⟩
  · exact (I.hok b u e).stay (fun c v hc q => by
      show G.get? c = _
      rw [gk c (by
        rcases hc with z | z
        · rw [z]
          exact neH b u e
        · exact neH c _ z)]
      exact q) (fun _ q => q) fun _ _ q => q
end
theorem frames_but {h h' base : Heap} {C : Addr} (k : ∀ b, b ≠ C → h'.get? b = h.get? b) : ∀ {l : List Env}, C ∉ frs l → h.FunFrames base l → h'.FunFrames base l
  | [], _, _ => trivial
  | env :: l, n, ⟨hk, ⟨L, o, hf, hn, ho, hd⟩, hr⟩ => by
    refine ⟨hk, ⟨L, o, hf, hn, ?_, hd⟩, frames_but k (fun z => n ?_) hr⟩
    · rw [k L (fun z => n (z ▸ List.mem_filterMap.mpr ⟨env, List.mem_cons_self, hf⟩))]
      exact ho
    · obtain ⟨e, he, q⟩ := List.mem_filterMap.mp z
      exact List.mem_filterMap.mpr ⟨e, List.mem_cons_of_mem _ he, q⟩
section
variable {M : Model} {A : Around} {E : Value → Shared → Prop} {s : Shared} {base : Heap} {l : List Env} {e L : Addr} {Z : Obj → Prop}
/-- the frame's mark set once more -/
theorem setFlight_held {Q : Unit → Shared → Prop} (hh : HandSPX.HeldZ base l e Z L s.heap) (h : ∀ h', HandSPX.HeldZ base l e Z L h' → s.heap.UpToSlots h' → Q () { s with heap := h' }) :
    wpAny M A (setFlight (.ref e) (some L)) Q E s := by
  obtain ⟨hkb, hen, hl, oe, vs, T, oT, ts, he, hz, hd, h1, hnT, hTe, hT, hdT, h3⟩ := hh
  have hsz3 : 3 < ts.size := (Array.getElem?_eq_some_iff.mp h3).1
  have other : ∀ b, b ≠ T → (s.heap.update T (Obj.mapFields (·.setIfInBounds 3 ((some L : Option Addr).elim Value.none fun f => rawInt f)))).get? b = s.heap.get? b :=
    fun b hb => Heap.get?_update_other _ _ (Ne.symm hb)
  have noRecord : ∀ b o, s.heap.get? b = some o → (∀ vs, o.data ≠ .fields vs) → b ≠ T := fun b o hb hnf q => by
    rw [q, hT] at hb; injection hb with hb; subst hb; exact hnf ts hdT
  unfold setFlight
  refine wpAny_bind (wpAny_field he hd h1 ?_)
  rw [if_pos (show (Value.ref T != Value.none) = true from by simp)]
  refine wpAny_setField hT hdT hsz3 (h _ ⟨fun b o hbo => (other b fun q => by rw [q, hnT] at hbo; cases hbo).trans (hkb b o hbo), hen,
    hl.of_keeps fun b o hb hnf => ⟨o, (other b (noRecord b o hb hnf)).trans hb, rfl⟩, ?_⟩ fun b o hb hnf => ⟨o.slots, (other b (noRecord b o hb hnf)).trans hb⟩)
  exact ⟨oe, vs, T, _, _, (other e (Ne.symm hTe)).trans he, hz, hd, h1, hnT, hTe, Heap.get?_update_self _ hT (Obj.isFreed_of_fields (Obj.data_mapFields hdT _)), Obj.data_mapFields hdT _, by simp [hsz3]⟩
end
theorem note_eq {e : Value} {env env' : Env} (h : env.frame = env'.frame) : noteFrame e env = noteFrame e env' := by
  unfold noteFrame PySem.frameOf
  rw [h]
/-- what is asked behind a comprehension's block -/
def Post (M : Model) (A : Around) (E : Value → Shared → Prop) (fr : Option Addr) (use : Option (Value → Sem Unit)) (Q : Value → Shared → Prop) (acc : Value) (C : Addr) (r : Result) (s' : Shared) : Prop :=
  match r, use with
  | .ok _, none => ∃ m, s'.heap.Ns C m ∧ ∀ h', Heap.SameBut C s'.heap h' → Q acc { s' with heap := h' }
  | .ok _, some u => wpAny M A (u acc) (fun _ s'' => ∃ m, s''.heap.Ns C m ∧ ∀ h', Heap.SameBut C s''.heap h' → Q .none { s'' with heap := h' }) E s'
  | .error x, _ => ∃ m, s'.heap.Ns C m ∧ ∀ h', Heap.SameBut C s'.heap h' → ∀ cenv : Env, cenv.locals = C → cenv.frame = fr → wpAny M A (passOn "comprehension.variables-let-go" x cenv : Sem Value) (fun _ _ => False) E { s' with heap := h' }
section
variable {X : Cx} {pins : List (Addr × Obj)} {σ : L2.St} {Hr : Hp} {s6 s7 : Shared} {C : Addr} {W : WX} {E : XK} {e : Value}
theorem raise_out {E1 : Value → Shared → Prop} {ce : Env} {use : Option (Value → Sem Unit)} {Q : Value → Shared → Prop} {acc : Value} (tk : Takes X W) (hs : X.stack = X.env :: X.outer) (hf : X.env.frame = some X.env.locals) (hx : X.ex = []) (IX : Inv X pins σ Hr s6) (f : FpOk X pins Hr C) (nC : ∃ m, s6.heap.Ns C m)
    (hW : ∀ cls d H', E cls d H' → W cls d σ H') (c : CX X.prog X.w X.stack Hr s6 E e s7) (hce : ce.frame = X.env.frame) :
    wpAny (model X.prog X.w) X.A (noteFrame e ce) (fun _ s8 => Post (model X.prog X.w) X.A X.xe X.env.frame use Q acc C (.error e) s8) E1 s7 := by
  obtain ⟨a, B, H', cls, d, rfl, fl, hok, ub, na, os, ag, hE⟩ := c
  obtain ⟨G0, g1, g2, IG⟩ := inv_drop IX f hx
  obtain ⟨f0, f1, f2, f3, f4, f5⟩ := f
  obtain ⟨m, nC⟩ := nC
  obtain ⟨oC, esC, epC, hoC, hdC, hrC⟩ := nC
  have f2' : C ∉ frs X.stack := fun z => by
    rcases List.mem_cons.mp (IX.stkSub _ z) with e | e
    · exact f1 e
    · exact f2 e
  have h'C : H' C = none := ub.free C oC hoC f0
  have BC : B.get? C = some oC := ub.keep C oC hoC f0 f2'
  have nC7 : s7.heap.Ns C m := ⟨oC, esC, epC, fl.1 _ _ BC, hdC, hrC⟩
  obtain ⟨B', b1, b2⟩ := restrict B fun b => decide (b ≠ C)
  have bk : ∀ b, b ≠ C → B'.get? b = B.get? b := fun b hb => b1 b (decide_eq_true hb)
  have bC : B'.get? C = none := b2 C (decide_eq_false fun z => z rfl)
  have bs : ∀ b o, B'.get? b = some o → B.get? b = some o := fun b o q => by
    rw [← bk b (fun z => by rw [z, bC] at q; cases q)]
    exact q
  have bn : ∀ b, B.get? b = none → B'.get? b = none := fun b q => by
    by_cases hb : b = C
    · rw [hb]
      exact bC
    · rw [bk b hb]
      exact q
  have frB : ∀ {l : List Env}, s7.heap.FunFrames B l → s7.heap.FunFrames B' l := fun {l} hl => by
    induction l with
    | nil => trivial
    | cons env l ih =>
      obtain ⟨hk, ⟨L, o, hf, hn, ho, hd⟩, hr⟩ := hl
      exact ⟨hk, ⟨L, o, hf, bn _ hn, ho, hd⟩, ih hr⟩
  have fl' : HandSPX.FlyingZ B' X.stack a (Zc cls d) s7.heap := by
    obtain ⟨x1, x2, x3, oe, vs, T, oT, ts, he, hz, hd, h1, hnT, hTe, hT, hdT, h3⟩ := fl
    exact ⟨fun b o q => x1 b o (bs b o q), bn _ x2, frB x3, oe, vs, T, oT, ts, he, hz, hd, h1, bn _ hnT, hTe, hT, hdT, h3⟩
  have hok' : HOk X.prog X.w H' B' := fun b u q => (hok b u q).stay (fun c v hc r => by
    rw [bk c (fun z => by
      rcases hc with hc | hc
      · rw [← hc, z, h'C] at q; cases q
      · rw [z, h'C] at hc; cases hc)]
    exact r) (fun _ r => r) fun _ _ r => r
  have gs : ∀ b o, G0.get? b = some o → b ≠ C ∧ s6.heap.get? b = some o := fun b o q => by
    have hb : b ≠ C := fun z => by rw [z, g2] at q; cases q
    exact ⟨hb, by rw [← g1 b hb]; exact q⟩
  -- the state without the exception
  obtain ⟨G, k1, k2⟩ := restrict s7.heap fun b => (B'.get? b).isSome || decide (b ∈ frs X.stack)
  have gB : ∀ b o, B'.get? b = some o → G.get? b = some o := fun b o e => by
    rw [k1 b (by simp [e])]
    exact fl'.1 b o e
  have gF : ∀ b, b ∈ frs X.stack → G.get? b = s7.heap.get? b := fun b hb => k1 b (by simp [hb])
  have og : ∀ b o, G.get? b = some o → s7.heap.get? b = some o ∧ ((B'.get? b).isSome = true ∨ b ∈ frs X.stack) := fun b o e => by
    cases q : ((B'.get? b).isSome || decide (b ∈ frs X.stack)) with
    | false => rw [k2 b q] at e; cases e
    | true =>
      rw [k1 b q] at e
      exact ⟨e, by simpa [Bool.or_eq_true] using q⟩
  have nb : ∀ b o, G.get? b = some o → b ∉ frs X.stack → B'.get? b = some o := fun b o e hb => by
    obtain ⟨e', h⟩ := og b o e
    rcases h with h | h
    · obtain ⟨o', q⟩ := Option.isSome_iff_exists.mp h
      have z := fl'.1 b o' q
      rw [e'] at z; cases z
      exact q
    · exact absurd h hb
  have II : Inv X pins σ H' { s6 with heap := G, gens := s7.gens, drawn := s7.drawn, toks := s7.toks } := by
    show Inv X pins σ H' { ({ s6 with heap := G0 } : Shared) with heap := G, gens := s7.gens, drawn := s7.drawn, toks := s7.toks }
    refine IG.call (ch := []) ⟨fun b o e n hb _ => ?_, fun b o e n hb _ => ?_, fun b o e n _ => ub.free b o (gs b o e).2 n, fun b o e _ => ?_, ub.tups, ub.frzs, ub.tbls⟩ (hok'.kept gB) ag (fun _ z => nomatch z)
    · obtain ⟨hb1, e1⟩ := gs b o e
      exact gB b o (by rw [bk b hb1]; exact ub.keep b o e1 n hb)
    · obtain ⟨sl, q⟩ := ub.slot b o (gs b o e).2 hb
      exact ⟨sl, by rw [gF b hb]; exact q⟩
    · obtain ⟨hb1, e1⟩ := gs b o e
      by_cases hb : b ∈ frs X.stack
      · obtain ⟨sl, q⟩ := ub.slot b o e1 hb
        exact ⟨_, by rw [gF b hb]; exact q⟩
      · obtain ⟨o', q⟩ := ub.there b o e1 hb
        exact ⟨o', gB b o' (by rw [bk b hb1]; exact q)⟩
  have gCn : ∀ b o, G.get? b = some o → b ≠ C := fun b o e z => by
    have q := nb b o e (fun hm => f2' (z ▸ hm))
    rw [z, bC] at q
    cases q
  rw [note_eq hce]
  have fr : X.A.frames = some (X.env :: X.outer) := hs ▸ IX.ok.frames
  refine HandSPX.looks_onZ Zc.steady fr hf (hs ▸ fl') fun h8 held up8 => ?_
  refine ⟨m, up8.ns nC7, fun h' sb cenv hcl hcf => ?_⟩
  -- the block's names are let go
  have f2h : C ∉ frs (X.env :: X.outer) := hs ▸ f2'
  obtain ⟨o8, es8, ep8, ho8, hd8, _⟩ := up8.ns nC7
  have held' : HandSPX.HeldZ B' (X.env :: X.outer) a (Zc cls d) X.env.locals h' := by
    obtain ⟨x1, x2, x3, oe, vs, T, oT, ts, he, hz, hd, h1, hnT, hTe, hT, hdT, h3⟩ := held
    have aC : a ≠ C := fun z => by
      rw [z, ho8] at he
      cases he
      rw [hd8] at hd
      cases hd
    have tC : T ≠ C := fun z => by
      rw [z, ho8] at hT
      cases hT
      rw [hd8] at hdT
      cases hdT
    exact ⟨fun b o q => (sb.2 b (fun z => by rw [z, bC] at q; cases q)).trans (x1 b o q), x2, frames_but sb.2 f2h x3, oe, vs, T, oT, ts, (sb.2 a aC).trans he, hz, hd, h1, hnT, hTe, (sb.2 T tC).trans hT, hdT, h3⟩
  have go : wpAny (model X.prog X.w) X.A (setFlight (.ref a) cenv.frame) (fun _ s4 => wpAny (model X.prog X.w) X.A (throw (.ref a) : Sem Value) (fun _ _ => False) X.xe s4) X.xe { s7 with heap := h' } := by
    rw [hcf, hf]
    refine setFlight_held held' fun h9 hh9 up9 => ?_
    refine wpAny_throw (tk _ _ ?_)
    refine ⟨a, B', _, pins, σ, H', cls, d, rfl, II, nb, fun b o q hd => ?_, .inr (.inr (hs ▸ hh9)), na, os, ag, hW _ _ _ hE⟩
    obtain ⟨sl, q8⟩ := up8 b o (og b o q).1 hd
    have q9 := (sb.2 b (gCn b o q)).trans q8
    obtain ⟨sl2, q10⟩ := up9 b _ q9 hd
    exact ⟨sl2, q10⟩
  obtain ⟨_, _, _, oe, vs, T, _, _, he, _, hd, h1, _⟩ := id held'
  show wpAny _ _ (passOn _ (.ref a) cenv) _ _ _
  unfold PySem.passOn
  apply wpAny_bind
  apply wpAny_field he hd h1
  rw [if_neg (by simp)]
  first
    | exact wpAny_bind (wpAny_pure (wpAny_bind go))
    | exact wpAny_bind go
end
section
variable {M : Model} {A : Around} {E : Value → Shared → Prop} {s : Shared} {env : Env}
/-- the block's own steps, the frame told too -/
theorem free {e : Expr} {scope : Scope} {pos : Pos} {newAcc first : Sem Value} {g : Comprehension} {gs : List Comprehension} {cl : List (Str × Addr)} {use : Option (Value → Sem Unit)} {Q : Value → Shared → Prop}
    (hcl : clausesOf e = g :: gs) (hs : ∀ x, foldedSetIterable g.iter env x = pure x) (hclos : closureFor scope env = pure cl) (hkind : scope.kind = .function) (hnames : ∀ x ∈ scope.names, x.2 = .local → scope.names.lookup x.1 = some .local)
    (h : wpAny M A first (fun x s₁ => wpAny M A (pyIter x) (fun it s₂ => wpAny M A newAcc (fun acc s₃ => wpAny M A (newFunctionEnv scope env.globals cl [] env.qual none .none (some env)) (fun cenv s₄ =>
        cenv.frame = env.frame ∧ codeAny M A (.compStart e 0 it acc { cenv with scope := relabel scope env }) (Post M A E env.frame use Q acc cenv.locals) s₄) E s₃) E s₂) E s₁) E s) :
    wpAny M A (comprehension e scope env pos newAcc false first use) Q E s := by
  unfold comprehension
  rw [hclos, hcl]
  refine wpAny_bind (wpAny_mono h (fun x s₁ h₁ => wpAny_bind (wpAny_standAt (wpAny_bind (wpAny_of_eq (hs x) (wpAny_bind (wpAny_holding (wpAny_mono h₁ (fun it s₂ h₂ =>
    wpAny_standIf (wpAny_bind (wpAny_mono h₂ (fun acc s₃ h₃ => wpAny_bind (wpAny_pure (wpAny_bind (wpAny_mono h₃ (fun cenv s₄ h₄ => ?_) fun _ _ h' => h')))) fun _ _ h' => h')))
      fun _ _ h' => h'))))))) fun _ _ h' => h')
  dsimp only
  obtain ⟨hcf, h₄⟩ := h₄
  have hv : ∀ x ∈ (scope.names.filter fun x => (x.2 == .local || x.2 == .cell) && x.1 != (".0" : Str)).reverse, x.2 = .local →
      Env.kindOf { cenv with scope := relabel scope env } x.1 = some .local := fun x hx hl => lookup_relabel_local (hnames x (List.mem_filter.mp (List.mem_reverse.mp hx)).1 hl)
  have hv' : ∀ x ∈ (scope.names.filter fun x => (x.2 == .local || x.2 == .cell) && x.1 != (".0" : Str)).reverse.drop 1 ++ (scope.names.filter fun x => (x.2 == .local || x.2 == .cell) && x.1 != (".0" : Str)).reverse.take 1,
      x.2 = .local → Env.kindOf { cenv with scope := relabel scope env } x.1 = some .local := fun x hx hl => by
    rcases List.mem_append.mp hx with h1 | h1
    · exact hv x (List.mem_of_mem_drop h1) hl
    · exact hv x (List.mem_of_mem_take h1) hl
  refine wpAny_holding (wpAny_bind (wpAny_attempt (wpAny_holding (wpAny_run (codeAny_mono h₄ fun r s' hr => ?_)))))
  cases r with
  | ok f =>
    cases use with
    | none =>
      obtain ⟨m, hn, hr⟩ := hr
      exact wpAny_bind (wpAny_holding (wpAny_comp_letGo (cenv := { cenv with scope := relabel scope env }) hkind _ s' m hv hn fun h' m' _ hs' => wpAny_pure (hr h' hs')))
    | some u =>
      refine wpAny_bind (wpAny_rule (wpAny_bind (wpAny_holding (wpAny_mono hr (fun _ s'' hr' => ?_) fun _ _ h' => h'))))
      obtain ⟨m, hn, hr'⟩ := hr'
      exact wpAny_bind (wpAny_comp_letGo (cenv := { cenv with scope := relabel scope env }) hkind _ s'' m hv' hn fun h' m' _ hs' => wpAny_pure (hr' h' hs'))
  | error x =>
    have hr' : ∃ m, s'.heap.Ns cenv.locals m ∧ ∀ h', Heap.SameBut cenv.locals s'.heap h' → ∀ cenv' : Env, cenv'.locals = cenv.locals → cenv'.frame = env.frame → wpAny M A (passOn "comprehension.variables-let-go" x cenv' : Sem Value) (fun _ _ => False) E { s' with heap := h' } := by cases use <;> exact hr
    obtain ⟨m, hn, hr⟩ := hr'
    exact wpAny_bind (wpAny_holding (wpAny_comp_letGo (cenv := { cenv with scope := relabel scope env }) hkind _ s' m hv hn fun h' m' _ hs' => wpAny_mono (hr h' hs' _ rfl hcf) (fun _ _ f => f.elim) fun _ _ y => y))
end
section
variable {X : Cx}
/-- what an element may let out: at the comprehension's own slots -/
abbrev wB (W : WX) (σ : L2.St) : L2.St → XK := fun _ cls d H => W cls d σ H
/-- [elt for target in iter], the element's calls may let exceptions out: te by what is wished of them -/
def tLcX (W : WX) (wi : TI) (g : TG) (tt : TT) (te : (L2.St → XK) → TE) (vs : List Nat) : TE := fun σ H Q => tLc wi g tt (te (wB W σ)) vs σ H Q
theorem lcx_core {W : WX} {pins : List (Addr × Obj)} {s : Shared} {σ : L2.St} {H : Hp} {Q : VK} {elt tg iter : Expr} {ifs : List Expr} {scope : Scope} {own : List (Str × Nat)} {pos pos' : Pos} {wi : TI} {g : TG} {tt : TT} {te : (L2.St → XK) → TE} {use : Option (Value → Sem Unit)} {Qf : Value → Shared → Prop}
    (tk : Takes X W) (hst : X.stack = X.env :: X.outer) (hfr : X.env.frame = some X.env.locals) (hex : X.ex = [])
    (hc : X.calm = true) (hN : X.N.Nodup) (I : Inv X pins σ H s) (hi : PI X tg iter wi) (ok : BlkOk X.N X.env.scope scope own)
    (hg : ∀ (s : Shared) (H : Hp) (C : Addr) (cl : List (Str × Addr)) (fp : List Addr), PG (X.blk s H scope (compEnvC scope cl C X.env) fp) tg g) (ht : ∀ (s : Shared) (H : Hp) (C : Addr) (cl : List (Str × Addr)) (fp : List Addr), PTs (X.blk s H scope (compEnvC scope cl C X.env) fp) ifs tt)
    (he : ∀ (s : Shared) (H : Hp) (C : Addr) (cl : List (Str × Addr)) (fp : List Addr) (xe : Value → Shared → Prop) (E : L2.St → XK), (∀ σ, PassesAt (L2.CX X.prog X.w) ((X.blk s H scope (compEnvC scope cl C X.env) fp).tr [] xe) σ (E σ)) → PE ((X.blk s H scope (compEnvC scope cl C X.env) fp).tr [] xe) elt (te E)) (hs : ∀ x, foldedSetIterable iter X.env x = pure x)
    (h : tLcX W wi g tt te (own.map (·.2)) σ H Q)
    (hRR : ∀ D C s' m H', Inv X pins σ H' s' → Q (.ref D) H' → s'.heap.Ns C m → FpOk X pins H' C → Post (model X.prog X.w) X.A X.xe X.env.frame use Qf (.ref D) C (.ok .next) s') :
    wpAny (model X.prog X.w) X.A (comprehension (.ListComp elt [⟨tg, iter, ifs, 0⟩] scope pos) scope X.env pos' (newList []) false (eval iter X.env) use) Qf X.xe s := by
  have hfree : ∀ y ∈ scope.names, y.2 = .free → ∃ c, X.env.cells.lookup y.1 = some c := fun y hy e => by
    rcases ok.free y hy e with k | k
    · exact I.ok.has _ (.inl k)
    · exact I.ok.has _ (.inr k)
  refine free (use := use) rfl hs (closure_ok hfree) ok.kind (fun y hy e => by rw [ok.uniq y hy, e])
    (thn (hi.run pins s σ H _ I h) fun xv s1 hx => thn hx fun itv s2 h2 => ?_)
  obtain ⟨it, fp, tn, J, H2, e, I2, T, st2, f2, q⟩ := h2
  subst e
  refine wpAny_newObj_type (newEnv_comp ⟨rfl, ?_⟩) (by show 0 ≤ sizeLine; decide)
  generalize hD : s2.heap.objs.size = D
  have hDn : H2 D = none := I2.hok.fresh (Nat.le_of_eq hD)
  obtain ⟨W0, ⟨m0, w0⟩, turn⟩ := q D hDn
  generalize hs3 : ({ s2 with heap := s2.heap.push { cls := .type "list", data := .seq ([] : List Value).toArray } } : Shared) = s3
  have I3 : Inv X pins σ (upd H2 D (.lst [])) s3 := by
    rw [← hs3]
    refine I2.laid (t' := s2.toks) (fun b o e => Heap.get?_push_of_some _ e) (Nat.le_of_eq hD) ⟨Nat.zero_le _, [], 0, .nil, ?_⟩
    rw [← hD]
    exact Heap.get?_push_size _ rfl
  have h3 : s3.heap = s2.heap.push { cls := .type "list", data := .seq ([] : List Value).toArray } := by rw [← hs3]
  have sz : ∀ b ∈ fp, b < s2.heap.objs.size := fun b hb => by
    obtain ⟨o, e, _⟩ := T.obj _ _ st2 b hb
    exact Heap.lt_size e
  have f3 : ∀ b ∈ fp, FpOk X pins (upd H2 D (.lst [])) b ∧ b < s3.heap.objs.size := fun b hb => by
    have hlt := sz b hb
    refine ⟨⟨?_, (f2 b hb).2⟩, by rw [h3, Heap.size_push]; exact Nat.lt_succ_of_lt hlt⟩
    rw [upd_ne (by rw [← hD]; exact Nat.ne_of_lt hlt)]
    exact (f2 b hb).1
  have st3 : tn 0 s3.heap := T.keep _ _ _ st2 fun b _ o e => by rw [h3]; exact Heap.get?_push_of_some _ e
  have I4 := block_start I3 ok hN f3
  have pg := hg s3 (upd H2 D (.lst [])) s3.heap.objs.size (cellsFrom (s3.heap.objs.size + 1) scope.names (cloFrom X.env.cells scope.names [])) fp
  have pt := ht s3 (upd H2 D (.lst [])) s3.heap.objs.size (cellsFrom (s3.heap.objs.size + 1) scope.names (cloFrom X.env.cells scope.names [])) fp
  have pe := he s3 (upd H2 D (.lst [])) s3.heap.objs.size (cellsFrom (s3.heap.objs.size + 1) scope.names (cloFrom X.env.cells scope.names [])) fp
  show codeAny _ _ (.compStart (.ListComp elt [⟨tg, iter, ifs, 0⟩] scope pos) 0 (.ref it) (.ref D) (compEnvC scope (cellsFrom (s3.heap.objs.size + 1) scope.names (cloFrom X.env.cells scope.names [])) s3.heap.objs.size X.env)) (Post (model X.prog X.w) X.A X.xe X.env.frame use Qf (.ref D) s3.heap.objs.size) { s3 with heap := pushCells (s3.heap.push { cls := .type "dict", data := .dict #[] }) scope.names }
  have nfp : ∀ b ∈ fp, (upd H2 D (.lst [])) b = none := fun b hb => (f3 b hb).1.1
  have cF : (compEnvC scope (cellsFrom (s3.heap.objs.size + 1) scope.names (cloFrom X.env.cells scope.names [])) s3.heap.objs.size X.env).frame = X.env.frame := rfl
  generalize hce : compEnvC scope (cellsFrom (s3.heap.objs.size + 1) scope.names (cloFrom X.env.cells scope.names [])) s3.heap.objs.size X.env = ce at I4 pg pt pe cF ⊢
  have cL : ce.locals = s3.heap.objs.size := by subst hce; rfl
  generalize hH3 : upd H2 D (.lst []) = H3 at I3 I4 pg pt pe w0 nfp f3
  generalize hs4 : ({ s3 with heap := pushCells (s3.heap.push { cls := .type "dict", data := .dict #[] }) scope.names } : Shared) = s4 at I4 ⊢
  have st4 : tn 0 s4.heap := T.keep _ _ _ st3 fun b _ o e => by rw [← hs4]; exact pushCells_keeps _ _ _ _ (Heap.get?_push_of_some _ e)
  have stat : ∀ {σ' : L2.St} {H' : Hp} {s' : Shared}, Inv (X.blk s3 H3 scope ce fp) [] σ' H' s' → (∀ b ∈ fp, H' b = none) → ∀ b ∈ fp, FpOk (X.blk s3 H3 scope ce fp) [] H' b := fun {σ' H' s'} I' hn b hb =>
    ⟨hn b hb, (I'.ok.exf b hb).1, I'.ok.exfs b hb, .inl hb, fun x c e => (I'.ok.exf b hb).2 x c e, fun p hp => absurd (show p ∈ ([] : List (Addr × Obj)) ++ [] from hp) (by simp)⟩
  -- what an exception of the element comes to
  have hpass : ∀ σ', PassesAt (L2.CX X.prog X.w) ((X.blk s3 H3 scope ce fp).tr [] (notedBy (model X.prog X.w) X.A ce fun e s' => Post (model X.prog X.w) X.A X.xe X.env.frame use Qf (.ref D) s3.heap.objs.size (.error e) s')) σ' (wB W σ σ') := by
    intro σ' pins' Hr s6 e s7 IY c
    have IX : Inv X pins σ Hr s6 := I3.call' (ch := fp) IY.os IY.base IY.hok IY.bare fun b hb => ⟨(f3 b hb).1.2.2.2.1, (f3 b hb).1.2.1, (f3 b hb).1.2.2.2.2.1, (f3 b hb).1.2.2.2.2.2⟩
    have nC : Hr s3.heap.objs.size = none := by
      have z : Hr ce.locals = none := IY.free
      rw [cL] at z
      exact z
    obtain ⟨m, hn, _⟩ := IY.loc
    have hn : s6.heap.Ns ce.locals m := hn
    rw [cL] at hn
    exact raise_out tk hst hfr hex IX (I3.fpOk (Nat.le_refl _) nC) ⟨m, hn⟩ (fun _ _ _ h => h) c cF
  have pe := pe _ _ hpass
  have loop : codeAny (model X.prog X.w) X.A (.compLoop (.ListComp elt [⟨tg, iter, ifs, 0⟩] scope pos) 0 (.ref it) (.ref D) ce) (Post (model X.prog X.w) X.A X.xe X.env.frame use Qf (.ref D) s3.heap.objs.size) s4 := by
    refine compLoop_any (fun n s' => ∃ i H', Inv (X.blk s3 H3 scope ce fp) [] (wipe σ (own.map (·.2))) H' s' ∧ tn i s'.heap ∧ (∀ b ∈ fp, H' b = none) ∧ W0 i n H') ?_ m0 ⟨0, H3, I4, st4, nfp, w0⟩
    rintro n s5 ⟨i, H5, I5, st5, n5, w5⟩
    rcases turn i n H5 w5 with ⟨stop, qq⟩ | ⟨go, Nx, hNx, step⟩
    · have td := T.done (X.blk s3 H3 scope ce fp) rfl rfl rfl hc i [] s5 _ H5 (fun _ _ => False) I5 (stat I5 n5) st5 stop
      refine thnF td fun r s6 ⟨hr, I6⟩ => ?_
      subst hr
      have I7 : Inv X pins σ H5 s6 := I3.call' (ch := fp) I6.os I6.base I6.hok I6.bare fun b hb => ⟨(f3 b hb).1.2.2.2.1, (f3 b hb).1.2.1, (f3 b hb).1.2.2.2.2.1, (f3 b hb).1.2.2.2.2.2⟩
      have nC : H5 s3.heap.objs.size = none := by
        have z : H5 ce.locals = none := I6.free
        rw [cL] at z
        exact z
      obtain ⟨m, hn, _⟩ := I6.loc
      have hn : s6.heap.Ns ce.locals m := hn
      rw [cL] at hn
      exact hRR D s3.heap.objs.size s6 m H5 I7 qq hn (I3.fpOk (Nat.le_refl _) nC)
    · have ti := T.item (X.blk s3 H3 scope ce fp) rfl rfl rfl hc i [] s5 _ H5 (fun _ _ => False) I5 (stat I5 n5) st5 go
      refine thnF ti fun r s6 ⟨u, hr, h6⟩ => ?_
      subst hr
      refine thnF h6 fun _ s7 ⟨x, H7, I7, r7, y7, st7, n7⟩ => ?_
      have I7' := I7.pinned (stat I7 n7) (T.obj _ _ st7)
      refine thnF (pg.run _ s7 _ H7 x u _ I7' r7 (step x H7 y7)) fun _ s8 ⟨σ8, H8, I8, hw8, q8⟩ => ?_
      refine thnF (pt.run _ s8 σ8 H8 _ I8 q8) fun b s9 ⟨H9, I9, q9⟩ => ?_
      have fin : ∀ {s' : Shared} {H' : Hp}, Inv (X.blk s3 H3 scope ce fp) ([] ++ pinsAt fp s7.heap) σ8 H' s' → Nx H' → ∃ m, m < n ∧ ∃ i H', Inv (X.blk s3 H3 scope ce fp) [] (wipe σ (own.map (·.2))) H' s' ∧ tn i s'.heap ∧ (∀ b ∈ fp, H' b = none) ∧ W0 i m H' := fun {s' H'} I' nx => by
        obtain ⟨m', hm, w'⟩ := hNx H' nx
        have pin' : ∀ b ∈ fp, ∀ o, s7.heap.get? b = some o → s'.heap.get? b = some o ∧ H' b = none := fun b hb o e =>
          let z := I'.pin (b, o) (List.mem_append_right _ (List.mem_append_right _ (mem_pinsAt hb e)))
          ⟨z.1, z.2.1⟩
        have hl : (wipe σ (own.map (·.2))).length = σ8.length := by rw [← hw8, wipe_length]
        refine ⟨m', hm, i + 1, H', (I'.unpinned (pins := [])).weak hl (fun j v e => ?_), T.keep _ _ _ st7 fun b hb o e => (pin' b hb o e).1, fun b hb => ?_, w'⟩
        · rw [← hw8] at e
          exact (wipe_some e).1
        · obtain ⟨o, e, _⟩ := T.obj _ _ st7 b hb
          exact (pin' b hb o e).2
      cases b with
      | false =>
        simp only [Bool.false_eq_true, if_false] at q9 ⊢
        exact fin I9 q9
      | true =>
        simp only [if_true] at q9 ⊢
        have I9t : Inv ((X.blk s3 H3 scope ce fp).tr [] (notedBy (model X.prog X.w) X.A ce fun e s' => Post (model X.prog X.w) X.A X.xe X.env.frame use Qf (.ref D) s3.heap.objs.size (.error e) s')) ([] ++ pinsAt fp s7.heap) σ8 H9 s9 :=
          ⟨I9.ok.toTry _ _, I9.os, I9.bare, I9.base, I9.loc, I9.cell, I9.free, I9.freeC, I9.pin, I9.hok, I9.len⟩
        refine wpAny_mono (pe.run _ s9 σ8 H9 _ I9t q9) (fun z s10 ⟨yv, H10, I10, r10, acc, hD10, hz10, nx⟩ => ?_) (fun _ _ z => z)
        have I10' : Inv (X.blk s3 H3 scope ce fp) ([] ++ pinsAt fp s7.heap) σ8 H10 s10 := ⟨I9.ok, I10.os, I10.bare, I10.base, I10.loc, I10.cell, I10.free, I10.freeC, I10.pin, I10.hok, I10.len⟩
        exact app_ok (X := X.blk s3 H3 scope ce fp) I10' hD10 hz10 r10 fun s11 I11 => fin I11 nx
  exact codeAny_compStart_list loop (T.self X.A 0 _ _ _ st4 loop)
/-- as a value -/
theorem pe_lcX {W : WX} {elt tg iter : Expr} {ifs : List Expr} {scope : Scope} {own : List (Str × Nat)} {pos : Pos} {wi : TI} {g : TG} {tt : TT} {te : (L2.St → XK) → TE} (tk : Takes X W) (hst : X.stack = X.env :: X.outer) (hfr : X.env.frame = some X.env.locals) (hex : X.ex = [])
    (hc : X.calm = true) (hN : X.N.Nodup) (hi : PI X tg iter wi) (ok : BlkOk X.N X.env.scope scope own)
    (hg : ∀ (s : Shared) (H : Hp) (C : Addr) (cl : List (Str × Addr)) (fp : List Addr), PG (X.blk s H scope (compEnvC scope cl C X.env) fp) tg g) (ht : ∀ (s : Shared) (H : Hp) (C : Addr) (cl : List (Str × Addr)) (fp : List Addr), PTs (X.blk s H scope (compEnvC scope cl C X.env) fp) ifs tt)
    (he : ∀ (s : Shared) (H : Hp) (C : Addr) (cl : List (Str × Addr)) (fp : List Addr) (xe : Value → Shared → Prop) (E : L2.St → XK), (∀ σ, PassesAt (L2.CX X.prog X.w) ((X.blk s H scope (compEnvC scope cl C X.env) fp).tr [] xe) σ (E σ)) → PE ((X.blk s H scope (compEnvC scope cl C X.env) fp).tr [] xe) elt (te E)) (hs : ∀ x, foldedSetIterable iter X.env x = pure x := by intro _; rfl) :
    PE X (.ListComp elt [⟨tg, iter, ifs, 0⟩] scope pos) (tLcX W wi g tt te (own.map (·.2))) := by
  refine ⟨fun pins s σ H Q I h => ?_⟩
  rw [eval_ListComp]
  refine lcx_core tk hst hfr hex hc hN I hi ok hg ht he hs h fun D C s' m H' I' q hn f => ⟨m, hn, fun h'' sb => ?_⟩
  obtain ⟨f0, f1, f2, f3, f4, f5⟩ := f
  exact ⟨.ref D, H', I'.turned (t' := s'.toks) (fun b o hb e => (sb.2 b hb).trans e) f0 f1 f3 f4 f5, rfl, q⟩
end
end LR
namespace NI
open PySem PySem.Spec PyProof.Rows L2
def isN : Value → Bool
  | .none => true
  | _ => false
def isNV : V → Bool
  | .non => true
  | _ => false
/-- what stands in the list: None, a whole number, a text, a tuple -/
def It1 (K : PySem.W.Frag) (H : Hp) (v : V) : Prop := v = .non ∨ (∃ i, v = .int i) ∨ (∃ z, v = .str z) ∨ ∃ p xs, v = .ref p ∧ SqT K H p xs
def rNotInN (K : PySem.W.Frag) : R2 := fun x y H Q => ∃ p xs, x = .non ∧ y = .ref p ∧ SqL K H p xs ∧ (∀ v ∈ xs, It1 K H v) ∧ Q (.bl (!xs.any isNV)) H
theorem any_isN {K : PySem.W.Frag} {H : Hp} : ∀ {xs : List V} {us : List Value}, Vals xs us → (∀ v ∈ xs, It1 K H v) → us.any isN = xs.any isNV
  | _, _, .nil, _ => rfl
  | y :: xs, u :: us, .cons r t, f => by
    rw [List.any_cons, List.any_cons, any_isN t fun v hv => f v (.tail _ hv)]
    congr 1
    rcases f y (.head _) with rfl | ⟨i, rfl⟩ | ⟨z, rfl⟩ | ⟨p, ys, rfl, _⟩
    · cases r; rfl
    · obtain ⟨t, rfl⟩ := r; rfl
    · obtain ⟨t, rfl⟩ := r; rfl
    · cases r; rfl
section
variable {X : Cx}
theorem op_notInN (hu : X.A.units + 1 < cLine) : OpR X (compareOp .NotIn) (rNotInN X.K) := by
  intro pins s σ H x y v u Q I rx ry h
  obtain ⟨p, xs, rfl, rfl, hq, hit, q⟩ := h
  cases rx
  cases ry
  obtain ⟨its, r, pl, hz⟩ := I.list hq
  have each : ∀ {xs : List V} {us : List Value}, Vals xs us → (∀ v ∈ xs, It1 X.K H v) → ∀ w ∈ us, SeqAt.EqAt X.A.in1 s w .none (isN w) := by
    intro xs us r
    induction r with
    | nil => intro _ w hw; cases hw
    | @cons y u xs us r t ih =>
      intro f w hw
      rcases List.mem_cons.mp hw with rfl | hw
      · rcases f y (.head _) with rfl | ⟨i, rfl⟩ | ⟨z, rfl⟩ | ⟨p, ys, rfl, hs⟩
        · cases r
          exact SeqAt.EqAt.same .none
        · obtain ⟨t, rfl⟩ := r
          exact SeqAt.EqAt.int_none i t
        · obtain ⟨t, rfl⟩ := r
          exact SeqAt.EqAt.str_none z t
        · cases r
          obtain ⟨it2, _, ht, _⟩ := I.tuple hs
          exact SeqAt.EqAt.tuple_none ht (by show X.A.units + 1 < cLine; exact hu)
      · exact ih (fun v hv => f v (.tail _ hv)) w hw
  refine SeqAt.notIn_listAt isN pl.isList (fun w hw => each r hit w (by simpa using hw)) ⟨.bl _, H, I, rfl, ?_⟩
  rw [show its.toArray.any isN = its.any isN by simp, any_isN r hit]
  exact q
end
end NI
abbrev s_INoText : Stmt := inClass (PySem.Challenge.pw_stampedwait_k80_texts_of_no_deed.main.body.getD 3 (.Pass ⟨0, 0, 0, 0⟩)) 0
theorem sc_INoText : FnScope ["self", "row"] ["self", "row"] (defScope s_INoText) := ⟨rfl, rfl, rfl, by decide +kernel, rfl, by decide +kernel, by decide +kernel⟩

open PySem in
def KeysIn (ns : List Str) : List DictEntry → Prop
  | [] => True
  | e :: r => (∃ x t, e.key = .str x t ∧ x ∈ ns) ∧ KeysIn ns r
def DNAMES : List Str := ["tick", "set", "pace", "stop", "back", "choose", "renew", "catch", "mark", "gone", "begin", "again", "take", "read", "write", "finish", "tell", "stay", "deliver", "lose", "question", "at", "copy", "now", "move", "form", "settle"]

def top (i : Nat) : Stmt := PySem.Challenge.pw_stampedwait_k80_texts_of_no_deed.main.body.getD i (.Pass ⟨0, 0, 0, 0⟩)
abbrev s_is_key : Stmt := top 12
abbrev s_is_number_text : Stmt := top 19
abbrev s_read_number : Stmt := top 20
abbrev s_read_numbers : Stmt := top 21
abbrev s_read_worth : Stmt := top 22
abbrev s_read_pace : Stmt := top 23
abbrev s_read_key : Stmt := top 24
abbrev s_read_keys : Stmt := top 25
abbrev s_read_way : Stmt := top 26
abbrev s_read_thing : Stmt := top 28
abbrev s_read_deed : Stmt := top 29
abbrev s_read_deed_words : Stmt := top 30
abbrev s_l_begun : Stmt := top 32
abbrev s_l_take : Stmt := top 33
abbrev s_l_a_key : Stmt := top 34
abbrev s_l_number : Stmt := top 35
abbrev s_l_things : Stmt := top 36
abbrev s_l_kinds : Stmt := top 37
abbrev s_l_text : Stmt := top 38
abbrev s_l_drawn : Stmt := top 39
abbrev s_l_is_number : Stmt := top 40
abbrev s_l_is_key : Stmt := top 41
abbrev s_l_read_thing : Stmt := top 42
abbrev s_l_due : Stmt := top 43
abbrev s_l_right : Stmt := top 44
abbrev s_l_bent : Stmt := top 45
abbrev s_law : Stmt := top 46
theorem sc_is_key : FnScope ["thing"] ["thing"] (defScope s_is_key) := ⟨rfl, rfl, rfl, by decide +kernel, rfl, by decide +kernel, by decide +kernel⟩
theorem sc_is_number_text : FnScope ["text", "figures"] ["text"] (defScope s_is_number_text) := ⟨rfl, rfl, rfl, by decide +kernel, rfl, by decide +kernel, by decide +kernel⟩
theorem sc_read_number : FnScope ["text"] ["text"] (defScope s_read_number) := ⟨rfl, rfl, rfl, by decide +kernel, rfl, by decide +kernel, by decide +kernel⟩
theorem sc_read_numbers : FnScope ["text", "sign", "least", "most", "parts", "part"] ["text", "sign", "least", "most"] (defScope s_read_numbers) := ⟨rfl, rfl, rfl, by decide +kernel, rfl, by decide +kernel, by decide +kernel⟩
theorem sc_read_worth : FnScope ["text"] ["text"] (defScope s_read_worth) := ⟨rfl, rfl, rfl, by decide +kernel, rfl, by decide +kernel, by decide +kernel⟩
theorem sc_read_pace : FnScope ["text"] ["text"] (defScope s_read_pace) := ⟨rfl, rfl, rfl, by decide +kernel, rfl, by decide +kernel, by decide +kernel⟩
theorem sc_read_key : FnScope ["text"] ["text"] (defScope s_read_key) := ⟨rfl, rfl, rfl, by decide +kernel, rfl, by decide +kernel, by decide +kernel⟩
theorem sc_read_keys : FnScope ["text", "part"] ["text"] (defScope s_read_keys) := ⟨rfl, rfl, rfl, by decide +kernel, rfl, by decide +kernel, by decide +kernel⟩
theorem sc_read_way : FnScope ["text"] ["text"] (defScope s_read_way) := ⟨rfl, rfl, rfl, by decide +kernel, rfl, by decide +kernel, by decide +kernel⟩
theorem sc_read_thing : FnScope ["text", "kind", "reader"] ["text", "kind"] (defScope s_read_thing) := ⟨rfl, rfl, rfl, by decide +kernel, rfl, by decide +kernel, by decide +kernel⟩
theorem sc_read_deed : FnScope ["text"] ["text"] (defScope s_read_deed) := ⟨rfl, rfl, rfl, by decide +kernel, rfl, by decide +kernel, by decide +kernel⟩
theorem sc_read_deed_words : FnScope ["words", "kinds", "thing", "kind"] ["words"] (defScope s_read_deed_words) := ⟨rfl, rfl, rfl, by decide +kernel, rfl, by decide +kernel, by decide +kernel⟩
theorem sc_l_begun : FnScope ["_law_script", "_law_k", "_law_cell", "_law_number_here", "_law_mixed"] ["_law_script", "_law_k"] (defScope s_l_begun) := ⟨rfl, rfl, rfl, by decide +kernel, rfl, by decide +kernel, by decide +kernel⟩
theorem sc_l_take : FnScope ["_law_state", "_law_many", "_law_digit", "_law_made", "_law_turn"] ["_law_state", "_law_many"] (defScope s_l_take) := ⟨rfl, rfl, rfl, by decide +kernel, rfl, by decide +kernel, by decide +kernel⟩
theorem sc_l_a_key : FnScope ["_law_state"] ["_law_state"] (defScope s_l_a_key) := ⟨rfl, rfl, rfl, by decide +kernel, rfl, by decide +kernel, by decide +kernel⟩
theorem sc_l_number : FnScope ["_law_state", "_law_far"] ["_law_state"] (defScope s_l_number) := ⟨rfl, rfl, rfl, by decide +kernel, rfl, by decide +kernel, by decide +kernel⟩
theorem sc_l_things : FnScope ["_law_state", "_law_kinds_here", "_law_found", "_law_kind", "_law_pace", "_law_worth", "_law_some", "_law_mode", "_law_menu", "_law_part"] ["_law_state", "_law_kinds_here"] (defScope s_l_things) := ⟨rfl, rfl, rfl, by decide +kernel, rfl, by decide +kernel, by decide +kernel⟩
theorem sc_l_kinds : FnScope ["_law_found"] [] (defScope s_l_kinds) := ⟨rfl, rfl, rfl, by decide +kernel, rfl, by decide +kernel, by decide +kernel⟩
theorem sc_l_text : FnScope ["_law_deed", "_law_kinds_here", "_law_words", "_law_kind", "_law_thing", "_law_one"] ["_law_deed"] (defScope s_l_text) := ⟨rfl, rfl, rfl, by decide +kernel, rfl, by decide +kernel, by decide +kernel⟩
theorem sc_l_drawn : FnScope ["_law_state", "_law_some", "_law_word"] ["_law_state"] (defScope s_l_drawn) := ⟨rfl, rfl, rfl, by decide +kernel, rfl, by decide +kernel, by decide +kernel⟩
theorem sc_l_is_number : FnScope ["_law_word", "_law_rest", "_law_sign"] ["_law_word"] (defScope s_l_is_number) := ⟨rfl, rfl, rfl, by decide +kernel, rfl, by decide +kernel, by decide +kernel⟩
theorem sc_l_is_key : FnScope ["_law_word", "_law_sign"] ["_law_word"] (defScope s_l_is_key) := ⟨rfl, rfl, rfl, by decide +kernel, rfl, by decide +kernel, by decide +kernel⟩
theorem sc_l_read_thing : FnScope ["_law_kind", "_law_word", "_law_parts", "_law_numbers", "_law_one"] ["_law_kind", "_law_word"] (defScope s_l_read_thing) := ⟨rfl, rfl, rfl, by decide +kernel, rfl, by decide +kernel, by decide +kernel⟩
theorem sc_l_due : FnScope ["_law_text_here", "_law_words", "_law_kinds_here", "_law_things_here", "_law_kind", "_law_word"] ["_law_text_here"] (defScope s_l_due) := ⟨rfl, rfl, rfl, by decide +kernel, rfl, by decide +kernel, by decide +kernel⟩
theorem sc_l_right : FnScope ["_law_text_here", "_law_caught", "_law_found", "e", "_law_due_here"] ["_law_text_here"] (defScope s_l_right) := ⟨rfl, rfl, rfl, by decide +kernel, rfl, by decide +kernel, by decide +kernel⟩
theorem sc_l_bent : FnScope ["_law_state", "_law_text_here", "_law_signs", "_law_at", "_law_sign", "_law_way", "_law_words", "_law_odd"] ["_law_state", "_law_text_here"] (defScope s_l_bent) := ⟨rfl, rfl, rfl, by decide +kernel, rfl, by decide +kernel, by decide +kernel⟩
theorem sc_law : FnScope ["_law_script", "_law_k", "_law_state", "_law_text_here", "_law_turn", "_law_other", "_law_some", "_law_thing"] ["_law_script"] (defScope s_law) := ⟨rfl, rfl, rfl, by decide +kernel, rfl, by decide +kernel, by decide +kernel⟩
/-- what the top has written -/
structure Txt (w : World) (K : PySem.W.Frag) (mg : Str → Option Value) (a : Nat → Addr) (d : Nat → FuncData) : Prop where
  g_is_key : mg "is_key" = some (.ref (a 0))
  F_is_key : Fun K "is_key" "is_key" s_is_key (a 0) (d 0)
  b_is_key : Binds K (d 0) ["thing"] []
  g_is_number_text : mg "is_number_text" = some (.ref (a 1))
  F_is_number_text : Fun K "is_number_text" "is_number_text" s_is_number_text (a 1) (d 1)
  b_is_number_text : Binds K (d 1) ["text"] []
  g_read_number : mg "read_number" = some (.ref (a 2))
  F_read_number : Fun K "read_number" "read_number" s_read_number (a 2) (d 2)
  b_read_number : Binds K (d 2) ["text"] []
  g_read_numbers : mg "read_numbers" = some (.ref (a 3))
  F_read_numbers : Fun K "read_numbers" "read_numbers" s_read_numbers (a 3) (d 3)
  b_read_numbers : Binds K (d 3) ["text", "sign", "least", "most"] []
  g_read_worth : mg "read_worth" = some (.ref (a 4))
  F_read_worth : Fun K "read_worth" "read_worth" s_read_worth (a 4) (d 4)
  b_read_worth : Binds K (d 4) ["text"] []
  g_read_pace : mg "read_pace" = some (.ref (a 5))
  F_read_pace : Fun K "read_pace" "read_pace" s_read_pace (a 5) (d 5)
  b_read_pace : Binds K (d 5) ["text"] []
  g_read_key : mg "read_key" = some (.ref (a 6))
  F_read_key : Fun K "read_key" "read_key" s_read_key (a 6) (d 6)
  b_read_key : Binds K (d 6) ["text"] []
  g_read_keys : mg "read_keys" = some (.ref (a 7))
  F_read_keys : Fun K "read_keys" "read_keys" s_read_keys (a 7) (d 7)
  b_read_keys : Binds K (d 7) ["text"] []
  g_read_way : mg "read_way" = some (.ref (a 8))
  F_read_way : Fun K "read_way" "read_way" s_read_way (a 8) (d 8)
  b_read_way : Binds K (d 8) ["text"] []
  g_read_thing : mg "read_thing" = some (.ref (a 9))
  F_read_thing : Fun K "read_thing" "read_thing" s_read_thing (a 9) (d 9)
  b_read_thing : Binds K (d 9) ["text", "kind"] []
  g_read_deed : mg "read_deed" = some (.ref (a 10))
  F_read_deed : Fun K "read_deed" "read_deed" s_read_deed (a 10) (d 10)
  b_read_deed : Binds K (d 10) ["text"] []
  g_read_deed_words : mg "read_deed_words" = some (.ref (a 11))
  F_read_deed_words : Fun K "read_deed_words" "read_deed_words" s_read_deed_words (a 11) (d 11)
  b_read_deed_words : Binds K (d 11) ["words"] []
  g_l_begun : mg "_law_begun" = some (.ref (a 12))
  F_l_begun : Fun K "_law_begun" "_law_begun" s_l_begun (a 12) (d 12)
  b_l_begun : Binds K (d 12) ["_law_script", "_law_k"] []
  g_l_take : mg "_law_take" = some (.ref (a 13))
  F_l_take : Fun K "_law_take" "_law_take" s_l_take (a 13) (d 13)
  b_l_take : Binds K (d 13) ["_law_state", "_law_many"] []
  g_l_a_key : mg "_law_a_key" = some (.ref (a 14))
  F_l_a_key : Fun K "_law_a_key" "_law_a_key" s_l_a_key (a 14) (d 14)
  b_l_a_key : Binds K (d 14) ["_law_state"] []
  g_l_number : mg "_law_number" = some (.ref (a 15))
  F_l_number : Fun K "_law_number" "_law_number" s_l_number (a 15) (d 15)
  b_l_number : Binds K (d 15) ["_law_state"] []
  g_l_things : mg "_law_things" = some (.ref (a 16))
  F_l_things : Fun K "_law_things" "_law_things" s_l_things (a 16) (d 16)
  b_l_things : Binds K (d 16) ["_law_state", "_law_kinds_here"] []
  g_l_kinds : mg "_law_kinds" = some (.ref (a 17))
  F_l_kinds : Fun K "_law_kinds" "_law_kinds" s_l_kinds (a 17) (d 17)
  b_l_kinds : Binds K (d 17) [] []
  g_l_text : mg "_law_text" = some (.ref (a 18))
  F_l_text : Fun K "_law_text" "_law_text" s_l_text (a 18) (d 18)
  b_l_text : Binds K (d 18) ["_law_deed"] []
  g_l_drawn : mg "_law_drawn" = some (.ref (a 19))
  F_l_drawn : Fun K "_law_drawn" "_law_drawn" s_l_drawn (a 19) (d 19)
  b_l_drawn : Binds K (d 19) ["_law_state"] []
  g_l_is_number : mg "_law_is_number" = some (.ref (a 20))
  F_l_is_number : Fun K "_law_is_number" "_law_is_number" s_l_is_number (a 20) (d 20)
  b_l_is_number : Binds K (d 20) ["_law_word"] []
  g_l_is_key : mg "_law_is_key" = some (.ref (a 21))
  F_l_is_key : Fun K "_law_is_key" "_law_is_key" s_l_is_key (a 21) (d 21)
  b_l_is_key : Binds K (d 21) ["_law_word"] []
  g_l_read_thing : mg "_law_read_thing" = some (.ref (a 22))
  F_l_read_thing : Fun K "_law_read_thing" "_law_read_thing" s_l_read_thing (a 22) (d 22)
  b_l_read_thing : Binds K (d 22) ["_law_kind", "_law_word"] []
  g_l_due : mg "_law_due" = some (.ref (a 23))
  F_l_due : Fun K "_law_due" "_law_due" s_l_due (a 23) (d 23)
  b_l_due : Binds K (d 23) ["_law_text_here"] []
  g_l_right : mg "_law_right" = some (.ref (a 24))
  F_l_right : Fun K "_law_right" "_law_right" s_l_right (a 24) (d 24)
  b_l_right : Binds K (d 24) ["_law_text_here"] []
  g_l_bent : mg "_law_bent" = some (.ref (a 25))
  F_l_bent : Fun K "_law_bent" "_law_bent" s_l_bent (a 25) (d 25)
  b_l_bent : Binds K (d 25) ["_law_state", "_law_text_here"] []
  g_law : mg "law" = some (.ref (a 26))
  F_law : Fun K "law" "law" s_law (a 26) (d 26)
  b_law : Binds K (d 26) ["_law_script"] []
  g_READ : ∃ t, mg "READ" = some (.str "read" t)
  g_WRITE : ∃ t, mg "WRITE" = some (.str "write" t)
  g_LETTERS : ∃ t, mg "LETTERS" = some (.str "abcdefghijklmnopqrstuvwxyz" t)
  g_MOST_LETTERS : ∃ t, mg "MOST_LETTERS" = some (.int (6) t)
  g_MOST_FIELDS : ∃ t, mg "MOST_FIELDS" = some (.int (4) t)
  g_FIGURES : ∃ t, mg "FIGURES" = some (.str "0123456789" t)
  g_MOST_FIGURES : ∃ t, mg "MOST_FIGURES" = some (.int (30) t)
  g_BLANK : ∃ t, mg "BLANK" = some (.str " " t)
  g_COMMA : ∃ t, mg "COMMA" = some (.str "," t)
  g_SLASH : ∃ t, mg "SLASH" = some (.str "/" t)
  z_max : mg "max" = none
  z_min : mg "min" = none
  z_len : mg "len" = none
  z_int : mg "int" = none
  z_range : mg "range" = none
  z_isinstance : mg "isinstance" = none
  z_tuple : mg "tuple" = none
  z_repr : mg "repr" = none
  z_list : mg "list" = none
  z_str : mg "str" = none
  z_sorted : mg "sorted" = none
  z_zip : mg "zip" = none
  g_DEEDS : mg "DEED_THINGS" = some (.ref (a 60))
  kD : KG.KIs K w (a 60)
  h0 : PySem.W.nsIn K (a 60) "tick" = some (some (.ref (a 61)))
  t0 : ∀ H : Hp, SqT K H (a 61) [V.str "number"]
  h1 : PySem.W.nsIn K (a 60) "set" = some (some (.ref (a 62)))
  t1 : ∀ H : Hp, SqT K H (a 62) [V.str "number", V.str "number", V.str "number", V.str "number"]
  h2 : PySem.W.nsIn K (a 60) "pace" = some (some (.ref (a 63)))
  t2 : ∀ H : Hp, SqT K H (a 63) [V.str "number", V.str "number", V.str "pace"]
  h3 : PySem.W.nsIn K (a 60) "stop" = some (some (.ref (a 64)))
  t3 : ∀ H : Hp, SqT K H (a 64) [V.str "number", V.str "number"]
  h4 : PySem.W.nsIn K (a 60) "back" = some (some (.ref (a 65)))
  t4 : ∀ H : Hp, SqT K H (a 65) [V.str "number", V.str "number"]
  h5 : PySem.W.nsIn K (a 60) "choose" = some (some (.ref (a 66)))
  t5 : ∀ H : Hp, SqT K H (a 66) [V.str "number", V.str "number"]
  h6 : PySem.W.nsIn K (a 60) "renew" = some (some (.ref (a 67)))
  t6 : ∀ H : Hp, SqT K H (a 67) [V.str "number"]
  h7 : PySem.W.nsIn K (a 60) "catch" = some (some (.ref (a 68)))
  t7 : ∀ H : Hp, SqT K H (a 68) [V.str "number", V.str "number"]
  h8 : PySem.W.nsIn K (a 60) "mark" = some (some (.ref (a 69)))
  t8 : ∀ H : Hp, SqT K H (a 69) [V.str "number"]
  h9 : PySem.W.nsIn K (a 60) "gone" = some (some (.ref (a 70)))
  t9 : ∀ H : Hp, SqT K H (a 70) [V.str "number", V.str "number"]
  h10 : PySem.W.nsIn K (a 60) "begin" = some (some (.ref (a 71)))
  t10 : ∀ H : Hp, SqT K H (a 71) []
  h11 : PySem.W.nsIn K (a 60) "again" = some (some (.ref (a 72)))
  t11 : ∀ H : Hp, SqT K H (a 72) [V.str "number"]
  h12 : PySem.W.nsIn K (a 60) "take" = some (some (.ref (a 73)))
  t12 : ∀ H : Hp, SqT K H (a 73) [V.str "number", V.str "key", V.str "way"]
  h13 : PySem.W.nsIn K (a 60) "read" = some (some (.ref (a 74)))
  t13 : ∀ H : Hp, SqT K H (a 74) [V.str "number", V.str "key"]
  h14 : PySem.W.nsIn K (a 60) "write" = some (some (.ref (a 75)))
  t14 : ∀ H : Hp, SqT K H (a 75) [V.str "number", V.str "key", V.str "worth"]
  h15 : PySem.W.nsIn K (a 60) "finish" = some (some (.ref (a 76)))
  t15 : ∀ H : Hp, SqT K H (a 76) [V.str "number"]
  h16 : PySem.W.nsIn K (a 60) "tell" = some (some (.ref (a 77)))
  t16 : ∀ H : Hp, SqT K H (a 77) [V.str "number"]
  h17 : PySem.W.nsIn K (a 60) "stay" = some (some (.ref (a 78)))
  t17 : ∀ H : Hp, SqT K H (a 78) [V.str "number"]
  h18 : PySem.W.nsIn K (a 60) "deliver" = some (some (.ref (a 79)))
  t18 : ∀ H : Hp, SqT K H (a 79) [V.str "number"]
  h19 : PySem.W.nsIn K (a 60) "lose" = some (some (.ref (a 80)))
  t19 : ∀ H : Hp, SqT K H (a 80) [V.str "number"]
  h20 : PySem.W.nsIn K (a 60) "question" = some (some (.ref (a 81)))
  t20 : ∀ H : Hp, SqT K H (a 81) [V.str "number"]
  h21 : PySem.W.nsIn K (a 60) "at" = some (some (.ref (a 82)))
  t21 : ∀ H : Hp, SqT K H (a 82) [V.str "number", V.str "keys"]
  h22 : PySem.W.nsIn K (a 60) "copy" = some (some (.ref (a 83)))
  t22 : ∀ H : Hp, SqT K H (a 83) [V.str "number", V.str "number", V.str "keys"]
  h23 : PySem.W.nsIn K (a 60) "now" = some (some (.ref (a 84)))
  t23 : ∀ H : Hp, SqT K H (a 84) [V.str "number", V.str "keys"]
  h24 : PySem.W.nsIn K (a 60) "move" = some (some (.ref (a 85)))
  t24 : ∀ H : Hp, SqT K H (a 85) [V.str "key", V.str "number"]
  h25 : PySem.W.nsIn K (a 60) "form" = some (some (.ref (a 86)))
  t25 : ∀ H : Hp, SqT K H (a 86) [V.str "number", V.str "number"]
  h26 : PySem.W.nsIn K (a 60) "settle" = some (some (.ref (a 87)))
  t26 : ∀ H : Hp, SqT K H (a 87) []
  g_READERS : mg "READERS" = some (.ref (a 59))
  kR : KG.KIs K w (a 59)
  r0 : PySem.W.nsIn K (a 59) "number" = some (some (.ref (a 2)))
  r1 : PySem.W.nsIn K (a 59) "pace" = some (some (.ref (a 5)))
  r2 : PySem.W.nsIn K (a 59) "key" = some (some (.ref (a 6)))
  r3 : PySem.W.nsIn K (a 59) "way" = some (some (.ref (a 8)))
  r4 : PySem.W.nsIn K (a 59) "worth" = some (some (.ref (a 4)))
  r5 : PySem.W.nsIn K (a 59) "keys" = some (some (.ref (a 7)))
  kN : ∃ es n, K.lookup (a 60) = some ⟨.type "dict", none, .dict es n, #[]⟩ ∧ KeysIn DNAMES es.toList
  gE_WaitError : mg "WaitError" = some (.ref (a 100))
  gE_NoText : mg "NoText" = some (.ref (a 101))
  gE_NoDeed : mg "NoDeed" = some (.ref (a 102))
  gE_NoRow : mg "NoRow" = some (.ref (a 103))
  xo_NoText : XB.Own K (a 101) "ValueError" "ValueError.__new__" "ValueError.__init__" [.ref (a 100), .type "ValueError", .type "Exception", .type "BaseException", .type "object"]
  ie_NoText : PySem.W.findIn K (.ref (a 101)) "__init__" = some (some (.ref (a 150)))
  ne_NoText_row : PySem.W.findIn K (.ref (a 101)) "row" = some none
  xf_NoText : XfC K (a 101)
  xc_NoText : ExcC K (a 101)
  te_NoText : PySem.W.typeIn K (.ref (a 150)) = some (.type "function")
  F_INoText : Fun K "__init__" "NoText.__init__" s_INoText (a 150) (d 150)
  b_INoText : Binds K (d 150) ["self", "row"] []
  ex_NoText_WaitError : PySem.W.exmOne K (.ref (a 101)) (.ref (a 100)) = some true
  ki_NoText_NoText : PySem.W.kitOne K (.ref (a 101)) (.ref (a 101)) = some true
  ki_NoText_NoDeed : PySem.W.kitOne K (.ref (a 101)) (.ref (a 102)) = some false
  ki_NoText_NoRow : PySem.W.kitOne K (.ref (a 101)) (.ref (a 103)) = some false


/-- a state of draws stands at s -/
def StAt (H : Hp) (s : Addr) : Prop := ∃ (a b : Int) (c : Bool), H s = some (.lst [.int a, .int b, .bl c]) ∧ 0 ≤ b ∧ b < 2147483647
/-- all else that was tracked stands; at s a state -/
def Kp (s : Addr) (H H' : Hp) : Prop := (∀ b o, b ≠ s → H b = some o → H' b = some o) ∧ StAt H' s
theorem StAt.kp {H : Hp} {s : Addr} (h : StAt H s) : Kp s H H := ⟨fun _ _ _ e => e, h⟩
theorem Kp.trans {s : Addr} {H H1 H2 : Hp} (a : Kp s H H1) (b : Kp s H1 H2) : Kp s H H2 := ⟨fun c o n e => b.1 c o n (a.1 c o n e), b.2⟩
theorem StAt.ne_new {H : Hp} {s p : Addr} (h : StAt H s) (hp : H p = none) : p ≠ s := by
  obtain ⟨a, b, c, e, _⟩ := h
  exact (ne_of_none e hp).symm
theorem StAt.new {H : Hp} {s p : Addr} {o : HO} (h : StAt H s) (hp : H p = none) : StAt (upd H p o) s := by
  obtain ⟨a, b, c, e, r⟩ := h
  exact ⟨a, b, c, by rw [upd_ne (ne_of_none e hp)]; exact e, r⟩
theorem Kp.new {s p : Addr} {H H1 : Hp} {o : HO} (k : Kp s H H1) (hp : H1 p = none) : Kp s H (upd H1 p o) :=
  ⟨fun b u n e => by rw [upd_ne (ne_of_none (k.1 b u n e) hp)]; exact k.1 b u n e, k.2.new hp⟩
theorem StAt.ne_tup {H : Hp} {s p : Addr} {xs : List V} (h : StAt H s) (hp : H p = some (.tup xs)) : p ≠ s := by
  obtain ⟨a, b, c, e, _⟩ := h
  exact ne_of hp e (by intro q; cases q)
theorem Kp.tup {s p : Addr} {H H1 : Hp} {xs : List V} (k : Kp s H H1) (h0 : StAt H s) (hp : H p = some (.tup xs)) : H1 p = some (.tup xs) := k.1 p _ (h0.ne_tup hp) hp
theorem Kp.free {s p : Addr} {H H1 : Hp} (k : Kp s H H1) (h0 : StAt H s) (hp : H1 p = none) : H p = none := by
  cases e : H p with
  | none => rfl
  | some o =>
    have z := k.1 p o (k.2.ne_new hp) e
    rw [hp] at z
    cases z
theorem Kp.same {s : Addr} {H0 H H1 : Hp} (a : Same H0 H) (hs : H0 s = none) (k : Kp s H H1) : Same H0 H1 := fun b o e => k.1 b o (ne_of_none e hs) (a b o e)
theorem same_new {H0 H : Hp} {p : Addr} {o : HO} (a : Same H0 H) (hp : H p = none) : Same H0 (upd H p o) := fun b u e => by
  rw [upd_ne (ne_of_none (a b u e) hp)]
  exact a b u e
theorem m64 {i : Int} (a : -18446744073709551616 < i) (b : i < 18446744073709551616) : -(2 ^ 64) < i ∧ i < 2 ^ 64 := by
  have e : (2 : Int) ^ 64 = 18446744073709551616 := by decide
  rw [e]
  exact ⟨a, b⟩
theorem divW {i j : Int} (h : 0 < j) (hb : j < 2 ^ 2000) : CDivW i j := wide_div (b := 2000) h (by
  have e : (j.natAbs : Int) = j := by omega
  have q : (j.natAbs : Int) < ((2 ^ 2000 : Nat) : Int) := by rw [e]; exact hb
  exact Int.ofNat_lt.mp q) (by decide) (by decide)
theorem p2000 {j : Int} (h : j ≤ 1000000000000000000000000000000) : j < 2 ^ 2000 := Int.lt_of_le_of_lt h (by decide)
theorem cell_at (ns : List Int) (lo hi : Option Int) : ∃ c : Int, atI (cutV (ns.map V.int) lo hi ++ [V.int 0]) 0 = some (V.int c) := by
  unfold cutV
  rw [← List.map_drop, ← List.map_take]
  generalize ((List.drop _ ns).take _) = l
  cases l with
  | nil => exact ⟨0, rfl⟩
  | cons x xs => exact ⟨x, atI_nat (j := 0) rfl⟩
theorem cut_len (xs : List V) (lo hi : Option Int) : (cutV xs lo hi).length ≤ xs.length := by
  unfold cutV
  rw [List.length_take, List.length_drop]
  omega
theorem bl_of {Q : VK} {H : Hp} {c : Prop} [Decidable c] (h : c) (q : Q (.bl true) H) : Q (.bl (decide c)) H := by
  rw [decide_eq_true h]
  exact q
theorem iteDT {c A B : Prop} [Decidable c] (h : c) (a : A) : if decide c = true then A else B := by
  rw [if_pos (decide_eq_true h)]
  exact a
theorem iteDF {c A B : Prop} [Decidable c] (h : ¬ c) (b : B) : if decide c = true then A else B := by
  rw [decide_eq_false h]
  exact iteF b
theorem iteND {c A B : Prop} [Decidable c] (h : ¬ c) (a : A) : if (!decide c) = true then A else B := by
  rw [decide_eq_false h]
  exact iteT a
theorem len3 : 3 ≤ sizeLine := by decide
theorem len2 : 2 ≤ sizeLine := by decide
theorem len1 : 1 ≤ sizeLine := by decide
def spBegun (K : PySem.W.Frag) : Sp := fun vs H Q _ => ∃ (l : Addr) (ns : List Int) (k : Int), vs = [.ref l, .int k] ∧ SqL K H l (ns.map V.int) ∧ ns.length ≤ 63 ∧ 0 ≤ k ∧ k ≤ 100 ∧ ∀ (p : Addr) (H' : Hp), H p = none → Same H H' → StAt H' p → Q (.ref p) H'
def spTake : Sp := fun vs H Q _ => ∃ (s : Addr) (m : Int), vs = [.ref s, .int m] ∧ StAt H s ∧ 0 < m ∧ m ≤ 1000000000000000000000000000000 ∧ ∀ (r : Int) (H' : Hp), 0 ≤ r → r < m → Kp s H H' → Q (.int r) H'

/-! ### errors -/
theorem exm_of {K : PySem.W.Frag} {S D : Addr} {b : Bool} (h1 : PySem.W.subIn K (.ref D) (.type "BaseException") = some true) (h2 : PySem.W.isClsIn K D = true) (h3 : PySem.W.typeIn K (.ref D) = some (.type "type")) (h4 : PySem.W.subIn K (.ref S) (.ref D) = some b) : PySem.W.exmOne K (.ref S) (.ref D) = some b := by
  have h5 : (PySem.W.clsIn K D).isSome = true := h2
  unfold PySem.W.exmOne PySem.W.kitCls
  simp [h1, h3, h4, h5]
theorem kit_of {K : PySem.W.Frag} {S D : Addr} {b : Bool} (h0 : PySem.W.subIn K (.ref D) (.ref D) = some true) (h2 : PySem.W.isClsIn K D = true) (h3 : PySem.W.typeIn K (.ref D) = some (.type "type")) (h4 : PySem.W.subIn K (.ref S) (.ref D) = some b) : PySem.W.kitOne K (.ref S) (.ref D) = some b := by
  have h5 : (PySem.W.clsIn K D).isSome = true := h2
  unfold PySem.W.kitOne PySem.W.kitCls
  by_cases e : S = D
  · subst e
    rw [h0] at h4
    cases h4
    simp
  · have e2 : ((Value.ref S) == (Value.ref D)) = false := by
      rw [beq_eq_false_iff_ne]
      intro z
      exact e (Value.ref.inj z)
    simp [e2, h3, h4, h5]
theorem kit_blt {K : PySem.W.Frag} {S : Addr} {T : String} {b : Bool} (h1 : PySem.W.kitMeta T = true) (h4 : PySem.W.subIn K (.ref S) (.type T) = some b) : PySem.W.kitOne K (.ref S) (.type T) = some b := by
  unfold PySem.W.kitOne PySem.W.kitCls
  simp [h1, h4]
theorem same_err3 {H H2 : Hp} {x dx : Addr} {o1 o4 : HO} (hx : H x = none) (hd : H dx = none) (k : ∀ b, b ≠ x → b ≠ dx → H2 b = upd H x o1 b) : Same H (upd (del H2 x) dx o4) := fun b o e => by
  have n1 : b ≠ x := ne_of_none e hx
  have n2 : b ≠ dx := ne_of_none e hd
  rw [upd_ne n2, del_ne n1, k b n1 n2, upd_ne n1]
  exact e
/-- an own __init__ of one field -/
def spI1 (C : Addr) (f : Str) : Sp := fun vs H Q _ => ∃ (x : Addr) (y : V), vs = [.ref x, y] ∧ H x = some (exo x C none) ∧ ∀ (dx : Addr) (H' : Hp), H dx = none → dx ≠ x → H' x = some (exo x C (some dx)) → H' dx = some (exd dx [(f, y)]) → (∀ b, b ≠ x → b ≠ dx → H' b = H b) → Q .non H'
/-- an own __init__ of two fields -/
def spI2 (C : Addr) (f g : Str) : Sp := fun vs H Q _ => ∃ (x : Addr) (y z : V), vs = [.ref x, y, z] ∧ H x = some (exo x C none) ∧ ∀ (dx : Addr) (H' : Hp), H dx = none → dx ≠ x → H' x = some (exo x C (some dx)) → H' dx = some (exd dx [(g, z), (f, y)]) → (∀ b, b ≠ x → b ≠ dx → H' b = H b) → Q .non H'
def Out2 (E : XK) (C : Addr) (f g : Str) (y z : V) (H : Hp) : Prop := ∀ (dx : Addr) (H' : Hp), Same H H' → H' dx = some (.xd [(g, z), (f, y)]) → E (.ref C) (some dx) H'
theorem xd_one (f : Str) (y : V) : ([(f, y)] : List (Str × V)).lookup f = some y := by
  have e2 : (f == f) = true := by simp
  simp [List.lookup, e2]
/-- an error is let out: of the class C, its one field f the value y -/
def Out (E : XK) (C : Addr) (f : Str) (y : V) (H : Hp) : Prop := ∀ (dx : Addr) (H' : Hp), Same H H' → H' dx = some (.xd [(f, y)]) → E (.ref C) (some dx) H'
theorem Out.up {E : XK} {C : Addr} {f : Str} {y : V} {H H1 : Hp} (h : Out E C f y H) (k : Same H H1) : Out E C f y H1 := fun dx H' s e => h dx H' (k.trans s) e
/-- two promises of one def: one that lets nothing out, and one that may -/
theorem fn_or {P : Program} {w : World} {K : PySem.W.Frag} {mg : Str → Option Value} {base : Heap} {CX : CXT} {k : Nat} {f : Addr} {fd : FuncData} {ps : List Str} {s1 s2 : Sp} (F1 : FnOk P w K mg base CX0 k f fd ps s1) (F2 : FnOk P w K mg base CX k f fd ps s2) :
    FnOk P w K mg base CX k f fd ps (fun vs H Q E => s1 vs H Q E ∨ s2 vs H Q E) := by
  refine ⟨fun vs H Q E h => ?_, fun A outer s H args us vs Q E hr he hb hv hs => ?_⟩
  · rcases h with h | h
    · exact F1.len _ _ _ _ h
    · exact F2.len _ _ _ _ h
  · rcases hs with h | h
    · refine PySem.codeAny_mono (F1.run A outer s H args us vs Q E hr he hb hv h) fun r s' z => ?_
      cases r with
      | error e => exact z.elim
      | ok fl => cases fl <;> exact z
    · exact F2.run A outer s H args us vs Q E hr he hb hv h
theorem fn_up {P : Program} {w : World} {K : PySem.W.Frag} {mg : Str → Option Value} {base : Heap} {CX : CXT} {k j : Nat} {f : Addr} {fd : FuncData} {ps : List Str} {s1 : Sp} (F1 : FnOk P w K mg base CX k f fd ps s1) (h : k ≤ j) : FnOk P w K mg base CX j f fd ps s1 :=
  ⟨F1.len, fun A outer s H args us vs Q E hr he hb hv hs => F1.run A outer s H args us vs Q E (hr.mono h) he hb hv hs⟩
theorem fn_weak {P : Program} {w : World} {K : PySem.W.Frag} {mg : Str → Option Value} {base : Heap} {CX : CXT} {k : Nat} {f : Addr} {fd : FuncData} {ps : List Str} {s1 s2 : Sp} (F1 : FnOk P w K mg base CX k f fd ps s1) (h : ∀ vs H Q E, s2 vs H Q E → s1 vs H Q E) : FnOk P w K mg base CX k f fd ps s2 :=
  ⟨fun vs H Q E z => F1.len _ _ _ _ (h _ _ _ _ z), fun A outer s H args us vs Q E hr he hb hv hs => F1.run A outer s H args us vs Q E hr he hb hv (h _ _ _ _ hs)⟩

theorem bq {Q : VK} {H : Hp} {a b : Bool} (e : a = b) (q : Q (.bl b) H) : Q (.bl a) H := by rw [e]; exact q
theorem iteNSD {c A B : Prop} [Decidable c] (h : c) (b : B) : if (!decide c) = true then A else B := by
  rw [decide_eq_true h]
  exact iteF b
theorem iteNSB {b : Bool} {A B : Prop} (h : b = true) (y : B) : if (!b) = true then A else B := by
  rw [h]
  exact iteF y
theorem iteBT {b : Bool} {A B : Prop} (h : b = true) (x : A) : if b = true then A else B := by
  rw [h]
  exact iteT x
theorem iteBF {b : Bool} {A B : Prop} (h : b = false) (y : B) : if b = true then A else B := by
  rw [h]
  exact iteF y
theorem bnot_of {Q : VK} {H : Hp} {c : Prop} [Decidable c] (h : ¬ c) (q : Q (.bl true) H) : Q (.bl (!decide c)) H := by
  rw [decide_eq_false h]
  exact q
def spLaw (K : PySem.W.Frag) : Sp := fun vs H Q _ => ∃ (a : Addr) (ns : List Int), vs = [.ref a] ∧ SqL K H a (ns.map V.int) ∧ ns.length ≤ 63 ∧ ∀ H', Q (.bl true) H'
/-! ### numbers and texts as lists of codes -/
open SX
def intL (i : Int) : List Nat := if i < 0 then 45 :: TL.numL i.natAbs else TL.numL i.natAbs
theorem int_txt (i : Int) : Str.ofString (toString i) = S (intL i) := by
  cases i with
  | ofNat n =>
    have e : intL (Int.ofNat n) = TL.numL n := by
      unfold intL
      rw [if_neg (show ¬ (Int.ofNat n < 0) from Int.not_lt.mpr (Int.natCast_nonneg n))]
      rfl
    rw [e]
    exact num_S n
  | negSucc n =>
    have e : intL (Int.negSucc n) = 45 :: TL.numL (n + 1) := by
      unfold intL
      rw [if_pos (by omega)]
      rfl
    rw [e]
    have h := num_S (n + 1)
    refine TL.ext_tl ?_
    have h2 := congrArg TL.tl h
    have sh : ∀ x : String, TL.tl (Str.ofString x) = x.toList.map Char.toNat := fun x => PyProof.Rows.signs_ofString x
    rw [sh] at h2 ⊢
    have e1 : toString (Int.negSucc n) = "-" ++ toString ((n + 1 : Nat) : Int) := rfl
    rw [e1, String.toList_append, List.map_append, h2]
    rfl
theorem intL_len {i : Int} (h1 : -100000000000000000000000000000 ≤ i) (h2 : i ≤ 100000000000000000000000000099) : (intL i).length ≤ 31 := by
  have z := TL.numL_len (n := i.natAbs) (k := 30) (by decide) (by
    have e : (10 : Nat) ^ 30 = 1000000000000000000000000000000 := by decide
    rw [e]
    omega)
  unfold intL
  split
  · rw [List.length_cons]; omega
  · omega
theorem intL_ne (i : Int) : intL i ≠ [] := by
  unfold intL
  split
  · simp
  · exact TL.numL_ne _
theorem intL_free (i : Int) {c : Nat} (h : c ≠ 45) (h2 : c < 48 ∨ 57 < c) : c ∉ intL i := by
  unfold intL
  split
  · intro m
    rcases List.mem_cons.mp m with z | z
    · exact h z
    · exact TL.numL_free h2 z
  · exact TL.numL_free h2
theorem int_back {i : Int} (h : (intL i).length ≤ 4300) : PySem.intText? (S (intL i)) = some i := by
  unfold intL at h ⊢
  split
  next hn =>
    rw [if_pos hn] at h
    have e := intText_neg (x := S (45 :: TL.numL i.natAbs)) (cs := TL.numL i.natAbs) rfl (TL.numL_digits _) (TL.numL_ne _) (by rw [S_len]; exact h)
    rw [e, TL.numL_val]
    congr 1
    omega
  next hn =>
    rw [if_neg hn] at h
    have e := intText_digits (x := S (TL.numL i.natAbs)) (TL.numL_digits _) (TL.numL_ne _) (by rw [S_len]; exact h)
    rw [e]
    show some ((NumText.digitsVal (TL.numL i.natAbs) : Nat) : Int) = _
    rw [TL.numL_val]
    congr 1
    omega
/-- no nought ahead but nought itself -/
theorem numL_head : ∀ n : Nat, 0 < n → ∃ c r, TL.numL n = c :: r ∧ c ≠ 48 := by
  intro n
  induction n using Nat.strongRecOn with
  | _ n ih =>
    intro hn
    by_cases h : n < 10
    · exact ⟨48 + n, [], TL.numL_lt h, by omega⟩
    · obtain ⟨c, r, e, hc⟩ := ih (n / 10) (by omega) (by omega)
      exact ⟨c, r ++ [48 + n % 10], by rw [TL.numL_step (by omega), e]; rfl, hc⟩
/-! ### kinds and things -/
inductive Kd
  | n | k | m | w | p | s
def Kd.sign : Kd → Nat
  | .n => 110 | .k => 107 | .m => 109 | .w => 119 | .p => 112 | .s => 115
def Kd.name : Kd → Str
  | .n => "number" | .k => "key" | .m => "way" | .w => "worth" | .p => "pace" | .s => "keys"
inductive Th
  | num (i : Int)
  | txt (a : List Nat)
  | row (xs : List Int)
  | keys (zs : List (List Nat))
def Bn (i : Int) : Prop := -60 ≤ i ∧ i ≤ 100000000000000000000000000009
theorem Bn.len {i : Int} (h : Bn i) : (intL i).length ≤ 31 := intL_len (by have := h.1; omega) (by have := h.2; omega)
def keys5 : List (List Nat) := [[97], [98], [122, 122, 122, 122, 122, 122], [114, 101, 97, 100], [116, 105, 99, 107]]
def Fit : Kd → Th → Prop
  | .n, .num i => Bn i
  | .k, .txt a => a ∈ keys5
  | .m, .txt a => a = [114, 101, 97, 100] ∨ a = [119, 114, 105, 116, 101]
  | .w, .row xs => 1 ≤ xs.length ∧ xs.length ≤ 4 ∧ ∀ x ∈ xs, Bn x
  | .p, .row xs => xs.length = 2 ∧ ∀ x ∈ xs, Bn x
  | .s, .keys zs => 1 ≤ zs.length ∧ zs.length ≤ 3 ∧ ∀ z ∈ zs, z ∈ keys5
  | _, _ => False
def Kd.sep : Kd → List Nat
  | .p => [47]
  | _ => [44]
def Th.tx (k : Kd) : Th → List Nat
  | .num i => intL i
  | .txt a => a
  | .row xs => TL.joinL k.sep (xs.map intL)
  | .keys zs => TL.joinL k.sep zs
def ThAt (H : Hp) : V → Th → Prop
  | v, .num i => v = .int i
  | v, .txt a => v = .str (S a)
  | v, .row xs => ∃ p, v = .ref p ∧ H p = some (.tup (xs.map V.int))
  | v, .keys zs => ∃ p, v = .ref p ∧ H p = some (.tup (zs.map fun z => V.str (S z)))
def Th.d : Th → PyData
  | .num i => .int i
  | .txt a => .str (S a)
  | .row xs => .tuple (xs.map .int)
  | .keys zs => .tuple (zs.map fun z => .str (S z))
theorem ThAt.up {H H' : Hp} {v : V} {t : Th} (h : ThAt H v t) (k : ∀ p xs, H p = some (.tup xs) → H' p = some (.tup xs)) : ThAt H' v t := by
  cases t with
  | num i => exact h
  | txt a => exact h
  | row xs => obtain ⟨p, e, q⟩ := h; exact ⟨p, e, k _ _ q⟩
  | keys zs => obtain ⟨p, e, q⟩ := h; exact ⟨p, e, k _ _ q⟩
inductive ThsAt (H : Hp) : List V → List Th → Prop
  | nil : ThsAt H [] []
  | cons {v : V} {t : Th} {vs : List V} {ts : List Th} (a : ThAt H v t) (r : ThsAt H vs ts) : ThsAt H (v :: vs) (t :: ts)
theorem ThsAt.up {H H' : Hp} (k : ∀ p xs, H p = some (.tup xs) → H' p = some (.tup xs)) : ∀ {vs : List V} {ts : List Th}, ThsAt H vs ts → ThsAt H' vs ts
  | _, _, .nil => .nil
  | _, _, .cons a r => .cons (a.up k) (ThsAt.up k r)
theorem ThsAt.len {H : Hp} : ∀ {vs : List V} {ts : List Th}, ThsAt H vs ts → vs.length = ts.length
  | _, _, .nil => rfl
  | _, _, .cons _ r => congrArg Nat.succ r.len
theorem ThsAt.get {H : Hp} : ∀ {vs : List V} {ts : List Th}, ThsAt H vs ts → ∀ {i : Nat} {v : V}, vs[i]? = some v → ∃ t, ts[i]? = some t ∧ ThAt H v t
  | _, _, .nil, i, v, e => by simp at e
  | _, _, .cons a r, 0, v, e => by simp at e; subst e; exact ⟨_, rfl, a⟩
  | _, _, .cons a r, i + 1, v, e => r.get (i := i) (by simpa using e)
theorem ThsAt.snoc {H : Hp} {v : V} {t : Th} (a : ThAt H v t) : ∀ {vs : List V} {ts : List Th}, ThsAt H vs ts → ThsAt H (vs ++ [v]) (ts ++ [t])
  | _, _, .nil => .cons a .nil
  | _, _, .cons b r => .cons b (ThsAt.snoc a r)
inductive Fits : List Kd → List Th → Prop
  | nil : Fits [] []
  | cons {k : Kd} {t : Th} {ks : List Kd} {ts : List Th} (a : Fit k t) (r : Fits ks ts) : Fits (k :: ks) (t :: ts)
theorem Fits.len : ∀ {ks : List Kd} {ts : List Th}, Fits ks ts → ks.length = ts.length
  | _, _, .nil => rfl
  | _, _, .cons _ r => congrArg Nat.succ r.len
theorem Fits.get : ∀ {ks : List Kd} {ts : List Th}, Fits ks ts → ∀ {i : Nat} {t : Th}, ts[i]? = some t → ∃ k, ks[i]? = some k ∧ Fit k t
  | _, _, .nil, i, t, e => by simp at e
  | _, _, .cons a r, 0, t, e => by simp at e; subst e; exact ⟨_, rfl, a⟩
  | _, _, .cons a r, i + 1, t, e => r.get (i := i) (by simpa using e)
theorem Fits.snoc {k : Kd} {t : Th} (a : Fit k t) : ∀ {ks : List Kd} {ts : List Th}, Fits ks ts → Fits (ks ++ [k]) (ts ++ [t])
  | _, _, .nil => .cons a .nil
  | _, _, .cons b r => .cons b (Fits.snoc a r)
theorem dp_ints {K : PySem.W.Frag} {H : Hp} : ∀ (ns : List Int), DpAll K H (ns.map V.int) (ns.map PyData.int)
  | [] => .nil
  | n :: r => .cons (.int n) (dp_ints r)
theorem dp_txts {K : PySem.W.Frag} {H : Hp} : ∀ (zs : List (List Nat)), DpAll K H (zs.map fun z => V.str (S z)) (zs.map fun z => PyData.str (S z))
  | [] => .nil
  | z :: r => .cons (.str _) (dp_txts r)
theorem ThAt.dp {K : PySem.W.Frag} {H : Hp} {v : V} {t : Th} (h : ThAt H v t) : Dp K H v t.d := by
  cases t with
  | num i => cases (show v = .int i from h); exact .int i
  | txt a => cases (show v = .str (S a) from h); exact .str _
  | row xs => obtain ⟨p, rfl, e⟩ := h; exact .tup (SqT.of e) (dp_ints xs)
  | keys zs => obtain ⟨p, rfl, e⟩ := h; exact .tup (SqT.of e) (dp_txts zs)
theorem ThsAt.dp {K : PySem.W.Frag} {H : Hp} : ∀ {vs : List V} {ts : List Th}, ThsAt H vs ts → DpAll K H vs (ts.map Th.d)
  | _, _, .nil => .nil
  | _, _, .cons a r => .cons a.dp r.dp
/-! ### the words of deeds -/
def DEEDS : List (Str × List Kd) := [("tick", [.n]), ("set", [.n, .n, .n, .n]), ("pace", [.n, .n, .p]), ("stop", [.n, .n]), ("back", [.n, .n]), ("choose", [.n, .n]), ("renew", [.n]), ("catch", [.n, .n]), ("mark", [.n]), ("gone", [.n, .n]), ("begin", []), ("again", [.n]), ("take", [.n, .k, .m]), ("read", [.n, .k]), ("write", [.n, .k, .w]), ("finish", [.n]), ("tell", [.n]), ("stay", [.n]), ("deliver", [.n]), ("lose", [.n]), ("question", [.n]), ("at", [.n, .s]), ("copy", [.n, .n, .s]), ("now", [.n, .s]), ("move", [.k, .n]), ("form", [.n, .n]), ("settle", [])]
structure Deed where
  w : Str
  ks : List Kd
  ts : List Th
  mem : (w, ks) ∈ DEEDS
  fit : Fits ks ts
def Deed.tx (d : Deed) : List Nat := TL.joinL [32] (TL.tl d.w :: List.zipWith Th.tx d.ks d.ts)
def Deed.d (d : Deed) : PyData := .tuple (.str d.w :: d.ts.map Th.d)
def DeedAt (H : Hp) (p : Addr) (d : Deed) : Prop := ∃ vs, H p = some (.tup (.str d.w :: vs)) ∧ ThsAt H vs d.ts
theorem DeedAt.up {H H' : Hp} {p : Addr} {d : Deed} (h : DeedAt H p d) (k : ∀ p xs, H p = some (.tup xs) → H' p = some (.tup xs)) : DeedAt H' p d := by
  obtain ⟨vs, e, r⟩ := h
  exact ⟨vs, k _ _ e, r.up k⟩
theorem DeedAt.dp {K : PySem.W.Frag} {H : Hp} {p : Addr} {d : Deed} (h : DeedAt H p d) : Dp K H (.ref p) d.d := by
  obtain ⟨vs, e, r⟩ := h
  exact .tup (SqT.of e) (.cons (.str _) r.dp)
theorem deed_facts : ∀ q ∈ DEEDS, q.2.length ≤ 4 ∧ 1 ≤ (TL.tl q.1).length ∧ (TL.tl q.1).length ≤ 8 ∧ 32 ∉ TL.tl q.1 ∧ (∀ c ∈ TL.tl q.1, 97 ≤ c ∧ c ≤ 122) := by
  have h : (DEEDS.all fun q => decide (q.2.length ≤ 4) && decide (1 ≤ (TL.tl q.1).length) && decide ((TL.tl q.1).length ≤ 8) && decide (32 ∉ TL.tl q.1) && (TL.tl q.1).all fun c => decide (97 ≤ c) && decide (c ≤ 122)) = true := by decide +kernel
  intro q hq
  have z := List.all_eq_true.mp h q hq
  simp only [Bool.and_eq_true, decide_eq_true_eq, List.all_eq_true] at z
  exact ⟨z.1.1.1.1, z.1.1.1.2, z.1.1.2, z.1.2, z.2⟩
theorem deed_one : ∀ q ∈ DEEDS, ∀ r ∈ DEEDS, q.1 = r.1 → q = r := by
  have nd : (DEEDS.map (·.1)).Nodup := by decide +kernel
  intro q hq r hr e
  have key : ∀ {l : List (Str × List Kd)}, (l.map (·.1)).Nodup → q ∈ l → r ∈ l → q = r := by
    intro l
    induction l with
    | nil => intro _ h; cases h
    | cons x l ih =>
      intro nd h1 h2
      rw [List.map_cons, List.nodup_cons] at nd
      rcases List.mem_cons.mp h1 with e1 | h1 <;> rcases List.mem_cons.mp h2 with e2 | h2
      · rw [e1, e2]
      · exact absurd (by rw [← e1, e]; exact List.mem_map_of_mem h2) nd.1
      · exact absurd (by rw [← e2, ← e]; exact List.mem_map_of_mem h1) nd.1
      · exact ih nd.2 h1 h2
  exact key nd hq hr
/-! ### promises -/
def spNumT : Sp := fun vs H Q _ => ∃ i : Int, vs = [.str (S (intL i))] ∧ (intL i).length ≤ 31 ∧ (TL.numL i.natAbs).length ≤ 30 ∧ Q (.bl true) H
def spKeyT : Sp := fun vs H Q _ => ∃ z, vs = [.str (S z)] ∧ z ∈ keys5 ∧ Q (.bl true) H
def spReadNum : Sp := fun vs H Q _ => ∃ i : Int, vs = [.str (S (intL i))] ∧ Bn i ∧ Q (.int i) H
def spReadRow : Sp := fun vs H Q _ => ∃ (xs : List Int) (c : Nat) (lo hi : Int), vs = [.str (S (TL.joinL [c] (xs.map intL))), .str (S [c]), .int lo, .int hi] ∧ (c = 44 ∨ c = 47) ∧ 1 ≤ xs.length ∧ lo ≤ xs.length ∧ (xs.length : Int) ≤ hi ∧ xs.length ≤ 4 ∧ (∀ x ∈ xs, Bn x) ∧
  ∀ p H', Same H H' → H' p = some (.tup (xs.map V.int)) → Q (.ref p) H'
def spRead (k : Kd) : Sp := fun vs H Q _ => ∃ t : Th, vs = [.str (S (t.tx k))] ∧ Fit k t ∧ ∀ v H', Same H H' → ThAt H' v t → Q v H'
def spReadThing : Sp := fun vs H Q _ => ∃ (k : Kd) (t : Th), vs = [.str (S (t.tx k)), .str k.name] ∧ Fit k t ∧ ∀ v H', Same H H' → ThAt H' v t → Q v H'
def spReadDeed : Sp := fun vs H Q _ => ∃ d : Deed, vs = [.str (S d.tx)] ∧ ∀ p H', Same H H' → DeedAt H' p d → Q (.ref p) H'
def spReadWords (K : PySem.W.Frag) : Sp := fun vs H Q _ => ∃ (d : Deed) (l : Addr), vs = [.ref l] ∧ H l = some (.lst (V.str d.w :: (List.zipWith Th.tx d.ks d.ts).map fun z => V.str (S z))) ∧ ∀ p H', Same H H' → DeedAt H' p d → Q (.ref p) H'
/-- what is shown of a thing: a number's text, a text itself -/
inductive ShV : V → List Nat → Prop
  | int (i : Int) (h : i.natAbs.log2 < 1920) : ShV (.int i) (intL i)
  | str (z : List Nat) : ShV (.str (S z)) z
inductive ShA : List V → List (List Nat) → Prop
  | nil : ShA [] []
  | cons {v : V} {z : List Nat} {vs : List V} {zs : List (List Nat)} (a : ShV v z) (r : ShA vs zs) : ShA (v :: vs) (z :: zs)
theorem ShA.len : ∀ {vs : List V} {zs : List (List Nat)}, ShA vs zs → vs.length = zs.length
  | _, _, .nil => rfl
  | _, _, .cons _ r => congrArg Nat.succ r.len
theorem ShA.get : ∀ {vs : List V} {zs : List (List Nat)}, ShA vs zs → ∀ {i : Nat} {v : V}, vs[i]? = some v → ∃ z, zs[i]? = some z ∧ ShV v z
  | _, _, .nil, i, v, e => by simp at e
  | _, _, .cons a r, 0, v, e => by simp at e; subst e; exact ⟨_, rfl, a⟩
  | _, _, .cons a r, i + 1, v, e => r.get (i := i) (by simpa using e)
theorem log_small {i : Int} (h : Bn i) : i.natAbs.log2 < 1920 := by
  have h1 := h.1
  have h2 := h.2
  by_cases z : i.natAbs = 0
  · rw [z]; decide
  · rw [Nat.log2_lt z]
    have e : i.natAbs < 2 ^ 100 := by
      have e2 : (2 : Nat) ^ 100 = 1267650600228229401496703205376 := by decide
      rw [e2]
      omega
    exact Nat.lt_of_lt_of_le e (Nat.pow_le_pow_right (by decide) (by decide))
theorem sha_ints : ∀ {xs : List Int}, (∀ x ∈ xs, Bn x) → ShA (xs.map V.int) (xs.map intL)
  | [], _ => .nil
  | x :: r, h => .cons (.int x (log_small (h x (.head _)))) (sha_ints fun y hy => h y (.tail _ hy))
theorem sha_txts : ∀ zs : List (List Nat), ShA (zs.map fun z => V.str (S z)) zs
  | [] => .nil
  | z :: r => .cons (.str z) (sha_txts r)
def spShownRow (K : PySem.W.Frag) : Sp := fun vs H Q _ => ∃ (p : Addr) (xs : List V) (zs : List (List Nat)) (c : Nat), vs = [.ref p, .str (S [c])] ∧ (SqL K H p xs ∨ SqT K H p xs) ∧ ShA xs zs ∧ zs.length ≤ 100 ∧ (∀ z ∈ zs, z.length ≤ 1000) ∧ ∀ H', Same H H' → Q (.str (S (TL.joinL [c] zs))) H'
def spShownThing : Sp := fun vs H Q _ => ∃ (k : Kd) (t : Th) (v : V), vs = [v, .str k.name] ∧ ThAt H v t ∧ Fit k t ∧ ∀ H', Same H H' → Q (.str (S (t.tx k))) H'
def spIsDeed : Sp := fun vs H Q _ => ∃ (p : Addr) (d : Deed), vs = [.ref p] ∧ DeedAt H p d ∧ Q (.bl true) H
def spShownDeed : Sp := fun vs H Q _ => ∃ (p : Addr) (d : Deed), vs = [.ref p] ∧ DeedAt H p d ∧ ∀ H', Same H H' → Q (.str (S d.tx)) H'
/-! ### texts -/
theorem starts (a : List Nat) : Txt.startswith (S a) "-" = decide (a.head? = some 45) := by
  have e : ("-" : Str) = S [45] := by decide +kernel
  rw [e]
  cases a with
  | nil => decide +kernel
  | cons c r =>
    unfold Txt.startswith
    rw [S_len, S_len]
    simp only [List.length_cons, List.length_nil, List.head?_cons, Option.some.injEq]
    have h1 : decide (0 + (0 + 1) ≤ r.length + 1) = true := decide_eq_true (by omega)
    rw [h1, Bool.true_and]
    have h2 : PySem.Builtin.Str.subAt (S (c :: r)) (S [45]) 0 = decide (c = 45) := by
      unfold PySem.Builtin.Str.subAt
      simp [S, Str.length]
      first | rfl | (by_cases z : c = 45 <;> simp [z])
    exact h2
theorem cut_one (c : Nat) (r : List Nat) : cutS (S (c :: r)) (some 1) none = S r := by
  unfold cutS
  rw [S_len]
  have e1 : HT.sIx (c :: r).length 0 (some 1) = 1 := by
    unfold HT.sIx
    simp
  have e2 : HT.sIx (c :: r).length (c :: r).length none = (c :: r).length := rfl
  rw [e1, e2]
  show (⟨_⟩ : Str) = ⟨r.toArray⟩
  congr 1
  show (List.take ((c :: r).length - 1) (List.drop 1 (c :: r))).toArray = r.toArray
  rw [List.drop_succ_cons, List.drop_zero, List.length_cons, Nat.add_sub_cancel, List.take_length]
theorem vs_nil {a : Str} (h : a = ⟨#[]⟩) : V.str a = V.str "" := by
  rw [h]
  exact congrArg V.str (by decide +kernel)
theorem head_ne {c : Nat} (h : c ≠ 48) : ¬ (V.str ⟨#[c]⟩ = V.str "0") := fun e => by
  have e2 := V.str.inj e
  have z : ("0" : Str) = ⟨#[48]⟩ := by decide +kernel
  rw [z] at e2
  have e3 := congrArg (fun s : Str => s.cps.toList) e2
  simp at e3
  exact h e3
theorem nought (i : Int) (h : ¬ (V.str (S (intL i)) = V.str "0")) (n : ¬ i < 0) : 0 < i.natAbs := by
  by_cases z : i.natAbs = 0
  · exfalso
    apply h
    have e : i = 0 := by omega
    rw [e]
    exact congrArg V.str (by decide +kernel)
  · omega
theorem Bn.len30 {i : Int} (h : Bn i) : (TL.numL i.natAbs).length ≤ 30 := TL.numL_len (by decide) (by
  have e : (10 : Nat) ^ 30 = 1000000000000000000000000000000 := by decide
  have h1 := h.1
  have h2 := h.2
  rw [e]
  omega)
theorem split_back {c : Nat} {parts : List (List Nat)} (hc : c < 256) (hne : parts ≠ []) (h : ∀ p ∈ parts, c ∉ p) : Txt.split (S (TL.joinL [c] parts)) (S [c]) = parts.map S := by
  rw [split_S (by simp) (by simp [hc]), SX.spl_join hne h]
theorem join_len {c : Nat} : ∀ {zs : List (List Nat)} {m : Nat}, (∀ z ∈ zs, z.length ≤ m) → (TL.joinL [c] zs).length ≤ zs.length * (m + 1)
  | [], m, _ => by simp [TL.joinL]
  | [z], m, h => by
    have := h z (.head _)
    simp only [TL.joinL, List.length_cons, List.length_nil]
    omega
  | z :: y :: r, m, h => by
    have h1 := h z (.head _)
    have h2 := join_len (c := c) (zs := y :: r) (m := m) fun x hx => h x (.tail _ hx)
    have e : TL.joinL [c] (z :: y :: r) = z ++ ([c] ++ TL.joinL [c] (y :: r)) := rfl
    rw [e, List.length_append, List.length_append, List.length_cons, List.length_nil, List.length_cons, Nat.succ_mul]
    omega
theorem key5_facts : ∀ z ∈ keys5, 1 ≤ z.length ∧ z.length ≤ 6 ∧ 44 ∉ z ∧ 32 ∉ z := by decide +kernel
theorem same_sqt {K : PySem.W.Frag} {H H' : Hp} {p : Addr} {xs : List V} (k : Same H H') (h : SqT K H p xs) : SqT K H' p xs := by
  rcases h with (h | ⟨u, h⟩) | h
  · exact .inl (.inl (k _ _ h))
  · exact .inl (.inr ⟨u, k _ _ h⟩)
  · exact .inr h
theorem slash_e : ("/" : Str) = S [47] := by decide +kernel
theorem comma_e : ("," : Str) = S [44] := by decide +kernel
theorem blank_e : (" " : Str) = S [32] := by decide +kernel
theorem names_ne {a b : Kd} (h : a.name ≠ b.name) : ¬ (V.str a.name = V.str b.name) := fun e => h (V.str.inj e)
theorem ints_len {xs : List Int} (h : ∀ x ∈ xs, Bn x) : ∀ z ∈ xs.map intL, z.length ≤ 1000 := fun z hz => by
  obtain ⟨x, hx, rfl⟩ := List.mem_map.mp hz
  exact Nat.le_trans (h x hx).len (by decide)
/-- what the parts of a deed are shown as -/
inductive Rel3 (H : Hp) : List Kd → List Th → List V → Prop
  | nil : Rel3 H [] [] []
  | cons {k : Kd} {t : Th} {v : V} {ks : List Kd} {ts : List Th} {vs : List V} (f : Fit k t) (a : ThAt H v t) (r : Rel3 H ks ts vs) : Rel3 H (k :: ks) (t :: ts) (v :: vs)
theorem rel3_of {H : Hp} : ∀ {ks : List Kd} {ts : List Th} {vs : List V}, Fits ks ts → ThsAt H vs ts → Rel3 H ks ts vs
  | _, _, _, .nil, .nil => .nil
  | _, _, _, .cons f r, .cons a s => .cons f a (rel3_of r s)
theorem Rel3.get {H : Hp} : ∀ {ks : List Kd} {ts : List Th} {vs : List V}, Rel3 H ks ts vs → ∀ {i : Nat} {v : V}, vs[i]? = some v → ∃ k t, ks[i]? = some k ∧ ts[i]? = some t ∧ Fit k t ∧ ThAt H v t
  | _, _, _, .nil, i, v, e => by simp at e
  | _, _, _, .cons f a r, 0, v, e => by simp at e; subst e; exact ⟨_, _, rfl, rfl, f, a⟩
  | _, _, _, .cons f a r, i + 1, v, e => r.get (i := i) (by simpa using e)
theorem Rel3.len {H : Hp} : ∀ {ks : List Kd} {ts : List Th} {vs : List V}, Rel3 H ks ts vs → vs.length = ks.length ∧ ts.length = ks.length
  | _, _, _, .nil => ⟨rfl, rfl⟩
  | _, _, _, .cons _ _ r => ⟨congrArg Nat.succ r.len.1, congrArg Nat.succ r.len.2⟩
theorem zip_get {ks : List Kd} {ts : List Th} {i : Nat} {k : Kd} {t : Th} (h1 : ks[i]? = some k) (h2 : ts[i]? = some t) : (List.zipWith Th.tx ks ts)[i]? = some (t.tx k) := by
  rw [List.getElem?_zipWith, h1, h2]
theorem cut_tail (v : V) (vs : List V) : cutV (v :: vs) (some 1) none = vs := by
  unfold cutV
  have e1 : HT.sIx (v :: vs).length 0 (some 1) = 1 := by
    unfold HT.sIx
    simp
  have e2 : HT.sIx (v :: vs).length (v :: vs).length none = (v :: vs).length := rfl
  rw [e1, e2, List.drop_succ_cons, List.drop_zero, List.length_cons, Nat.add_sub_cancel, List.take_length]
theorem cut_notall (v : V) (vs : List V) : ¬ (HT.sIx (v :: vs).length 0 (some 1) = 0 ∧ HT.sIx (v :: vs).length (v :: vs).length none = (v :: vs).length) := fun h => by
  have e1 : HT.sIx (v :: vs).length 0 (some 1) = 1 := by
    unfold HT.sIx
    simp
  rw [e1] at h
  exact absurd h.1 (by decide)
theorem not_join {c x : Nat} (hx : x ≠ c) : ∀ {zs : List (List Nat)}, (∀ z ∈ zs, x ∉ z) → x ∉ TL.joinL [c] zs
  | [], _ => by simp [TL.joinL]
  | [z], h => h z (.head _)
  | z :: y :: r, h => by
    have h1 := h z (.head _)
    have h2 := not_join hx (zs := y :: r) fun w hw => h w (.tail _ hw)
    have e : TL.joinL [c] (z :: y :: r) = z ++ ([c] ++ TL.joinL [c] (y :: r)) := rfl
    rw [e]
    intro m
    rcases List.mem_append.mp m with m | m
    · exact h1 m
    · rcases List.mem_append.mp m with m | m
      · exact hx (List.mem_singleton.mp m)
      · exact h2 m
theorem key_sh : ∀ z ∈ keys5, z.length ≤ 6 := fun z hz => (key5_facts z hz).2.1
theorem th_len {k : Kd} {t : Th} (h : Fit k t) : (t.tx k).length ≤ 200 ∧ 32 ∉ t.tx k := by
  cases t with
  | num i => cases k <;> first | exact absurd h id | exact ⟨Nat.le_trans (Bn.len h) (by decide), intL_free i (by decide) (.inl (by decide))⟩
  | txt z =>
    have : z ∈ keys5 ∨ z = [119, 114, 105, 116, 101] := by
      cases k <;> first | exact absurd h id | exact .inl h | skip
      rcases h with h | h
      · exact .inl (by rw [h]; decide)
      · exact .inr h
    rcases this with h | rfl
    · exact ⟨Nat.le_trans (key_sh z h) (by decide), (key5_facts z h).2.2.2⟩
    · exact ⟨by show (5 : Nat) ≤ 200; decide, by show (32 : Nat) ∉ [119, 114, 105, 116, 101]; decide⟩
  | row xs =>
    have hx : xs.length ≤ 4 ∧ ∀ x ∈ xs, Bn x := by cases k <;> first | exact absurd h id | exact ⟨h.2.1, h.2.2⟩ | exact ⟨by have := h.1; omega, h.2⟩
    have hs : ∃ c, k.sep = [c] ∧ c ≠ 32 := by cases k <;> exact ⟨_, rfl, by decide⟩
    obtain ⟨c, ec, hc⟩ := hs
    have h1 := join_len (c := c) (zs := xs.map intL) (m := 31) fun z hz => by
      obtain ⟨x, hx', rfl⟩ := List.mem_map.mp hz
      exact (hx.2 x hx').len
    rw [List.length_map] at h1
    refine ⟨?_, ?_⟩
    · show (TL.joinL k.sep (xs.map intL)).length ≤ 200
      rw [ec]
      omega
    · show 32 ∉ TL.joinL k.sep (xs.map intL)
      rw [ec]
      exact not_join (Ne.symm hc) fun z hz => by
        obtain ⟨x, _, rfl⟩ := List.mem_map.mp hz
        exact intL_free x (by decide) (.inl (by decide))
  | keys zs =>
    have hx : zs.length ≤ 3 ∧ ∀ z ∈ zs, z ∈ keys5 := by cases k <;> first | exact absurd h id | exact ⟨h.2.1, h.2.2⟩
    have hs : ∃ c, k.sep = [c] ∧ c ≠ 32 := by cases k <;> exact ⟨_, rfl, by decide⟩
    obtain ⟨c, ec, hc⟩ := hs
    have h1 := join_len (c := c) (zs := zs) (m := 6) fun z hz => key_sh z (hx.2 z hz)
    refine ⟨?_, ?_⟩
    · show (TL.joinL k.sep zs).length ≤ 200
      rw [ec]
      omega
    · show 32 ∉ TL.joinL k.sep zs
      rw [ec]
      exact not_join (Ne.symm hc) fun z hz => (key5_facts z (hx.2 z hz)).2.2.2
theorem last_at {xs : List V} {v : V} (h : xs.getLast? = some v) : atI xs (-1) = some v := by
  obtain ⟨ys, rfl⟩ := List.getLast?_eq_some_iff.mp h
  exact atI_last _ _
theorem zip_len : ∀ {ks : List Kd} {ts : List Th}, Fits ks ts → ∀ z ∈ List.zipWith Th.tx ks ts, z.length ≤ 200 ∧ 32 ∉ z
  | _, _, .nil, z, h => by simp at h
  | _, _, .cons f r, z, h => by
    rw [List.zipWith_cons_cons] at h
    rcases List.mem_cons.mp h with rfl | h
    · exact th_len f
    · exact zip_len r z h
theorem cut_head (v : V) (vs : List V) : cutV (v :: vs) none (some 1) = [v] := by
  unfold cutV
  have e1 : HT.sIx (v :: vs).length (v :: vs).length (some 1) = 1 := by
    unfold HT.sIx
    simp
  have e2 : HT.sIx (v :: vs).length 0 none = 0 := rfl
  rw [e1, e2]
  simp

open SX
namespace TM
section
open PySem PySem.Spec PyProof.Rows L2
/-- a text so many times -/
def rMulS : R2 := fun x y H Q => ∃ z n, x = .str z ∧ y = .int n ∧ PySem.MulOk z n ∧ Q (.str (PySem.Txt.mul z n)) H
theorem op_mulS {X : Cx} : OpR X (binaryOp .Mult) rMulS := by
  intro pins s σ H x y v u Q I rx ry h
  obtain ⟨z, n, rfl, rfl, hok, q⟩ := h
  obtain ⟨t, rfl⟩ := rx
  obtain ⟨t2, rfl⟩ := ry
  exact PySem.SB.mul hok fun t' k => ⟨.str _, H, I.tok _, ⟨_, rfl⟩, q⟩
end
end TM

open SX
/-! ### any texts, as they are read -/
def isDg (c : Nat) : Bool := decide (48 ≤ c) && decide (c ≤ 57)
def isLw (c : Nat) : Bool := decide (97 ≤ c) && decide (c ≤ 122)
def figs (z : List Nat) : List Nat := if z.head? = some 45 then z.tail else z
def numOk (z : List Nat) : Bool := decide (1 ≤ (figs z).length) && decide ((figs z).length ≤ 30) && (figs z).all isDg && (decide (z = [48]) || decide ((figs z).head? ≠ some 48))
def numV (z : List Nat) : Int := if z.head? = some 45 then -((NumText.digitsVal (figs z) : Nat) : Int) else ((NumText.digitsVal (figs z) : Nat) : Int)
def keyOk (z : List Nat) : Bool := decide (1 ≤ z.length) && decide (z.length ≤ 6) && z.all isLw
theorem dg_iff (c : Nat) : ("0123456789" : Str).cps.contains c = isDg c := by
  have e : ("0123456789" : Str).cps = #[48, 49, 50, 51, 52, 53, 54, 55, 56, 57] := by decide +kernel
  rw [e, Bool.eq_iff_iff]
  unfold isDg
  simp only [Array.contains_eq_mem, decide_eq_true_eq, Bool.and_eq_true]
  simp
  omega
theorem lw_iff (c : Nat) : ("abcdefghijklmnopqrstuvwxyz" : Str).cps.contains c = isLw c := by
  have e : ("abcdefghijklmnopqrstuvwxyz" : Str).cps = #[97, 98, 99, 100, 101, 102, 103, 104, 105, 106, 107, 108, 109, 110, 111, 112, 113, 114, 115, 116, 117, 118, 119, 120, 121, 122] := by decide +kernel
  rw [e, Bool.eq_iff_iff]
  unfold isLw
  simp only [Array.contains_eq_mem, decide_eq_true_eq, Bool.and_eq_true]
  simp
  omega
theorem strip_dg (z : List Nat) : decide (V.str (Txt.stripChars (S z) "0123456789") = V.str "") = z.all isDg := by
  rw [Bool.eq_iff_iff, decide_eq_true_eq, List.all_eq_true]
  have h := strip_empty (S z) "0123456789"
  have e0 : ("" : Str) = ⟨#[]⟩ := by decide +kernel
  constructor
  · intro e c hc
    have e2 := V.str.inj e
    rw [e0] at e2
    rw [← dg_iff]
    exact h.mp e2 c hc
  · intro e
    rw [e0]
    exact congrArg V.str (h.mpr fun c hc => by rw [dg_iff]; exact e c hc)
theorem strip_lw (z : List Nat) : decide (V.str (Txt.stripChars (S z) "abcdefghijklmnopqrstuvwxyz") = V.str "") = z.all isLw := by
  rw [Bool.eq_iff_iff, decide_eq_true_eq, List.all_eq_true]
  have h := strip_empty (S z) "abcdefghijklmnopqrstuvwxyz"
  have e0 : ("" : Str) = ⟨#[]⟩ := by decide +kernel
  constructor
  · intro e c hc
    have e2 := V.str.inj e
    rw [e0] at e2
    rw [← lw_iff]
    exact h.mp e2 c hc
  · intro e
    rw [e0]
    exact congrArg V.str (h.mpr fun c hc => by rw [lw_iff]; exact e c hc)
theorem num_text {z : List Nat} (h : numOk z = true) : PySem.intText? (S z) = some (numV z) ∧ z.length ≤ 31 := by
  unfold numOk at h
  simp only [Bool.and_eq_true, decide_eq_true_eq, List.all_eq_true, isDg] at h
  obtain ⟨⟨⟨h1, h2⟩, h3⟩, _⟩ := h
  unfold numV
  by_cases c : z.head? = some 45
  · rw [if_pos c]
    have ef : figs z = z.tail := if_pos c
    obtain ⟨r, rfl⟩ : ∃ r, z = 45 :: r := by
      cases z with
      | nil => cases c
      | cons x r => cases c; exact ⟨r, rfl⟩
    rw [ef] at h1 h2 h3 ⊢
    have h1 : 1 ≤ r.length := h1
    have h2 : r.length ≤ 30 := h2
    refine ⟨intText_neg (x := S (45 :: r)) (cs := r) rfl (fun c hc => h3 c hc) (by intro e; rw [e] at h1; exact absurd h1 (by decide)) (by rw [S_len, List.length_cons]; omega), by rw [List.length_cons]; omega⟩
  · rw [if_neg c]
    have ef : figs z = z := if_neg c
    rw [ef] at h1 h2 h3 ⊢
    refine ⟨intText_digits (x := S z) (fun c hc => h3 c hc) (by intro e; rw [show z = [] from e] at h1; exact absurd h1 (by decide)) (by rw [S_len]; omega), by omega⟩
def rowOk (lo hi : Nat) (zs : List (List Nat)) : Bool := decide (lo ≤ zs.length) && decide (zs.length ≤ hi) && zs.all numOk
/-- what a text is read as -/
def rdT : Kd → List Nat → Option Th
  | .n, z => if numOk z = true then some (.num (numV z)) else none
  | .k, z => if keyOk z = true then some (.txt z) else none
  | .m, z => if z = [114, 101, 97, 100] ∨ z = [119, 114, 105, 116, 101] then some (.txt z) else none
  | .w, z => if rowOk 1 4 (TL.spl [44] 0 [] z) = true then some (.row ((TL.spl [44] 0 [] z).map numV)) else none
  | .p, z => if rowOk 2 2 (TL.spl [47] 0 [] z) = true then some (.row ((TL.spl [47] 0 [] z).map numV)) else none
  | .s, z => if (TL.spl [44] 0 [] z).all keyOk = true then some (.keys (TL.spl [44] 0 [] z)) else none
abbrev SM (z : List Nat) : Prop := z.length ≤ 10000
def spNumA : Sp := fun vs H Q _ => ∃ z, vs = [.str (S z)] ∧ SM z ∧ Q (.bl (numOk z)) H
def spKeyA : Sp := fun vs H Q _ => ∃ z, vs = [.str (S z)] ∧ SM z ∧ Q (.bl (keyOk z)) H
/-- read, or refused -/
def spRdX (N : Addr) (k : Kd) : Sp := fun vs H Q E => ∃ z, vs = [.str (S z)] ∧ SM z ∧ (∀ t, rdT k z = some t → ∀ v H', Same H H' → ThAt H' v t → Q v H') ∧ (rdT k z = none → Out E N "row" (.int 0) H)
def spRowX (N : Addr) : Sp := fun vs H Q E => ∃ (z : List Nat) (c : Nat) (lo hi : Nat), vs = [.str (S z), .str (S [c]), .int lo, .int hi] ∧ SM z ∧ c < 256 ∧ (rowOk lo hi (TL.spl [c] 0 [] z) = true → ∀ p H', Same H H' → H' p = some (.tup (((TL.spl [c] 0 [] z).map numV).map V.int)) → Q (.ref p) H') ∧
  (rowOk lo hi (TL.spl [c] 0 [] z) = false → Out E N "row" (.int 0) H)
def spThingX (N : Addr) : Sp := fun vs H Q E => ∃ (z : List Nat) (k : Kd), vs = [.str (S z), .str k.name] ∧ SM z ∧ (∀ t, rdT k z = some t → ∀ v H', Same H H' → ThAt H' v t → Q v H') ∧ (rdT k z = none → Out E N "row" (.int 0) H)
theorem spl_len (c : Nat) : ∀ (z acc : List Nat), (∀ x ∈ TL.spl [c] 0 acc z, x.length ≤ acc.length + z.length) ∧ (TL.spl [c] 0 acc z).length ≤ z.length + 1 ∧ TL.spl [c] 0 acc z ≠ [] := by
  intro z
  induction z with
  | nil =>
    intro acc
    rw [TL.spl_nil]
    exact ⟨fun x hx => by rw [List.mem_singleton.mp hx]; simp, by simp, by simp⟩
  | cons y r ih =>
    intro acc
    by_cases h : TL.pre [c] (y :: r) = true
    · rw [TL.spl_hit h]
      obtain ⟨a1, a2, a3⟩ := ih []
      have e : [c].length - 1 = 0 := rfl
      rw [e]
      refine ⟨fun x hx => ?_, ?_, by simp⟩
      · rcases List.mem_cons.mp hx with rfl | hx
        · simp
        · have := a1 x hx
          simp only [List.length_nil, List.length_cons] at *
          omega
      · simp only [List.length_cons]
        omega
    · have e : TL.spl [c] 0 acc (y :: r) = TL.spl [c] 0 (acc ++ [y]) r := by
        show (if TL.pre [c] (y :: r) = true then acc :: TL.spl [c] ([c].length - 1) [] r else TL.spl [c] 0 (acc ++ [y]) r) = _
        rw [if_neg h]
      rw [e]
      obtain ⟨a1, a2, a3⟩ := ih (acc ++ [y])
      refine ⟨fun x hx => ?_, ?_, a3⟩
      · have := a1 x hx
        simp only [List.length_append, List.length_cons, List.length_nil] at *
        omega
      · simp only [List.length_cons]
        omega
theorem spl_sm {c : Nat} {z : List Nat} (h : SM z) : (∀ x ∈ TL.spl [c] 0 [] z, SM x) ∧ (TL.spl [c] 0 [] z).length ≤ 10001 ∧ TL.spl [c] 0 [] z ≠ [] := by
  obtain ⟨a1, a2, a3⟩ := spl_len c z []
  refine ⟨fun x hx => ?_, ?_, a3⟩
  · have := a1 x hx
    simp only [List.length_nil] at this
    exact Nat.le_trans this (by have : z.length ≤ 10000 := h; omega)
  · have : z.length ≤ 10000 := h
    omega
theorem split_c {c : Nat} (hc : c < 256) (z : List Nat) : Txt.split (S z) (S [c]) = (TL.spl [c] 0 [] z).map S := split_S (by simp) (by simp [hc])
theorem figs_neg {r : List Nat} : figs (45 :: r) = r := rfl
theorem z48 (z : List Nat) : decide (V.str (S z) = V.str "0") = decide (z = [48]) := by
  have e : ("0" : Str) = S [48] := by decide +kernel
  rw [e, Bool.eq_iff_iff, decide_eq_true_eq, decide_eq_true_eq]
  constructor
  · intro h
    have h2 := congrArg TL.tl (V.str.inj h)
    exact h2
  · intro h
    rw [h]
theorem head48 (c : Nat) : decide (V.str ⟨#[c]⟩ = V.str "0") = decide (c = 48) := by
  have e := z48 [c]
  have e2 : S [c] = ⟨#[c]⟩ := rfl
  rw [e2] at e
  rw [e]
  simp
theorem numOk_eq (z : List Nat) {a b d e : Bool} (h1 : a = decide (1 ≤ (figs z).length)) (h2 : b = decide ((figs z).length ≤ 30)) (h3 : d = (figs z).all isDg) (h4 : e = (decide (z = [48]) || decide ((figs z).head? ≠ some 48))) : numOk z = (a && b && d && e) := by
  rw [h1, h2, h3, h4]
  rfl
theorem eqS {a b : Str} (h : eqV (.str a) (.str b) = true) : a = b := by
  unfold eqV at h
  exact eq_of_beq h
theorem way_no {z : List Nat} (h : ¬ (z = [114, 101, 97, 100] ∨ z = [119, 114, 105, 116, 101])) : (!inV (.str (S z)) [.str "read", .str "write"]) = true := by
  have e1 : ("read" : Str) = S [114, 101, 97, 100] := by decide +kernel
  have e2 : ("write" : Str) = S [119, 114, 105, 116, 101] := by decide +kernel
  rw [e1, e2]
  cases c : inV (.str (S z)) [.str (S [114, 101, 97, 100]), .str (S [119, 114, 105, 116, 101])] with
  | false => rfl
  | true =>
    exfalso
    apply h
    unfold inV at c
    simp only [List.any_cons, List.any_nil, Bool.or_false, Bool.or_eq_true] at c
    rcases c with c | c
    · exact .inl (congrArg TL.tl (eqS c)).symm
    · exact .inr (congrArg TL.tl (eqS c)).symm
theorem dnames_e : DNAMES = DEEDS.map (·.1) := by rfl
theorem keys_in {ns : List Str} : ∀ {l : List DictEntry}, KeysIn ns l → ∀ e ∈ l, ∃ x t, e.key = .str x t ∧ x ∈ ns
  | _ :: _, ⟨h, _⟩, _, .head _ => h
  | _ :: _, ⟨_, r⟩, _, .tail _ m => keys_in r _ m
theorem ns_none {K : PySem.W.Frag} {p : Addr} {es : Array DictEntry} {n : Nat} {ns : List Str} (hl : K.lookup p = some ⟨.type "dict", none, .dict es n, #[]⟩) (h : KeysIn ns es.toList) {z : Str} (hz : z ∉ ns) : PySem.W.nsIn K p z = some none := by
  unfold PySem.W.nsIn
  rw [hl]
  have h1 : es.toList.find? (·.key.isStr z) = none := by
    rw [List.find?_eq_none]
    intro e he c
    obtain ⟨x, t, ek, hx⟩ := keys_in h e he
    rw [ek] at c
    have c2 : (x == z) = true := c
    exact hz (eq_of_beq c2 ▸ hx)
  have h2 : es.toList.any (·.refKey) = false := by
    rw [List.any_eq_false]
    intro e he
    obtain ⟨x, t, ek, _⟩ := keys_in h e he
    unfold DictEntry.refKey
    rw [ek]
    simp
  show (match es.toList.find? (·.key.isStr z) with
      | some e => some (some e.val)
      | none => if es.toList.any (·.refKey) then none else some none) = _
  rw [h1, h2]
  rfl
/-- a word's kinds -/
def lookD (w : List Nat) : Option (List Kd) := (DEEDS.find? fun q => q.1 == S w).map (·.2)
theorem look_some {w : List Nat} {ks : List Kd} (h : lookD w = some ks) : (S w, ks) ∈ DEEDS := by
  unfold lookD at h
  cases e : DEEDS.find? fun q => q.1 == S w with
  | none => rw [e] at h; cases h
  | some q =>
    rw [e] at h
    cases h
    have h1 := List.mem_of_find?_eq_some e
    have h2 := List.find?_some e
    have h3 : q.1 = S w := eq_of_beq h2
    rw [← h3]
    exact h1
theorem look_none {w : List Nat} (h : lookD w = none) : S w ∉ DNAMES := by
  unfold lookD at h
  cases e : DEEDS.find? fun q => q.1 == S w with
  | some q => rw [e] at h; cases h
  | none =>
    rw [List.find?_eq_none] at e
    rw [dnames_e]
    intro hm
    obtain ⟨q, hq, e2⟩ := List.mem_map.mp hm
    exact e q hq (by rw [e2]; exact beq_self_eq_true _)
def allT : List Kd → List (List Nat) → Option (List Th)
  | k :: ks, z :: r => match rdT k z, allT ks r with
    | some t, some ts => some (t :: ts)
    | _, _ => none
  | [], [] => some []
  | _, _ => none
theorem allT_bad : ∀ {ks : List Kd} {r : List (List Nat)} {j : Nat} {k : Kd} {z : List Nat}, ks[j]? = some k → r[j]? = some z → rdT k z = none → allT ks r = none
  | [], _, _, _, _, h, _, _ => by simp at h
  | _ :: _, [], _, _, _, _, h, _ => by simp at h
  | k0 :: ks, z0 :: r, 0, k, z, h1, h2, h3 => by
    simp at h1 h2
    subst h1 h2
    simp [allT, h3]
  | k0 :: ks, z0 :: r, j + 1, k, z, h1, h2, h3 => by
    have i := allT_bad (ks := ks) (r := r) (j := j) (by simpa using h1) (by simpa using h2) h3
    simp only [allT, i]
    cases rdT k0 z0 <;> rfl
theorem allT_snoc : ∀ {ks : List Kd} {r : List (List Nat)} {ts : List Th} {k : Kd} {z : List Nat} {t : Th}, allT ks r = some ts → rdT k z = some t → allT (ks ++ [k]) (r ++ [z]) = some (ts ++ [t])
  | [], [], ts, k, z, t, h, h3 => by
    simp [allT] at h
    subst h
    simp [allT, h3]
  | [], _ :: _, _, _, _, _, h, _ => by simp [allT] at h
  | _ :: _, [], _, _, _, _, h, _ => by simp [allT] at h
  | k0 :: ks, z0 :: r, ts, k, z, t, h, h3 => by
    simp only [allT] at h
    cases e1 : rdT k0 z0 with
    | none => rw [e1] at h; cases h
    | some t0 =>
      cases e2 : allT ks r with
      | none => rw [e1, e2] at h; cases h
      | some ts0 =>
        rw [e1, e2] at h
        cases h
        have i := allT_snoc e2 h3
        simp only [List.cons_append, allT, e1, i]
/-- what the words of a text come to -/
def rdW : List (List Nat) → Option (List Nat × List Th)
  | [] => none
  | w :: r => match lookD w with
    | none => none
    | some ks => if r.length = ks.length then (allT ks r).map fun ts => (w, ts) else none
def WordsX (N : Addr) (ws : List (List Nat)) (H : Hp) (Q : VK) (E : XK) : Prop := (∀ w ts, rdW ws = some (w, ts) → ∀ p vs H', Same H H' → H' p = some (.tup (.str (S w) :: vs)) → ThsAt H' vs ts → Q (.ref p) H') ∧ (rdW ws = none → Out E N "row" (.int 0) H)
theorem WordsX.up {N : Addr} {ws : List (List Nat)} {H H1 : Hp} {Q : VK} {E : XK} (h : WordsX N ws H Q E) (k : Same H H1) : WordsX N ws H1 Q E :=
  ⟨fun w ts e p vs H' s => h.1 w ts e p vs H' (k.trans s), fun e => (h.2 e).up k⟩
def spWordsX (N : Addr) : Sp := fun vs H Q E => ∃ (l : Addr) (ws : List (List Nat)), vs = [.ref l] ∧ H l = some (.lst (ws.map fun z => V.str (S z))) ∧ ws ≠ [] ∧ (∀ x ∈ ws, SM x) ∧ ws.length ≤ 10001 ∧ WordsX N ws H Q E
def notStr : PyData → Bool
  | .str _ => false
  | _ => true
def spDeedX (K : PySem.W.Frag) (N : Addr) : Sp := fun vs H Q E => ∃ v, vs = [v] ∧ ((∃ z, v = .str (S z) ∧ SM z ∧ WordsX N (TL.spl [32] 0 [] z) H Q E) ∨ (∃ d, An K H v d ∧ notStr d = true ∧ Out E N "row" (.int 0) H))
theorem deed_len : ∀ q ∈ DEEDS, q.2.length ≤ 4 := fun q hq => (deed_facts q hq).1
theorem an_str {K : PySem.W.Frag} {H : Hp} {v : V} {d : PyData} (h : An K H v d) (n : notStr d = true) : ∃ t, TyX K H v t ∧ PySem.W.kitOne K t (.type "str") = some false := by
  cases h with
  | dict e => exact ⟨_, .base (.dK e), kit_ty (by decide +kernel)⟩
  | dp h =>
    cases h with
    | non => exact ⟨_, .base .non, kit_ty (by decide +kernel)⟩
    | bl b => exact ⟨_, .base (.bl b), kit_ty (by decide +kernel)⟩
    | int i => exact ⟨_, .base (.int i), kit_ty (by decide +kernel)⟩
    | str x => cases n
    | lst h _ => exact ⟨_, sql_ty h, kit_ty (by decide +kernel)⟩
    | tup h _ => exact ⟨_, sqt_tyA h, kit_ty (by decide +kernel)⟩

open SX

theorem deed_at {w : World} {K : PySem.W.Frag} {mg : Str → Option Value} {a : Nat → Addr} {d : Nat → FuncData} (T : Txt w K mg a d) : ∀ q ∈ DEEDS, ∃ p, KG.KAt K (a 60) q.1 (some (.ref p)) ∧ ∀ H : Hp, SqT K H p (q.2.map fun k => V.str k.name) := by
  intro q hq
  unfold DEEDS at hq
  simp only [List.mem_cons, List.not_mem_nil, or_false] at hq
  rcases hq with rfl | rfl | rfl | rfl | rfl | rfl | rfl | rfl | rfl | rfl | rfl | rfl | rfl | rfl | rfl | rfl | rfl | rfl | rfl | rfl | rfl | rfl | rfl | rfl | rfl | rfl | rfl
  · exact ⟨_, ⟨_, T.h0, rfl⟩, T.t0⟩
  · exact ⟨_, ⟨_, T.h1, rfl⟩, T.t1⟩
  · exact ⟨_, ⟨_, T.h2, rfl⟩, T.t2⟩
  · exact ⟨_, ⟨_, T.h3, rfl⟩, T.t3⟩
  · exact ⟨_, ⟨_, T.h4, rfl⟩, T.t4⟩
  · exact ⟨_, ⟨_, T.h5, rfl⟩, T.t5⟩
  · exact ⟨_, ⟨_, T.h6, rfl⟩, T.t6⟩
  · exact ⟨_, ⟨_, T.h7, rfl⟩, T.t7⟩
  · exact ⟨_, ⟨_, T.h8, rfl⟩, T.t8⟩
  · exact ⟨_, ⟨_, T.h9, rfl⟩, T.t9⟩
  · exact ⟨_, ⟨_, T.h10, rfl⟩, T.t10⟩
  · exact ⟨_, ⟨_, T.h11, rfl⟩, T.t11⟩
  · exact ⟨_, ⟨_, T.h12, rfl⟩, T.t12⟩
  · exact ⟨_, ⟨_, T.h13, rfl⟩, T.t13⟩
  · exact ⟨_, ⟨_, T.h14, rfl⟩, T.t14⟩
  · exact ⟨_, ⟨_, T.h15, rfl⟩, T.t15⟩
  · exact ⟨_, ⟨_, T.h16, rfl⟩, T.t16⟩
  · exact ⟨_, ⟨_, T.h17, rfl⟩, T.t17⟩
  · exact ⟨_, ⟨_, T.h18, rfl⟩, T.t18⟩
  · exact ⟨_, ⟨_, T.h19, rfl⟩, T.t19⟩
  · exact ⟨_, ⟨_, T.h20, rfl⟩, T.t20⟩
  · exact ⟨_, ⟨_, T.h21, rfl⟩, T.t21⟩
  · exact ⟨_, ⟨_, T.h22, rfl⟩, T.t22⟩
  · exact ⟨_, ⟨_, T.h23, rfl⟩, T.t23⟩
  · exact ⟨_, ⟨_, T.h24, rfl⟩, T.t24⟩
  · exact ⟨_, ⟨_, T.h25, rfl⟩, T.t25⟩
  · exact ⟨_, ⟨_, T.h26, rfl⟩, T.t26⟩

open SX
theorem ok_INoText {P : Program} {w : World} {K : PySem.W.Frag} {mg : Str → Option Value} {base : Heap} {a : Nat → Addr} {d : Nat → FuncData} (T : Txt w K mg a d) {C : Addr} {B newId initId : String} {bm : List Value} (xo : XB.Own K C B newId initId bm) (no : PySem.W.findIn K (.ref C) "row" = some none) : FnOk P w K mg base CX0 1 (a 150) (d 150) ["self", "row"] (spI1 C "row") := by
  refine T.F_INoText.ok sc_INoText (fun vs H Q E h => ?_) (fun cdv A outer s0 H vs Q E hr h => ?_)
  · obtain ⟨x, y, rfl, _⟩ := h
    rfl
  · obtain ⟨x, y, rfl, hx, q⟩ := h
    refine ⟨_, (pss_one (XB.ps_put xo no (pv 0) (pv 1))), ?_⟩
    refine ⟨_, rfl, _, rfl, x, rfl, hx, fun dx n ne => ?_⟩
    exact q dx _ n ne upd_same (by rw [upd_ne ne]; exact upd_same) fun b n1 n2 => by rw [upd_ne n1, upd_ne n2]

open SX
theorem ok_is_key {P : Program} {w : World} {K : PySem.W.Frag} {mg : Str → Option Value} {base : Heap} {a : Nat → Addr} {d : Nat → FuncData} (T : Txt w K mg a d) : FnOk P w K mg base CX0 1 (a 0) (d 0) ["thing"] spKeyA := by
  refine T.F_is_key.ok sc_is_key (fun vs H Q E h => ?_) (fun cdv A outer s0 H vs Q E hr h => ?_)
  · obtain ⟨z, rfl, hz, q⟩ := h
    rfl
  · obtain ⟨z, rfl, hz, q⟩ := h
    refine ⟨_, (pss_cons (ps_if (PW.pt (pw_or (pt_not (pt_truth (pe_callB call_isi (by rfl) T.z_isinstance (by decide +kernel) (pa_cons (pv 0) (pa_cons (pe_bltn (v := .ty "str") (by rfl) T.z_str (by decide +kernel) rfl) pa_nil))) (by intro _; rfl))) (pw_or1 (pt_not (pt_chain op_le op_le pe_int (pe_callB call_len_str (by rfl) T.z_len PySem.boot_len (pa_cons (pv 0) pa_nil)) (pe_glob (v := .int (6)) (by rfl) (Exists.choose_spec T.g_MOST_LETTERS) ⟨_, rfl⟩)))))) (pss_one (ps_ret pe_bl)) pss_nil) (pss_one (ps_ret (pe_cmpR op_eq (pe_bm PySem.F.plainAttrs_str PySem.F.slot_str_strip PySem.F.type_str_strip mt_stripChars (pv 0) (pa_cons (pe_glob (v := .str "abcdefghijklmnopqrstuvwxyz") (by rfl) (Exists.choose_spec T.g_LETTERS) ⟨_, rfl⟩) pa_nil)) pe_str (nomark _))))), ?_⟩
    have hz' : z.length ≤ 10000 := hz
    refine ⟨_, rfl, _, .ty "str", _, .type "str", true, rfl, .ty "str", .base (.str _), kit_ty (by decide +kernel), true, rfl,  ?_⟩
    refine iteF ?_
    refine ⟨_, rfl, _, rfl, (by rw [S_len]; exact Nat.le_trans hz' (by decide)), 1, _, rfl, rfl, _, rfl, ?_⟩
    rw [S_len]
    by_cases c1 : 1 ≤ (z.length : Int)
    · refine iteDT c1 ⟨_, 6, rfl, rfl, _, rfl, ?_⟩
      by_cases c2 : (z.length : Int) ≤ 6
      · refine iteNSD c2 ⟨_, rfl, rfl, _, _, rfl, rfl, (by rw [S_len]; exact Nat.le_trans hz' (by decide)), rfl, ?_⟩
        refine bq (Q := Q) ((strip_lw z).trans ?_) q
        unfold keyOk
        rw [decide_eq_true (by omega), decide_eq_true (by omega)]
        rfl
      · refine iteND c2 (bq (Q := Q) ?_ q)
        unfold keyOk
        rw [decide_eq_false (p := z.length ≤ 6) (by omega), Bool.and_false, Bool.false_and]
    · refine iteDF c1 ⟨_, rfl, iteT (bq (Q := Q) ?_ q)⟩
      unfold keyOk
      rw [decide_eq_false (p := 1 ≤ z.length) (by omega), Bool.false_and, Bool.false_and]

open SX
theorem ok_is_number_text {P : Program} {w : World} {K : PySem.W.Frag} {mg : Str → Option Value} {base : Heap} {a : Nat → Addr} {d : Nat → FuncData} (T : Txt w K mg a d) : FnOk P w K mg base CX0 1 (a 1) (d 1) ["text"] spNumA := by
  refine T.F_is_number_text.ok sc_is_number_text (fun vs H Q E h => ?_) (fun cdv A outer s0 H vs Q E hr h => ?_)
  · obtain ⟨z, rfl, hz, q⟩ := h
    rfl
  · obtain ⟨z, rfl, hz, q⟩ := h
    refine ⟨_, (pss_cons (ps_set (i := 1) sc_is_number_text.nd rfl (Or.inl rfl) (pe_ifExp (pt_truth (pe_bm PySem.F.plainAttrs_str PySem.F.slot_str_startswith PySem.F.type_str_startswith mt_startswith (pv 0) (pa_cons pe_str pa_nil)) (by intro _; rfl)) (pe_slice sl_str (pv 0) (po_some pe_int) po_none) (pv 0))) (pss_cons (ps_if (PW.pt (pw_or (pt_not (pt_chain op_le op_le pe_int (pe_callB call_len_str (by rfl) T.z_len PySem.boot_len (pa_cons (pv 1) pa_nil)) (pe_glob (v := .int (30)) (by rfl) (Exists.choose_spec T.g_MOST_FIGURES) ⟨_, rfl⟩))) (pw_or1 (pt_cmpR op_ne (pe_bm PySem.F.plainAttrs_str PySem.F.slot_str_strip PySem.F.type_str_strip mt_stripChars (pv 1) (pa_cons (pe_glob (v := .str "0123456789") (by rfl) (Exists.choose_spec T.g_FIGURES) ⟨_, rfl⟩) pa_nil)) pe_str (nomark _))))) (pss_one (ps_ret pe_bl)) pss_nil) (pss_one (ps_ret (pe_or (pe_cmpR op_eq (pv 0) pe_str (nomark _)) (pe_one (pe_cmpR op_ne (pe_ix ix_str (pv 1) pe_int (fun _ _ => rfl)) pe_str (nomark _)))))))), ?_⟩
    have hz' : z.length ≤ 10000 := hz
    refine ⟨_, rfl, rfl, _, _, rfl, rfl, _, rfl, ?_⟩
    rw [starts]
    by_cases hi : z.head? = some 45
    · obtain ⟨w, rfl⟩ : ∃ r, z = 45 :: r := by
        cases z with
        | nil => cases hi
        | cons x r => cases hi; exact ⟨r, rfl⟩
      have ef : figs (45 :: w) = w := rfl
      have lenF : w.length ≤ 10000 := by rw [List.length_cons] at hz'; omega
      refine iteDT rfl ⟨_, rfl, 1, rfl, _, rfl, (by rw [S_len]; exact Nat.le_trans hz' (by decide)), ?_⟩
      rw [cut_one]
      refine ⟨_, rfl, _, rfl, (by rw [S_len]; exact Nat.le_trans lenF (by decide)), 1, _, rfl, rfl, _, rfl, ?_⟩
      rw [S_len]
      by_cases c1 : 1 ≤ ((w).length : Int)
      · refine iteDT c1 ⟨_, 30, rfl, rfl, _, rfl, ?_⟩
        by_cases c2 : ((w).length : Int) ≤ 30
        · refine iteNSD c2 ⟨_, rfl, rfl, _, _, rfl, rfl, (by rw [S_len]; exact Nat.le_trans lenF (by decide)), rfl, _, rfl, ?_⟩
          rw [strip_dg]
          cases c3 : (w).all isDg with
          | false =>
            refine iteT (bq (Q := Q) ?_ q)
            rw [numOk_eq _ rfl rfl (show false = _ by rw [ef]; exact c3.symm) rfl, Bool.and_false, Bool.false_and]
          | true =>
            refine iteF ⟨_, rfl, rfl, _, rfl, ?_⟩
            have hd := z48 (45 :: w)
            cases c4 : decide (V.str (S (45 :: w)) = V.str "0") with
            | true =>
              rw [c4] at hd
              refine iteT (bq (Q := Q) ?_ q)
              rw [numOk_eq _ (show true = _ by rw [ef, decide_eq_true (by omega)]) (show true = _ by rw [ef, decide_eq_true (by omega)]) (show true = _ by rw [ef]; exact c3.symm) (show true = _ by rw [← hd]; rfl)]
              rfl
            | false =>
              rw [c4] at hd
              obtain ⟨c, r, er⟩ : ∃ c r, w = c :: r := by
                cases hF : w with
                | nil => rw [hF] at c1; exact absurd c1 (by decide)
                | cons c r => exact ⟨c, r, rfl⟩
              refine iteF ⟨_, rfl, _, _, c, rfl, rfl, (by rw [S_len]; exact Nat.le_trans lenF (by decide)), (by show atI (w) 0 = some c; rw [er]; exact atI_nat (j := 0) rfl), rfl, ?_⟩
              refine bq (Q := Q) ?_ q
              rw [head48]
              rw [numOk_eq _ (show true = _ by rw [ef, decide_eq_true (by omega)]) (show true = _ by rw [ef, decide_eq_true (by omega)]) (show true = _ by rw [ef]; exact c3.symm) rfl, ← hd, ef, er]
              simp
        · refine iteND c2 (bq (Q := Q) ?_ q)
          rw [numOk_eq _ rfl (show false = _ by rw [ef, decide_eq_false (by omega)]) rfl rfl, Bool.and_false, Bool.false_and, Bool.false_and]
      · refine iteDF c1 ⟨_, rfl, iteT (bq (Q := Q) ?_ q)⟩
        rw [numOk_eq _ (show false = _ by rw [ef, decide_eq_false (by omega)]) rfl rfl rfl, Bool.false_and, Bool.false_and, Bool.false_and]
    · have ef : figs z = z := if_neg hi
      have lenF := hz'
      refine iteDF hi ⟨_, rfl, ?_⟩
      refine ⟨_, rfl, _, rfl, (by rw [S_len]; exact Nat.le_trans lenF (by decide)), 1, _, rfl, rfl, _, rfl, ?_⟩
      rw [S_len]
      by_cases c1 : 1 ≤ ((z).length : Int)
      · refine iteDT c1 ⟨_, 30, rfl, rfl, _, rfl, ?_⟩
        by_cases c2 : ((z).length : Int) ≤ 30
        · refine iteNSD c2 ⟨_, rfl, rfl, _, _, rfl, rfl, (by rw [S_len]; exact Nat.le_trans lenF (by decide)), rfl, _, rfl, ?_⟩
          rw [strip_dg]
          cases c3 : (z).all isDg with
          | false =>
            refine iteT (bq (Q := Q) ?_ q)
            rw [numOk_eq _ rfl rfl (show false = _ by rw [ef]; exact c3.symm) rfl, Bool.and_false, Bool.false_and]
          | true =>
            refine iteF ⟨_, rfl, rfl, _, rfl, ?_⟩
            have hd := z48 (z)
            cases c4 : decide (V.str (S (z)) = V.str "0") with
            | true =>
              rw [c4] at hd
              refine iteT (bq (Q := Q) ?_ q)
              rw [numOk_eq _ (show true = _ by rw [ef, decide_eq_true (by omega)]) (show true = _ by rw [ef, decide_eq_true (by omega)]) (show true = _ by rw [ef]; exact c3.symm) (show true = _ by rw [← hd]; rfl)]
              rfl
            | false =>
              rw [c4] at hd
              obtain ⟨c, r, er⟩ : ∃ c r, z = c :: r := by
                cases hF : z with
                | nil => rw [hF] at c1; exact absurd c1 (by decide)
                | cons c r => exact ⟨c, r, rfl⟩
              refine iteF ⟨_, rfl, _, _, c, rfl, rfl, (by rw [S_len]; exact Nat.le_trans lenF (by decide)), (by show atI (z) 0 = some c; rw [er]; exact atI_nat (j := 0) rfl), rfl, ?_⟩
              refine bq (Q := Q) ?_ q
              rw [head48]
              rw [numOk_eq _ (show true = _ by rw [ef, decide_eq_true (by omega)]) (show true = _ by rw [ef, decide_eq_true (by omega)]) (show true = _ by rw [ef]; exact c3.symm) rfl, ← hd, ef, er]
              simp
        · refine iteND c2 (bq (Q := Q) ?_ q)
          rw [numOk_eq _ rfl (show false = _ by rw [ef, decide_eq_false (by omega)]) rfl rfl, Bool.and_false, Bool.false_and, Bool.false_and]
      · refine iteDF c1 ⟨_, rfl, iteT (bq (Q := Q) ?_ q)⟩
        rw [numOk_eq _ (show false = _ by rw [ef, decide_eq_false (by omega)]) rfl rfl rfl, Bool.false_and, Bool.false_and, Bool.false_and]

open SX
theorem ok_read_number {P : Program} {w : World} {K : PySem.W.Frag} {mg : Str → Option Value} {base : Heap} {a : Nat → Addr} {d : Nat → FuncData} (T : Txt w K mg a d) : FnOk P w K mg base (L2.CX P w) 3 (a 2) (d 2) ["text"] (spRdX (a 101) .n) := by
  refine T.F_read_number.okX sc_read_number (fun vs H Q E h => ?_) (fun cdv A outer s0 H vs Q E hr h => ?_)
  · obtain ⟨z, rfl, hz, qt, qn⟩ := h
    rfl
  · obtain ⟨z, rfl, hz, qt, qn⟩ := h
    refine ⟨_, (pss_cons (ps_if (pt_not (pt_truth (pe_call (ok_is_number_text T) (hr.mono (by decide)) (by rfl) T.g_is_number_text T.F_is_number_text.kp T.b_is_number_text .nil pass0 (pa_cons (pv 0) pa_nil)) (by intro _; rfl))) (pss_one (ps_raise rfl (takes_of rfl rfl rfl rfl) (XB.pmk T.xo_NoText T.ie_NoText T.te_NoText (ok_INoText T T.xo_NoText T.ne_NoText_row) (hr.mono (by decide)) T.b_INoText pass0 (by rfl) T.gE_NoText (pa_cons pe_int pa_nil)))) pss_nil) (pss_one (ps_ret (pe_callTy call_int_str (by rfl) T.z_int (by decide +kernel) (pa_cons (pv 0) pa_nil))))), ?_⟩
    refine ⟨_, rfl, z, rfl, hz, _, rfl, ?_⟩
    cases c : numOk z with
    | true =>
      obtain ⟨e1, e2⟩ := num_text c
      refine iteF ⟨_, rfl, _, numV z, rfl, e1, (by rw [S_len]; exact Nat.le_trans e2 (by decide)), ?_⟩
      exact qt (.num (numV z)) (if_pos c) _ _ (Same.refl H) rfl
    | false =>
      refine iteT ?_
      have qn := qn (if_neg (by rw [c]; decide))
      refine ⟨(by show 1 ≤ 1000; decide), fun x nx => ⟨x, _, rfl, upd_same, fun dx' H' ndx ne e1 e2 k => ?_⟩⟩
      have nd := ndx
      rw [upd_ne ne] at nd
      exact ⟨rfl, dx', _, e1, e2, nd, qn dx' _ ((Same.refl H).trans (same_err3 nx nd k)) upd_same⟩

open SX
theorem ok_read_numbers {P : Program} {w : World} {K : PySem.W.Frag} {mg : Str → Option Value} {base : Heap} {a : Nat → Addr} {d : Nat → FuncData} (T : Txt w K mg a d) : FnOk P w K mg base (L2.CX P w) 5 (a 3) (d 3) ["text", "sign", "least", "most"] (spRowX (a 101)) := by
  refine T.F_read_numbers.okX sc_read_numbers (fun vs H Q E h => ?_) (fun cdv A outer s0 H vs Q E hr h => ?_)
  · obtain ⟨z, c, lo, hi, rfl, hz, hc, qt, qn⟩ := h
    rfl
  · obtain ⟨z, c, lo, hi, rfl, hz, hc, qt, qn⟩ := h
    refine ⟨_, (pss_cons (ps_set (i := 4) sc_read_numbers.nd rfl (Or.inl rfl) (pe_split (pv 0) (pv 1))) (pss_cons (ps_if (pt_not (pt_chain op_le op_le (pv 2) (pe_callB call_len_seq (by rfl) T.z_len PySem.boot_len (pa_cons (pv 4) pa_nil)) (pv 3))) (pss_one (ps_raise rfl (takes_of rfl rfl rfl rfl) (XB.pmk T.xo_NoText T.ie_NoText T.te_NoText (ok_INoText T T.xo_NoText T.ne_NoText_row) (hr.mono (by decide)) T.b_INoText pass0 (by rfl) T.gE_NoText (pa_cons pe_int pa_nil)))) pss_nil) (pss_one (ps_ret (pe_callTy call_tuple_of (by rfl) T.z_tuple (by decide +kernel) (pa_cons (LR.pe_lcX (own := [("part", 5)]) (g := gName 5) (te := fun E => tCallS (spRdX (a 101) .n) E (tCons (tVar 5) tNil)) (takes_of rfl rfl rfl rfl) rfl rfl rfl (by rfl) sc_read_numbers.nd (pi_list (pv 4)) (blkOk_by (own := [("part", 5)]) (N := ["text", "sign", "least", "most", "parts", "part"]) (sc := defScope s_read_numbers) (by decide +kernel)) (fun _ _ _ _ _ => (pg_name (i := 5) sc_read_numbers.nd rfl (.inl rfl))) (fun _ _ _ _ _ => pts_nil) (fun _ _ _ _ _ _ _ hx => (pe_callS (ok_read_number T) (hr.mono (by decide)) (by rfl) T.g_read_number T.F_read_number.kp T.b_read_number hx (pa_cons (pv 5) pa_nil)))) pa_nil)))))), ?_⟩
    have hz' : z.length ≤ 10000 := hz
    obtain ⟨p1, p2, p3⟩ := spl_sm (c := c) hz
    refine ⟨_, rfl, ⟨_, rfl⟩, _, rfl, _, _, rfl, rfl, rfl, (by rw [S_len]; exact Nat.le_trans (show _ ≤ 10002 by omega) (by decide)), fun p np => ?_⟩
    rw [split_c hc]
    generalize TL.spl [c] 0 [] z = zs at p1 p2 p3 qt qn ⊢
    have s1 : Same H (upd H p (.lst ((zs.map S).map V.str))) := same_new (Same.refl H) np
    have hp : (upd H p (.lst ((zs.map S).map V.str))) p = some (.lst ((zs.map S).map V.str)) := upd_same
    generalize (upd H p (.lst ((zs.map S).map V.str))) = H1 at s1 hp ⊢
    have bad : ∀ {x}, x ∈ zs → numOk x = false → rowOk lo hi zs = false := fun {x} hx hb => by
      unfold rowOk
      have : zs.all numOk = false := by
        cases e : zs.all numOk with
        | false => rfl
        | true => rw [List.all_eq_true.mp e x hx] at hb; cases hb
      rw [this, Bool.and_false]
    refine ⟨_, rfl, _, rfl, p, _, rfl, .inl (SqL.of hp), (lo : Int), _, rfl, rfl, _, rfl, ?_⟩
    rw [List.length_map, List.length_map]
    by_cases c1 : (lo : Int) ≤ zs.length
    · refine iteDT c1 ⟨_, rfl, _, hi, rfl, rfl, _, rfl, ?_⟩
      by_cases c2 : (zs.length : Int) ≤ hi
      · refine iteNSD c2 ⟨_, rfl, p, rfl, ⟨_, SqL.of hp⟩, fun D nD => ?_⟩
        refine lc_list (K := K) (a := p) (xs := (zs.map S).map V.str) (fun j H' => Same H1 H' ∧ H' D = some (.lst ((zs.take j).map (fun z => V.int (numV z)))) ∧ (zs.take j).all numOk = true) ⟨same_new (Same.refl H1) nD, upd_same, rfl⟩ (fun j H' _ z => SqL.of (z.1 _ _ hp)) ?_ ?_
        · rintro j v HA hj ⟨sA, hD, hall⟩
          rw [List.getElem?_map, List.getElem?_map] at hj
          cases ex : zs[j]? with
          | none => rw [ex] at hj; cases hj
          | some x =>
            rw [ex] at hj
            cases hj
            have hx := List.mem_of_getElem? ex
            have hjl := (List.getElem?_eq_some_iff.mp ex).1
            refine ⟨rfl, _, rfl, x, rfl, p1 x hx, fun t ht v HB sB hv => ?_, fun hn => ?_⟩
            · have hok : numOk x = true := by
                cases c : numOk x with
                | true => rfl
                | false =>
                  have ht : (if numOk x = true then _ else none) = some t := ht
                  rw [c] at ht
                  cases ht
              have ht : (if numOk x = true then _ else none) = some t := ht
              rw [if_pos hok] at ht
              cases ht
              cases (show v = .int (numV x) from hv)
              refine ⟨_, sB _ _ hD, ?_, fun b o z => ?_, ?_, ?_⟩
              · rw [List.length_map, List.length_take]
                exact Nat.lt_of_le_of_lt (Nat.min_le_right _ _) (Nat.lt_of_le_of_lt p2 (by decide))
              · rw [upd_ne (ne_of_none z nD)]
                exact sB _ _ (sA _ _ z)
              · rw [upd_same, List.take_add_one, ex, List.map_append]
                rfl
              · rw [List.take_add_one, ex, List.all_append, hall]
                simp [hok]
            · have hbad : numOk x = false := by
                cases c : numOk x with
                | false => rfl
                | true =>
                  have hn : (if numOk x = true then _ else none) = none := hn
                  rw [c] at hn
                  cases hn
              exact (qn (bad hx hbad)).up (s1.trans sA)
        · rintro HA ⟨sA, hD, hall⟩
          rw [List.length_map, List.length_map, List.take_length] at hD hall
          refine ⟨D, _, rfl, .inl ⟨SqL.of hD, fun t nt => ?_⟩⟩
          have hr : rowOk lo hi zs = true := by
            unfold rowOk
            rw [hall, decide_eq_true (by omega), decide_eq_true (by omega)]
            rfl
          refine qt hr t _ ((s1.trans sA).trans (same_new (Same.refl HA) nt)) ?_
          rw [upd_same, List.map_map]
          rfl
      · refine iteND c2 ?_
        have qn := qn (by unfold rowOk; rw [decide_eq_false (p := zs.length ≤ hi) (by omega), Bool.and_false, Bool.false_and])
        refine ⟨(by show 1 ≤ 1000; decide), fun x nx => ⟨x, _, rfl, upd_same, fun dx' H' ndx ne e1 e2 k => ?_⟩⟩
        have nd := ndx
        rw [upd_ne ne] at nd
        exact ⟨rfl, dx', _, e1, e2, nd, qn dx' _ (s1.trans (same_err3 nx nd k)) upd_same⟩
    · refine iteDF c1 ⟨_, rfl, iteT ?_⟩
      have qn := qn (by unfold rowOk; rw [decide_eq_false (p := lo ≤ zs.length) (by omega), Bool.false_and, Bool.false_and])
      refine ⟨(by show 1 ≤ 1000; decide), fun x nx => ⟨x, _, rfl, upd_same, fun dx' H' ndx ne e1 e2 k => ?_⟩⟩
      have nd := ndx
      rw [upd_ne ne] at nd
      exact ⟨rfl, dx', _, e1, e2, nd, qn dx' _ (s1.trans (same_err3 nx nd k)) upd_same⟩

open SX
theorem ok_read_worth {P : Program} {w : World} {K : PySem.W.Frag} {mg : Str → Option Value} {base : Heap} {a : Nat → Addr} {d : Nat → FuncData} (T : Txt w K mg a d) : FnOk P w K mg base (L2.CX P w) 6 (a 4) (d 4) ["text"] (spRdX (a 101) .w) := by
  refine T.F_read_worth.okX sc_read_worth (fun vs H Q E h => ?_) (fun cdv A outer s0 H vs Q E hr h => ?_)
  · obtain ⟨z, rfl, hz, qt, qn⟩ := h
    rfl
  · obtain ⟨z, rfl, hz, qt, qn⟩ := h
    refine ⟨_, (pss_one (ps_ret (pe_callS (ok_read_numbers T) (hr.mono (by decide)) (by rfl) T.g_read_numbers T.F_read_numbers.kp T.b_read_numbers (fun σ => passAt (takes_of rfl rfl rfl rfl) σ) (pa_cons (pv 0) (pa_cons (pe_glob (v := .str ",") (by rfl) (Exists.choose_spec T.g_COMMA) ⟨_, rfl⟩) (pa_cons pe_int (pa_cons (pe_glob (v := .int (4)) (by rfl) (Exists.choose_spec T.g_MOST_FIELDS) ⟨_, rfl⟩) pa_nil))))))), ?_⟩
    refine ⟨_, rfl, z, 44, 1, 4, rfl, hz, by decide, fun h p H' s hp => ?_, fun h => ?_⟩
    · exact qt (.row ((TL.spl [44] 0 [] z).map numV)) (if_pos h) _ _ s ⟨p, rfl, hp⟩
    · exact qn (if_neg (by rw [h]; decide))

open SX
theorem ok_read_pace {P : Program} {w : World} {K : PySem.W.Frag} {mg : Str → Option Value} {base : Heap} {a : Nat → Addr} {d : Nat → FuncData} (T : Txt w K mg a d) : FnOk P w K mg base (L2.CX P w) 6 (a 5) (d 5) ["text"] (spRdX (a 101) .p) := by
  refine T.F_read_pace.okX sc_read_pace (fun vs H Q E h => ?_) (fun cdv A outer s0 H vs Q E hr h => ?_)
  · obtain ⟨z, rfl, hz, qt, qn⟩ := h
    rfl
  · obtain ⟨z, rfl, hz, qt, qn⟩ := h
    refine ⟨_, (pss_one (ps_ret (pe_callS (ok_read_numbers T) (hr.mono (by decide)) (by rfl) T.g_read_numbers T.F_read_numbers.kp T.b_read_numbers (fun σ => passAt (takes_of rfl rfl rfl rfl) σ) (pa_cons (pv 0) (pa_cons (pe_glob (v := .str "/") (by rfl) (Exists.choose_spec T.g_SLASH) ⟨_, rfl⟩) (pa_cons pe_int (pa_cons pe_int pa_nil))))))), ?_⟩
    refine ⟨_, rfl, z, 47, 2, 2, rfl, hz, by decide, fun h p H' s hp => ?_, fun h => ?_⟩
    · exact qt (.row ((TL.spl [47] 0 [] z).map numV)) (if_pos h) _ _ s ⟨p, rfl, hp⟩
    · exact qn (if_neg (by rw [h]; decide))

open SX
theorem ok_read_key {P : Program} {w : World} {K : PySem.W.Frag} {mg : Str → Option Value} {base : Heap} {a : Nat → Addr} {d : Nat → FuncData} (T : Txt w K mg a d) : FnOk P w K mg base (L2.CX P w) 3 (a 6) (d 6) ["text"] (spRdX (a 101) .k) := by
  refine T.F_read_key.okX sc_read_key (fun vs H Q E h => ?_) (fun cdv A outer s0 H vs Q E hr h => ?_)
  · obtain ⟨z, rfl, hz, qt, qn⟩ := h
    rfl
  · obtain ⟨z, rfl, hz, qt, qn⟩ := h
    refine ⟨_, (pss_cons (ps_if (pt_not (pt_truth (pe_call (ok_is_key T) (hr.mono (by decide)) (by rfl) T.g_is_key T.F_is_key.kp T.b_is_key .nil pass0 (pa_cons (pv 0) pa_nil)) (by intro _; rfl))) (pss_one (ps_raise rfl (takes_of rfl rfl rfl rfl) (XB.pmk T.xo_NoText T.ie_NoText T.te_NoText (ok_INoText T T.xo_NoText T.ne_NoText_row) (hr.mono (by decide)) T.b_INoText pass0 (by rfl) T.gE_NoText (pa_cons pe_int pa_nil)))) pss_nil) (pss_one (ps_ret (pv 0)))), ?_⟩
    refine ⟨_, rfl, z, rfl, hz, _, rfl, ?_⟩
    cases c : keyOk z with
    | true => exact iteF ⟨_, rfl, qt (.txt z) (if_pos c) _ _ (Same.refl H) rfl⟩
    | false =>
      refine iteT ?_
      have qn := qn (if_neg (by rw [c]; decide))
      refine ⟨(by show 1 ≤ 1000; decide), fun x nx => ⟨x, _, rfl, upd_same, fun dx' H' ndx ne e1 e2 k => ?_⟩⟩
      have nd := ndx
      rw [upd_ne ne] at nd
      exact ⟨rfl, dx', _, e1, e2, nd, qn dx' _ ((Same.refl H).trans (same_err3 nx nd k)) upd_same⟩

open SX
theorem ok_read_way {P : Program} {w : World} {K : PySem.W.Frag} {mg : Str → Option Value} {base : Heap} {a : Nat → Addr} {d : Nat → FuncData} (T : Txt w K mg a d) : FnOk P w K mg base (L2.CX P w) 3 (a 8) (d 8) ["text"] (spRdX (a 101) .m) := by
  refine T.F_read_way.okX sc_read_way (fun vs H Q E h => ?_) (fun cdv A outer s0 H vs Q E hr h => ?_)
  · obtain ⟨z, rfl, hz, qt, qn⟩ := h
    rfl
  · obtain ⟨z, rfl, hz, qt, qn⟩ := h
    refine ⟨_, (pss_cons (ps_if (pt_cmpR op_notIn_seq (pv 0) (pe_tup (pa_cons (pe_glob (v := .str "read") (by rfl) (Exists.choose_spec T.g_READ) ⟨_, rfl⟩) (pa_cons (pe_glob (v := .str "write") (by rfl) (Exists.choose_spec T.g_WRITE) ⟨_, rfl⟩) pa_nil))) (by rfl)) (pss_one (ps_raise rfl (takes_of rfl rfl rfl rfl) (XB.pmk T.xo_NoText T.ie_NoText T.te_NoText (ok_INoText T T.xo_NoText T.ne_NoText_row) (hr.mono (by decide)) T.b_INoText pass0 (by rfl) T.gE_NoText (pa_cons pe_int pa_nil)))) pss_nil) (pss_one (ps_ret (pv 0)))), ?_⟩
    refine ⟨_, rfl, (by decide), fun p np => ?_⟩
    have s1 : Same H (upd H p (.tup [.str "read", .str "write"])) := same_new (Same.refl H) np
    have hp : (upd H p (.tup [.str "read", .str "write"])) p = some (.tup [.str "read", .str "write"]) := upd_same
    generalize (upd H p (.tup [.str "read", .str "write"])) = H1 at s1 hp ⊢
    refine ⟨p, _, rfl, .inr (SqT.of hp), rfl, rfl, _, rfl, ?_⟩
    by_cases c : z = [114, 101, 97, 100] ∨ z = [119, 114, 105, 116, 101]
    · refine iteNSB ?_ ⟨_, rfl, qt (.txt z) (if_pos c) _ _ s1 rfl⟩
      rcases c with rfl | rfl <;> decide +kernel
    · refine iteBT (way_no c) ?_
      have qn := qn (if_neg c)
      refine ⟨(by show 1 ≤ 1000; decide), fun x nx => ⟨x, _, rfl, upd_same, fun dx' H' ndx ne e1 e2 k => ?_⟩⟩
      have nd := ndx
      rw [upd_ne ne] at nd
      exact ⟨rfl, dx', _, e1, e2, nd, qn dx' _ (s1.trans (same_err3 nx nd k)) upd_same⟩

open SX
theorem ok_read_keys {P : Program} {w : World} {K : PySem.W.Frag} {mg : Str → Option Value} {base : Heap} {a : Nat → Addr} {d : Nat → FuncData} (T : Txt w K mg a d) : FnOk P w K mg base (L2.CX P w) 4 (a 7) (d 7) ["text"] (spRdX (a 101) .s) := by
  refine T.F_read_keys.okX sc_read_keys (fun vs H Q E h => ?_) (fun cdv A outer s0 H vs Q E hr h => ?_)
  · obtain ⟨z, rfl, hz, qt, qn⟩ := h
    rfl
  · obtain ⟨z, rfl, hz, qt, qn⟩ := h
    refine ⟨_, (pss_one (ps_ret (pe_callTy call_tuple_of (by rfl) T.z_tuple (by decide +kernel) (pa_cons (LR.pe_lcX (own := [("part", 1)]) (g := gName 1) (te := fun E => tCallS (spRdX (a 101) .k) E (tCons (tVar 1) tNil)) (takes_of rfl rfl rfl rfl) rfl rfl rfl (by rfl) sc_read_keys.nd (pi_list (pe_split (pv 0) (pe_glob (v := .str ",") (by rfl) (Exists.choose_spec T.g_COMMA) ⟨_, rfl⟩))) (blkOk_by (own := [("part", 1)]) (N := ["text", "part"]) (sc := defScope s_read_keys) (by decide +kernel)) (fun _ _ _ _ _ => (pg_name (i := 1) sc_read_keys.nd rfl (.inl rfl))) (fun _ _ _ _ _ => pts_nil) (fun _ _ _ _ _ _ _ hx => (pe_callS (ok_read_key T) (hr.mono (by decide)) (by rfl) T.g_read_key T.F_read_key.kp T.b_read_key hx (pa_cons (pv 1) pa_nil)))) pa_nil)))), ?_⟩
    have hz' : z.length ≤ 10000 := hz
    obtain ⟨p1, p2, p3⟩ := spl_sm (c := 44) hz
    refine ⟨_, rfl, ⟨_, rfl⟩, _, _, rfl, rfl, rfl, (by show (S z).length + 2 ≤ sizeLine; rw [S_len]; exact Nat.le_trans (show _ ≤ 10002 by omega) (by decide)), fun p np => ?_⟩
    have e : Txt.split (S z) "," = (TL.spl [44] 0 [] z).map S := by
      rw [comma_e]
      exact split_c (by decide) z
    rw [e]
    have qt : (TL.spl [44] 0 [] z).all keyOk = true → ∀ v H', Same H H' → ThAt H' v (.keys (TL.spl [44] 0 [] z)) → Q v H' := fun h => qt _ (if_pos h)
    have qn : (TL.spl [44] 0 [] z).all keyOk = false → Out E (a 101) "row" (.int 0) H := fun h => qn (if_neg (by rw [h]; decide))
    generalize TL.spl [44] 0 [] z = zs at p1 p2 p3 qt qn ⊢
    have s1 : Same H (upd H p (.lst ((zs.map S).map V.str))) := same_new (Same.refl H) np
    have hp : (upd H p (.lst ((zs.map S).map V.str))) p = some (.lst ((zs.map S).map V.str)) := upd_same
    generalize (upd H p (.lst ((zs.map S).map V.str))) = H1 at s1 hp ⊢
    have bad : ∀ {x}, x ∈ zs → keyOk x = false → zs.all keyOk = false := fun {x} hx hb => by
      cases e : zs.all keyOk with
      | false => rfl
      | true => rw [List.all_eq_true.mp e x hx] at hb; cases hb
    refine ⟨p, rfl, ⟨_, SqL.of hp⟩, fun D nD => ?_⟩

    refine lc_list (K := K) (a := p) (xs := (zs.map S).map V.str) (fun j H' => Same H1 H' ∧ H' D = some (.lst ((zs.take j).map (fun z => V.str (S z)))) ∧ (zs.take j).all keyOk = true) ⟨same_new (Same.refl H1) nD, upd_same, rfl⟩ (fun j H' _ z => SqL.of (z.1 _ _ hp)) ?_ ?_
    · rintro j v HA hj ⟨sA, hD, hall⟩
      rw [List.getElem?_map, List.getElem?_map] at hj
      cases ex : zs[j]? with
      | none => rw [ex] at hj; cases hj
      | some x =>
        rw [ex] at hj
        cases hj
        have hx := List.mem_of_getElem? ex
        have hjl := (List.getElem?_eq_some_iff.mp ex).1
        refine ⟨rfl, _, rfl, x, rfl, p1 x hx, fun t ht v HB sB hv => ?_, fun hn => ?_⟩
        · have hok : keyOk x = true := by
            cases c : keyOk x with
            | true => rfl
            | false =>
              have ht : (if keyOk x = true then _ else none) = some t := ht
              rw [c] at ht
              cases ht
          have ht : (if keyOk x = true then _ else none) = some t := ht
          rw [if_pos hok] at ht
          cases ht
          cases (show v = .str (S x) from hv)
          refine ⟨_, sB _ _ hD, ?_, fun b o z => ?_, ?_, ?_⟩
          · rw [List.length_map, List.length_take]
            exact Nat.lt_of_le_of_lt (Nat.min_le_right _ _) (Nat.lt_of_le_of_lt p2 (by decide))
          · rw [upd_ne (ne_of_none z nD)]
            exact sB _ _ (sA _ _ z)
          · rw [upd_same, List.take_add_one, ex, List.map_append]
            rfl
          · rw [List.take_add_one, ex, List.all_append, hall]
            simp [hok]
        · have hbad : keyOk x = false := by
            cases c : keyOk x with
            | false => rfl
            | true =>
              have hn : (if keyOk x = true then _ else none) = none := hn
              rw [c] at hn
              cases hn
          exact (qn (bad hx hbad)).up (s1.trans sA)
    · rintro HA ⟨sA, hD, hall⟩
      rw [List.length_map, List.length_map, List.take_length] at hD hall
      refine ⟨D, _, rfl, .inl ⟨SqL.of hD, fun t nt => ?_⟩⟩
      exact qt hall _ _ ((s1.trans sA).trans (same_new (Same.refl HA) nt)) ⟨t, rfl, upd_same⟩

open SX
theorem ok_read_thing {P : Program} {w : World} {K : PySem.W.Frag} {mg : Str → Option Value} {base : Heap} {a : Nat → Addr} {d : Nat → FuncData} (T : Txt w K mg a d) : FnOk P w K mg base (L2.CX P w) 7 (a 9) (d 9) ["text", "kind"] (spThingX (a 101)) := by
  refine T.F_read_thing.okX sc_read_thing (fun vs H Q E h => ?_) (fun cdv A outer s0 H vs Q E hr h => ?_)
  · obtain ⟨z, k, rfl, hz, qt, qn⟩ := h
    rfl
  · obtain ⟨z, k, rfl, hz, qt, qn⟩ := h
    refine ⟨_, (pss_cons (ps_set (i := 2) sc_read_thing.nd rfl (Or.inl rfl) (pe_ix ix_kdict (pe_glob (v := .ref (a 59)) (by rfl) T.g_READERS rfl) (pv 1) (fun _ _ => rfl))) (pss_one (ps_ret (KG.pe_or (pe_callL (i := 2) (ok_read_number T) (hr.mono (by decide)) (by rfl) (.inl rfl) T.F_read_number.kp T.b_read_number .nil (passes_call (E := E) (takes_of rfl rfl rfl rfl) (fun _ _ _ _ h => h)) (pa_cons (pv 0) pa_nil)) (KG.pe_or (pe_callL (i := 2) (ok_read_pace T) (hr.mono (by decide)) (by rfl) (.inl rfl) T.F_read_pace.kp T.b_read_pace .nil (passes_call (E := E) (takes_of rfl rfl rfl rfl) (fun _ _ _ _ h => h)) (pa_cons (pv 0) pa_nil)) (KG.pe_or (pe_callL (i := 2) (ok_read_key T) (hr.mono (by decide)) (by rfl) (.inl rfl) T.F_read_key.kp T.b_read_key .nil (passes_call (E := E) (takes_of rfl rfl rfl rfl) (fun _ _ _ _ h => h)) (pa_cons (pv 0) pa_nil)) (KG.pe_or (pe_callL (i := 2) (ok_read_way T) (hr.mono (by decide)) (by rfl) (.inl rfl) T.F_read_way.kp T.b_read_way .nil (passes_call (E := E) (takes_of rfl rfl rfl rfl) (fun _ _ _ _ h => h)) (pa_cons (pv 0) pa_nil)) (KG.pe_or (pe_callL (i := 2) (ok_read_worth T) (hr.mono (by decide)) (by rfl) (.inl rfl) T.F_read_worth.kp T.b_read_worth .nil (passes_call (E := E) (takes_of rfl rfl rfl rfl) (fun _ _ _ _ h => h)) (pa_cons (pv 0) pa_nil)) (pe_callL (i := 2) (ok_read_keys T) (hr.mono (by decide)) (by rfl) (.inl rfl) T.F_read_keys.kp T.b_read_keys .nil (passes_call (E := E) (takes_of rfl rfl rfl rfl) (fun _ _ _ _ h => h)) (pa_cons (pv 0) pa_nil)))))))))), ?_⟩
    cases k with
    | n =>
      exact ⟨_, rfl, _, _, .ref (a 2), rfl, rfl, KG.KIs.dct T.kR ⟨_, T.r0, rfl⟩, .inl ⟨rfl, _, rfl, z, rfl, hz, qt, qn⟩⟩
    | k =>
      exact ⟨_, rfl, _, _, .ref (a 6), rfl, rfl, KG.KIs.dct T.kR ⟨_, T.r2, rfl⟩, .inr (.inr (.inl ⟨rfl, _, rfl, z, rfl, hz, qt, qn⟩))⟩
    | m =>
      exact ⟨_, rfl, _, _, .ref (a 8), rfl, rfl, KG.KIs.dct T.kR ⟨_, T.r3, rfl⟩, .inr (.inr (.inr (.inl ⟨rfl, _, rfl, z, rfl, hz, qt, qn⟩)))⟩
    | w =>
      exact ⟨_, rfl, _, _, .ref (a 4), rfl, rfl, KG.KIs.dct T.kR ⟨_, T.r4, rfl⟩, .inr (.inr (.inr (.inr (.inl ⟨rfl, _, rfl, z, rfl, hz, qt, qn⟩))))⟩
    | p =>
      exact ⟨_, rfl, _, _, .ref (a 5), rfl, rfl, KG.KIs.dct T.kR ⟨_, T.r1, rfl⟩, .inr (.inl ⟨rfl, _, rfl, z, rfl, hz, qt, qn⟩)⟩
    | s =>
      exact ⟨_, rfl, _, _, .ref (a 7), rfl, rfl, KG.KIs.dct T.kR ⟨_, T.r5, rfl⟩, .inr (.inr (.inr (.inr (.inr (⟨rfl, _, rfl, z, rfl, hz, qt, qn⟩)))))⟩

open SX
theorem ok_read_deed_words {P : Program} {w : World} {K : PySem.W.Frag} {mg : Str → Option Value} {base : Heap} {a : Nat → Addr} {d : Nat → FuncData} (T : Txt w K mg a d) : FnOk P w K mg base (L2.CX P w) 8 (a 11) (d 11) ["words"] (spWordsX (a 101)) := by
  refine T.F_read_deed_words.okX sc_read_deed_words (fun vs H Q E h => ?_) (fun cdv A outer s0 H vs Q E hr h => ?_)
  · obtain ⟨l, ws, rfl, hl, hne, hsm, hlen, hq⟩ := h
    rfl
  · obtain ⟨l, ws, rfl, hl, hne, hsm, hlen, hq⟩ := h
    refine ⟨_, (pss_cons (ps_set (i := 1) sc_read_deed_words.nd rfl (Or.inl rfl) (KG.pe_kget (pe_glob (v := .ref (a 60)) (by rfl) T.g_DEEDS rfl) (pe_ix ix_list (pv 0) pe_int (fun _ _ => rfl)) ⟨rfl, rfl, rfl, rfl⟩)) (pss_cons (ps_if (PW.pt (pw_or (pt_cmpR op_isN (pv 1) pe_non (nomark _)) (pw_or1 (pt_cmpR op_ne (pe_callB call_len_seq (by rfl) T.z_len PySem.boot_len (pa_cons (pv 0) pa_nil)) (pe_op op_add (pe_callB call_len_seq (by rfl) T.z_len PySem.boot_len (pa_cons (pv 1) pa_nil)) pe_int) (nomark _))))) (pss_one (ps_raise rfl (takes_of rfl rfl rfl rfl) (XB.pmk T.xo_NoText T.ie_NoText T.te_NoText (ok_INoText T T.xo_NoText T.ne_NoText_row) (hr.mono (by decide)) T.b_INoText pass0 (by rfl) T.gE_NoText (pa_cons pe_int pa_nil)))) pss_nil) (pss_one (ps_ret (pe_callTy call_tuple_of (by rfl) T.z_tuple (by decide +kernel) (pa_cons (pe_op op_cat (pe_slice sl_list (pv 0) po_none (po_some pe_int)) (LR.pe_lcX (own := [("thing", 2), ("kind", 3)]) (g := (gTup K 2 (gCons (gName 2) (gCons (gName 3) gNil)))) (te := fun E => tCallS (spThingX (a 101)) E (tCons (tVar 2) (tCons (tVar 3) tNil))) (takes_of rfl rfl rfl rfl) rfl rfl rfl (by rfl) sc_read_deed_words.nd (ZG.pi_zipG (by rfl) T.z_zip (pa_cons (pe_slice sl_list (pv 0) (po_some pe_int) po_none) (pa_cons (pv 1) pa_nil))) (blkOk_by (own := [("thing", 2), ("kind", 3)]) (N := ["words", "kinds", "thing", "kind"]) (sc := defScope s_read_deed_words) (by decide +kernel)) (fun _ _ _ _ _ => (pg_tup (by rfl) (pgs_cons (pg_name (i := 2) sc_read_deed_words.nd rfl (.inl rfl)) (pgs_cons (pg_name (i := 3) sc_read_deed_words.nd rfl (.inl rfl)) pgs_nil)))) (fun _ _ _ _ _ => pts_nil) (fun _ _ _ _ _ _ _ hx => (pe_callS (ok_read_thing T) (hr.mono (by decide)) (by rfl) T.g_read_thing T.F_read_thing.kp T.b_read_thing hx (pa_cons (pv 2) (pa_cons (pv 3) pa_nil)))))) pa_nil)))))), ?_⟩
    obtain ⟨esD, nD', lD, kD⟩ := T.kN
    cases ws with
    | nil => exact absurd rfl hne
    | cons w0 r =>
      have hl : H l = some (.lst (V.str (S w0) :: r.map fun z => V.str (S z))) := hl
      refine ⟨_, rfl, T.kD, _, rfl, l, _, 0, _, rfl, rfl, SqL.of hl, atI_nat (j := 0) rfl, ?_⟩
      cases hk : lookD w0 with
      | none =>
        have hw : rdW (w0 :: r) = none := by simp only [rdW, hk]
        have qn := hq.2 hw
        refine ⟨_, none, rfl, ns_none lD kD (look_none hk), ?_⟩
        refine ⟨_, rfl, rfl, _, rfl, iteBT rfl ?_⟩
        refine ⟨(by show 1 ≤ 1000; decide), fun x nx => ⟨x, _, rfl, upd_same, fun dx' H' ndx ne e1 e2 k => ?_⟩⟩
        have nd := ndx
        rw [upd_ne ne] at nd
        exact ⟨rfl, dx', _, e1, e2, nd, qn dx' _ ((Same.refl H).trans (same_err3 nx nd k)) upd_same⟩
      | some ks =>
        have hmem := look_some hk
        have k4 : ks.length ≤ 4 := deed_len _ hmem
        obtain ⟨kp, hka, hkt⟩ := deed_at T _ hmem
        have hka : KG.KAt K (a 60) (S w0) (some (.ref kp)) := hka
        have hkt : ∀ H : Hp, SqT K H kp (ks.map fun k => V.str k.name) := hkt
        refine ⟨_, _, rfl, hka, ?_⟩
        refine ⟨_, rfl, rfl, _, rfl, iteBF rfl ?_⟩
        refine ⟨_, rfl, l, _, rfl, .inl (SqL.of hl), _, rfl, kp, _, rfl, .inr (hkt H), _, _, rfl, rfl, rfl, _, rfl, ?_⟩
        by_cases hrl : r.length = ks.length
        · have hw : rdW (w0 :: r) = (allT ks r).map fun ts => (w0, ts) := by simp only [rdW, hk, if_pos hrl]
          refine iteNSD (by rw [List.length_cons, List.length_map, List.length_map, hrl]; rfl) ?_
          refine ⟨_, rfl, 1, rfl, l, _, rfl, SqL.of hl, fun b nb => ?_⟩
          rw [cut_head]
          have s1 : Same H (upd H b (.lst [V.str (S w0)])) := same_new (Same.refl H) nb
          have hb : (upd H b (.lst [V.str (S w0)])) b = some (.lst [V.str (S w0)]) := upd_same
          generalize (upd H b (.lst [V.str (S w0)])) = H1 at s1 hb ⊢
          refine ⟨_, rfl, 1, rfl, l, _, rfl, SqL.of (s1 _ _ hl), fun c nc => ?_⟩
          rw [cut_tail]
          have s2 : Same H1 (upd H1 c (.lst (r.map fun z => V.str (S z)))) := same_new (Same.refl H1) nc
          have hc : (upd H1 c (.lst (r.map fun z => V.str (S z)))) c = some (.lst (r.map fun z => V.str (S z))) := upd_same
          generalize (upd H1 c (.lst (r.map fun z => V.str (S z)))) = H2 at s2 hc ⊢
          refine ⟨_, rfl, .lst c, .tup kp, r.map fun z => V.str (S z), _, rfl, SqL.of hc, hkt H2, fun D nD => ?_⟩
          refine lc_it (ZG.walkG (S := .lst c) (R := .tup kp) (xs := r.map fun z : List Nat => V.str (S z)) (ys := ks.map fun k : Kd => V.str k.name) (by rw [List.length_map, List.length_map, hrl])) (fun j H' => Same H2 H' ∧ ∃ vs ts, H' D = some (.lst vs) ∧ ThsAt H' vs ts ∧ vs.length = j ∧ allT (ks.take j) (r.take j) = some ts) ⟨same_new (Same.refl H2) nD, [], [], upd_same, .nil, rfl, by rw [List.take_zero, List.take_zero]; rfl⟩ (fun j H' _ z => ⟨SqL.of (z.1 _ _ hc), hkt H'⟩) ?_ ?_
          · rintro j v HA HB hj ⟨sA, vs, ts, hD, hts, hvl, hall⟩ ⟨T0, x, y, rfl, nT, rfl, ex, ey⟩
            rw [List.length_map] at hj
            have ex2 : (r.map fun z => V.str (S z))[j]? = some x := ex
            have ey2 : (ks.map fun k => V.str k.name)[j]? = some y := ey
            obtain ⟨z, ez⟩ : ∃ z, r[j]? = some z := ⟨_, List.getElem?_eq_getElem (by omega)⟩
            obtain ⟨k, ek⟩ : ∃ k, ks[j]? = some k := ⟨_, List.getElem?_eq_getElem (by omega)⟩
            rw [List.getElem?_map, ez] at ex2
            rw [List.getElem?_map, ek] at ey2
            cases ex2
            cases ey2
            have sT : Same HA (upd HA T0 (.tup [V.str (S z), V.str k.name])) := same_new (Same.refl HA) nT
            have hT : (upd HA T0 (.tup [V.str (S z), V.str k.name])) T0 = some (.tup [V.str (S z), V.str k.name]) := upd_same
            generalize (upd HA T0 (.tup [V.str (S z), V.str k.name])) = HB at sT hT ⊢
            refine ⟨T0, _, rfl, SqT.of hT, rfl, _, _, rfl, _, _, rfl, rfl, rfl, _, rfl, _, rfl, z, k, rfl, hsm z (.tail _ (List.mem_of_getElem? ez)), fun t ht v HC sC hv => ?_, fun hn => ?_⟩
            · have kk : ∀ p xs, HC p = some (.tup xs) → (upd HC D (.lst (vs ++ [v]))) p = some (.tup xs) := fun p xs e => by
                rw [upd_ne (ne_of e (sC _ _ (sT _ _ hD)) (by intro q; cases q))]
                exact e
              refine ⟨_, sC _ _ (sT _ _ hD), ?_, fun b o w => ?_, vs ++ [v], ts ++ [t], upd_same, ?_, ?_, ?_⟩
              · rw [hvl]
                exact Nat.lt_of_le_of_lt (show _ ≤ 4 by omega) (by decide)
              · rw [upd_ne (ne_of_none w nD)]
                exact sC _ _ (sT _ _ (sA _ _ w))
              · exact ThsAt.up kk (ThsAt.snoc hv (ThsAt.up (fun p xs e => sC _ _ (sT _ _ e)) hts))
              · rw [List.length_append, hvl]
                rfl
              · rw [List.take_add_one, List.take_add_one, ek, ez]
                exact allT_snoc hall ht
            · have hbad := allT_bad ek ez hn
              rw [hbad] at hw
              exact (hq.2 hw).up (((s1.trans s2).trans sA).trans sT)
          · rintro HA ⟨sA, vs, ts, hD, hts, hvl, hall⟩
            rw [List.length_map] at hall hvl
            rw [List.take_of_length_le (by omega), List.take_of_length_le (Nat.le_refl _)] at hall
            rw [hall] at hw
            refine ⟨b, D, _, _, rfl, rfl, sA _ _ (s2 _ _ hb), hD, ?_, fun m nm => ?_⟩
            · rw [hvl]
              exact Nat.le_trans (show _ ≤ 5 by simp; omega) (by decide)
            have s3 : Same HA (upd HA m (.lst ([V.str (S w0)] ++ vs))) := same_new (Same.refl HA) nm
            have hm : (upd HA m (.lst ([V.str (S w0)] ++ vs))) m = some (.lst ([V.str (S w0)] ++ vs)) := upd_same
            generalize (upd HA m (.lst ([V.str (S w0)] ++ vs))) = HM at s3 hm ⊢
            refine ⟨m, _, rfl, .inl ⟨SqL.of hm, fun t nt => ?_⟩⟩
            have s4 : Same HM (upd HM t (.tup ([V.str (S w0)] ++ vs))) := same_new (Same.refl HM) nt
            exact hq.1 w0 ts hw t vs _ (s1.trans (s2.trans (sA.trans (s3.trans s4)))) upd_same (ThsAt.up (fun p xs e => s4 _ _ (s3 _ _ e)) hts)
        · have hw : rdW (w0 :: r) = none := by simp only [rdW, hk, if_neg hrl]
          have qn := hq.2 hw
          refine iteND (fun e => hrl (by
            have e := V.int.inj e
            rw [List.length_cons, List.length_map, List.length_map] at e
            omega)) ?_
          refine ⟨(by show 1 ≤ 1000; decide), fun x nx => ⟨x, _, rfl, upd_same, fun dx' H' ndx ne e1 e2 k => ?_⟩⟩
          have nd := ndx
          rw [upd_ne ne] at nd
          exact ⟨rfl, dx', _, e1, e2, nd, qn dx' _ ((Same.refl H).trans (same_err3 nx nd k)) upd_same⟩

open SX
theorem ok_read_deed {P : Program} {w : World} {K : PySem.W.Frag} {mg : Str → Option Value} {base : Heap} {a : Nat → Addr} {d : Nat → FuncData} (T : Txt w K mg a d) : FnOk P w K mg base (L2.CX P w) 9 (a 10) (d 10) ["text"] (spDeedX K (a 101)) := by
  refine T.F_read_deed.okX sc_read_deed (fun vs H Q E h => ?_) (fun cdv A outer s0 H vs Q E hr h => ?_)
  · obtain ⟨v, rfl, hv⟩ := h
    rfl
  · obtain ⟨v, rfl, hv⟩ := h
    refine ⟨_, (pss_cons (ps_if (pt_not (pt_truth (pe_callB call_isi (by rfl) T.z_isinstance (by decide +kernel) (pa_cons (pv 0) (pa_cons (pe_bltn (v := .ty "str") (by rfl) T.z_str (by decide +kernel) rfl) pa_nil))) (by intro _; rfl))) (pss_one (ps_raise rfl (takes_of rfl rfl rfl rfl) (XB.pmk T.xo_NoText T.ie_NoText T.te_NoText (ok_INoText T T.xo_NoText T.ne_NoText_row) (hr.mono (by decide)) T.b_INoText pass0 (by rfl) T.gE_NoText (pa_cons pe_int pa_nil)))) pss_nil) (pss_one (ps_ret (pe_callS (ok_read_deed_words T) (hr.mono (by decide)) (by rfl) T.g_read_deed_words T.F_read_deed_words.kp T.b_read_deed_words (fun σ => passAt (takes_of rfl rfl rfl rfl) σ) (pa_cons (pe_split (pv 0) (pe_glob (v := .str " ") (by rfl) (Exists.choose_spec T.g_BLANK) ⟨_, rfl⟩)) pa_nil))))), ?_⟩
    rcases hv with ⟨z, rfl, hz, hw⟩ | ⟨d', ha, hn, qn⟩
    · have hz' : z.length ≤ 10000 := hz
      obtain ⟨p1, p2, p3⟩ := spl_sm (c := 32) hz
      refine ⟨_, rfl, _, .ty "str", _, .type "str", true, rfl, .ty "str", .base (.str _), kit_ty (by decide +kernel), true, rfl,  iteF ?_⟩
      refine ⟨_, rfl, ⟨_, rfl⟩, _, _, rfl, rfl, rfl, (by show (S z).length + 2 ≤ sizeLine; rw [S_len]; exact Nat.le_trans (show _ ≤ 10002 by omega) (by decide)), fun p np => ?_⟩
      have e : Txt.split (S z) " " = (TL.spl [32] 0 [] z).map S := by
        rw [blank_e]
        exact split_c (by decide) z
      rw [e]
      have s1 : Same H (upd H p (.lst (((TL.spl [32] 0 [] z).map S).map V.str))) := same_new (Same.refl H) np
      refine ⟨p, TL.spl [32] 0 [] z, rfl, ?_, p3, p1, p2, hw.up s1⟩
      rw [upd_same, List.map_map]
      rfl
    · obtain ⟨t, ht, hk⟩ := an_str ha hn
      refine ⟨_, rfl, v, .ty "str", t, .type "str", false, rfl, .ty "str", ht, hk, false, rfl, iteT ?_⟩
      refine ⟨(by show 1 ≤ 1000; decide), fun x nx => ⟨x, _, rfl, upd_same, fun dx' H' ndx ne e1 e2 k => ?_⟩⟩
      have nd := ndx
      rw [upd_ne ne] at nd
      exact ⟨rfl, dx', _, e1, e2, nd, qn dx' _ ((Same.refl H).trans (same_err3 nx nd k)) upd_same⟩

open SX
theorem ok_l_begun {P : Program} {w : World} {K : PySem.W.Frag} {mg : Str → Option Value} {base : Heap} {a : Nat → Addr} {d : Nat → FuncData} (T : Txt w K mg a d) : FnOk P w K mg base CX0 1 (a 12) (d 12) ["_law_script", "_law_k"] (spBegun K) := by
  refine T.F_l_begun.ok sc_l_begun (fun vs H Q E h => ?_) (fun cdv A outer s0 H vs Q E hr h => ?_)
  · obtain ⟨l, ns, k, rfl, hS, hl, hk0, hk1, q⟩ := h
    rfl
  · obtain ⟨l, ns, k, rfl, hS, hl, hk0, hk1, q⟩ := h
    have hc := cell_at ns (some k) (some (k + 1))
    obtain ⟨c, hc⟩ := hc
    refine ⟨_, (pss_cons (ps_set (i := 2) sc_l_begun.nd rfl (Or.inl rfl) (pe_ix ix_list (pe_op op_cat (pe_slice sl_list (pv 0) (po_some (pv 1)) (po_some (pe_op op_add (pv 1) pe_int))) (pe_lst (pa_cons pe_int pa_nil))) pe_int (fun _ _ => rfl))) (pss_cons (ps_set (i := 3) sc_l_begun.nd rfl (Or.inl rfl) (pe_callB (call_max2 rfl) (by rfl) T.z_max (by decide +kernel) (pa_cons (pv 2) (pa_cons (pe_op op_sub (pe_un un_neg pe_int) (pv 2)) pa_nil)))) (pss_cons (ps_set (i := 4) sc_l_begun.nd rfl (Or.inl rfl) (pe_op op_mod (pe_op op_add (pe_op op_add (pe_op op_add (pe_op op_mod (pv 3) pe_int) (pe_op op_mul pe_int (pv 1))) (pe_op op_mul (pe_op op_mul pe_int (pv 1)) (pv 1))) pe_int) pe_int)) (pss_one (ps_ret (pe_lst (pa_cons (pv 3) (pa_cons (pv 4) (pa_cons (pe_cmpR op_ge (pv 3) (pe_op op_pow pe_int pe_int) (nomark _)) pa_nil))))))))), ?_⟩
    refine ⟨_, rfl, _, rfl, k, rfl, _, rfl, k, 1, rfl, rfl, k + 1, rfl, l, _, rfl, hS, fun p1 n1 => ?_⟩
    refine ⟨len1, fun p2 n2 => ?_⟩
    have n12 : p1 ≠ p2 := fun e => by rw [e] at n1; rw [← e, upd_same] at n2; cases n2
    refine ⟨p1, p2, _, _, rfl, rfl, (by rw [upd_ne n12]; exact upd_same), upd_same, ?_, fun p3 n3 => ?_⟩
    · have z := cut_len (ns.map V.int) (some k) (some (k + 1))
      rw [List.length_map] at z
      exact Nat.le_trans (Nat.add_le_add_right (Nat.le_trans z hl) 1) (by decide)
    refine ⟨p3, _, 0, _, rfl, rfl, SqL.of upd_same, hc, ?_⟩
    refine ⟨_, rfl, 1, rfl, _, rfl, -1, c, rfl, rfl, c, -1 - c, rfl, ?_⟩
    refine ⟨_, rfl, _, _, rfl, rfl, (by show (0 : Int) < 2147483629; decide), _, rfl, 7919, k, rfl, rfl, .inl (m64 (by decide) (by decide)), _, _, rfl, rfl, ?_⟩
    refine ⟨_, rfl, 104729, k, rfl, rfl, .inl (m64 (by decide) (by decide)), _, rfl, _, k, rfl, rfl, .inr (m64 (by omega) (by omega)), _, _, rfl, rfl, _, 11, rfl, rfl, _, _, rfl, rfl, (by show (0 : Int) < 2147483629; decide), ?_⟩
    refine ⟨_, rfl, _, rfl, _, rfl, 10, 18, rfl, rfl, ⟨by decide, by decide, by decide⟩, _, _, rfl, rfl, len3, fun p4 n4 => ?_⟩
    refine q p4 _ (Same.free (same_new (same_new (same_new (Same.refl H) n1) n2) n3) n4) (same_new (same_new (same_new (same_new (Same.refl H) n1) n2) n3) n4) ⟨_, _, _, upd_same, ?_, ?_⟩
    · exact Int.emod_nonneg _ (by decide)
    · exact Int.lt_trans (Int.emod_lt_of_pos _ (by decide)) (by decide)

open SX
theorem ok_l_take {P : Program} {w : World} {K : PySem.W.Frag} {mg : Str → Option Value} {base : Heap} {a : Nat → Addr} {d : Nat → FuncData} (T : Txt w K mg a d) : FnOk P w K mg base CX0 1 (a 13) (d 13) ["_law_state", "_law_many"] spTake := by
  refine T.F_l_take.ok sc_l_take (fun vs H Q E h => ?_) (fun cdv A outer s0 H vs Q E hr h => ?_)
  · obtain ⟨s, m, rfl, ⟨x, y, c, hs, y0, y1⟩, m0, m1, q⟩ := h
    rfl
  · obtain ⟨s, m, rfl, ⟨x, y, c, hs, y0, y1⟩, m0, m1, q⟩ := h
    refine ⟨_, (pss_cons (ps_if (pt_truth (pe_ix ix_list (pv 0) pe_int (fun _ _ => rfl)) (by intro _; rfl)) (pss_cons (ps_set (i := 2) sc_l_take.nd rfl (Or.inl rfl) (pe_op op_mod (pe_ix ix_list (pv 0) pe_int (fun _ _ => rfl)) (pv 1))) (pss_cons (ps_asg (pe_op op_fdivW (pe_ix ix_list (pv 0) pe_int (fun _ _ => rfl)) (pv 1)) (pg_sub (pv 0) pe_int set_list)) (pss_cons (ps_asg (pe_cmpR op_gt (pe_ix ix_list (pv 0) pe_int (fun _ _ => rfl)) pe_int (nomark _)) (pg_sub (pv 0) pe_int set_list)) (pss_one (ps_ret (pv 2)))))) pss_nil) (pss_cons (ps_set (i := 3) sc_l_take.nd rfl (Or.inl rfl) pe_int) (pss_cons (ps_for PassesOwn.never rfl (pi_range1 (by rfl) T.z_range (pa_cons (pe_op op_add pe_int (pe_callTy call_int1 (by rfl) T.z_int (by decide +kernel) (pa_cons (pe_cmpR op_gt (pv 1) (pe_op op_pow pe_int pe_int) (nomark _)) pa_nil))) pa_nil)) (pg_name (i := 4) sc_l_take.nd rfl (.inl rfl)) (pss_cons (ps_asg (pe_op op_mod (pe_op op_add (pe_op op_mul (pe_ix ix_list (pv 0) pe_int (fun _ _ => rfl)) pe_int) pe_int) pe_int) (pg_sub (pv 0) pe_int set_list)) (pss_one (ps_set (i := 3) sc_l_take.nd rfl (Or.inl rfl) (pe_op op_add (pe_op op_mul (pv 3) pe_int) (pe_op op_mod (pe_op op_mul (pe_ix ix_list (pv 0) pe_int (fun _ _ => rfl)) (pe_ix ix_list (pv 0) pe_int (fun _ _ => rfl))) pe_int)))))) (pss_one (ps_ret (pe_op op_mod (pe_op op_fdiv (pv 3) pe_int) (pv 1))))))), ?_⟩
    refine ⟨_, rfl, s, _, 2, _, rfl, rfl, SqL.of hs, rfl, c, rfl, ?_⟩
    cases c with
    | true =>
      refine iteT ?_
      refine ⟨_, rfl, s, _, 0, _, rfl, rfl, SqL.of hs, rfl, _, rfl, x, m, rfl, rfl, m0, ?_⟩
      refine ⟨_, rfl, s, _, 0, _, rfl, rfl, SqL.of hs, rfl, _, rfl, x, m, rfl, rfl, divW m0 (p2000 m1), _, rfl, s, _, 0, 0, rfl, rfl, hs, rfl, ?_⟩
      refine ⟨_, rfl, s, _, 0, _, rfl, rfl, SqL.of upd_same, rfl, _, 0, rfl, rfl, _, rfl, s, _, 2, 2, rfl, rfl, upd_same, rfl, ?_⟩
      refine ⟨_, rfl, ?_⟩
      refine q _ _ (Int.emod_nonneg _ (by omega)) (Int.emod_lt_of_pos _ m0) ⟨fun b o n e => ?_, ⟨_, _, _, upd_same, y0, y1⟩⟩
      rw [upd_ne n, upd_ne n]
      exact e
    | false =>
      refine iteF ?_
      refine ⟨_, rfl, 10, 6, rfl, rfl, ⟨by decide, by decide, by decide⟩, m, _, rfl, rfl, .inr ⟨_, rfl, 1, _, rfl, rfl, _, rfl, ?_, ?_, ?_⟩⟩
      · cases decide ((10 : Int) ^ (6 : Int).toNat < m) <;> decide
      · cases decide ((10 : Int) ^ (6 : Int).toNat < m) <;> decide
      refine for_range (fun i σ H' => ∃ (made : Int) (t : Option V), σ = [some (.ref s), some (.int m), none, some (.int made), t] ∧ Kp s H H') ⟨0, none, rfl, ⟨fun _ _ _ e => e, _, _, _, hs, y0, y1⟩⟩ ?_ ?_
      · rintro i σ H' hi ⟨made, t, rfl, k, ⟨x', y', c', hs', y0', y1'⟩⟩
        refine ⟨_, rfl, s, _, 1, _, rfl, rfl, SqL.of hs', rfl, y', 48271, rfl, rfl, .inr (m64 (by decide) (by decide)), _, 11, rfl, rfl, _, 2147483647, rfl, rfl, (by show (0 : Int) < 2147483647; decide), _, rfl, s, _, 1, 1, rfl, rfl, hs', rfl, ?_⟩
        have e0 : 0 ≤ (y' * 48271 + 11) % 2147483647 := Int.emod_nonneg _ (by decide)
        have e1 : (y' * 48271 + 11) % 2147483647 < 2147483647 := Int.emod_lt_of_pos _ (by decide)
        refine ⟨_, rfl, made, 2147483587, rfl, rfl, .inr (m64 (by decide) (by decide)), _, rfl, s, _, 1, _, rfl, rfl, SqL.of upd_same, rfl, _, rfl, s, _, 1, _, rfl, rfl, SqL.of upd_same, rfl, _, _, rfl, rfl, .inl (m64 (by omega) (by omega)), _, 2147483587, rfl, rfl, (by show (0 : Int) < 2147483587; decide), _, _, rfl, rfl, ?_⟩
        refine ⟨_, _, rfl, ⟨fun b o n e => ?_, _, _, _, upd_same, e0, e1⟩⟩
        rw [upd_ne n]
        exact k b o n e
      · rintro σ H' ⟨made, t, rfl, k⟩
        refine ⟨_, rfl, made, 64, rfl, rfl, ⟨by decide, by decide⟩, _, rfl, _, m, rfl, rfl, m0, ?_⟩
        exact q _ _ (Int.emod_nonneg _ (by omega)) (Int.emod_lt_of_pos _ m0) k

open SX
theorem keys5_e : (keys5.map fun z => V.str (S z)) = [.str "a", .str "b", .str "zzzzzz", .str "read", .str "tick"] := by
  have h : (keys5.map S) = ([("a" : Str), "b", "zzzzzz", "read", "tick"] : List Str) := by decide +kernel
  have e : (keys5.map fun z => V.str (S z)) = (keys5.map S).map V.str := by rw [List.map_map]; rfl
  rw [e, h]
  rfl
def spAKey : Sp := fun vs H Q _ => ∃ s : Addr, vs = [.ref s] ∧ StAt H s ∧ ∀ (z : List Nat) (H' : Hp), z ∈ keys5 → Kp s H H' → Q (.str (S z)) H'
def spNumber : Sp := fun vs H Q _ => ∃ s : Addr, vs = [.ref s] ∧ StAt H s ∧ ∀ (i : Int) (H' : Hp), Bn i → Kp s H H' → Q (.int i) H'
def spThings : Sp := fun vs H Q _ => ∃ (s : Addr) (ks : List Kd), vs = [.ref s, .str (S (ks.map Kd.sign))] ∧ StAt H s ∧ ks.length ≤ 4 ∧ ∀ (p : Addr) (xs : List V) (ts : List Th) (H' : Hp), Kp s H H' → H' p = some (.tup xs) → ThsAt H' xs ts → Fits ks ts → Q (.ref p) H'
def Kd.pick (k : Kd) (n y m w p s : V) : V := match k with
  | .n => n | .k => y | .m => m | .w => w | .p => p | .s => s
def MENU (n y m w p s : V) : List (Key × V) := [(Sum.inr ("n" : Str), n), (Sum.inr ("k" : Str), y), (Sum.inr ("m" : Str), m), (Sum.inr ("w" : Str), w), (Sum.inr ("p" : Str), p), (Sum.inr ("s" : Str), s)]
theorem menu_same (n y m w p s : V) : mergeK [] (MENU n y m w p s) = MENU n y m w p s := by rfl
theorem menu_get (n y m w p s : V) (k : Kd) : valV (MENU n y m w p s) (Sum.inr (S [k.sign])) = some (k.pick n y m w p s) := by
  cases k <;> rfl
theorem rw_e (r : Int) (h0 : 0 ≤ r) (h1 : r < 2) : ∃ z, (z = [114, 101, 97, 100] ∨ z = [119, 114, 105, 116, 101]) ∧ atI [V.str "read", V.str "write"] r = some (V.str (S z)) := by
  have : r = 0 ∨ r = 1 := by omega
  rcases this with rfl | rfl
  · exact ⟨_, .inl rfl, congrArg (fun z => some (V.str z)) (by decide +kernel : ("read" : Str) = S [114, 101, 97, 100])⟩
  · exact ⟨_, .inr rfl, congrArg (fun z => some (V.str z)) (by decide +kernel : ("write" : Str) = S [119, 114, 105, 116, 101])⟩
theorem Kp.ths {s : Addr} {H H' : Hp} (k : Kp s H H') (h0 : StAt H s) : ∀ p xs, H p = some (.tup xs) → H' p = some (.tup xs) := fun p xs e => k.tup h0 e
theorem sign_get {ks : List Kd} {i c : Nat} (h : (S (ks.map Kd.sign)).cps[i]? = some c) : ∃ k, ks[i]? = some k ∧ c = k.sign := by
  have h2 : (ks.map Kd.sign)[i]? = some c := by
    have e : (S (ks.map Kd.sign)).cps[i]? = (ks.map Kd.sign)[i]? := by simp [S]
    rw [← e]
    exact h
  rw [List.getElem?_map] at h2
  cases e : ks[i]? with
  | none => rw [e] at h2; cases h2
  | some k => rw [e] at h2; cases h2; exact ⟨k, rfl, rfl⟩
theorem sign_size (ks : List Kd) : (S (ks.map Kd.sign)).cps.size = ks.length := by simp [S]
theorem Kp.put {s p : Addr} {H H1 : Hp} {o : HO} (k : Kp s H H1) (hp : H p = none) (ne : p ≠ s) : Kp s H (upd H1 p o) :=
  ⟨fun b u n e => by rw [upd_ne (ne_of_none e hp)]; exact k.1 b u n e, by
    obtain ⟨a1, a2, a3, e, r⟩ := k.2
    exact ⟨a1, a2, a3, by rw [upd_ne (Ne.symm ne)]; exact e, r⟩⟩

open SX
theorem ok_l_a_key {P : Program} {w : World} {K : PySem.W.Frag} {mg : Str → Option Value} {base : Heap} {a : Nat → Addr} {d : Nat → FuncData} (T : Txt w K mg a d) : FnOk P w K mg base CX0 2 (a 14) (d 14) ["_law_state"] spAKey := by
  refine T.F_l_a_key.ok sc_l_a_key (fun vs H Q E h => ?_) (fun cdv A outer s0 H vs Q E hr h => ?_)
  · obtain ⟨s, rfl, hst, q⟩ := h
    rfl
  · obtain ⟨s, rfl, hst, q⟩ := h
    refine ⟨_, (pss_one (ps_ret (pe_ix ix_list (pe_lst (pa_cons pe_str (pa_cons pe_str (pa_cons pe_str (pa_cons pe_str (pa_cons pe_str pa_nil)))))) (pe_call (ok_l_take T) (hr.mono (by decide)) (by rfl) T.g_l_take T.F_l_take.kp T.b_l_take .nil pass0 (pa_cons (pv 0) (pa_cons pe_int pa_nil))) (fun _ _ => rfl)))), ?_⟩
    refine ⟨(by decide), fun p np => ?_⟩
    have k1 : Kp s H (upd H p (.lst (keys5.map fun z => V.str (S z)))) := hst.kp.new np
    have hp : (upd H p (.lst [.str "a", .str "b", .str "zzzzzz", .str "read", .str "tick"])) p = some (.lst (keys5.map fun z => V.str (S z))) := by rw [upd_same, keys5_e]
    rw [keys5_e] at k1
    generalize (upd H p (.lst [.str "a", .str "b", .str "zzzzzz", .str "read", .str "tick"])) = H1 at k1 hp ⊢
    have ps : p ≠ s := hst.ne_new np
    refine ⟨_, rfl, s, 5, rfl, k1.2, (by decide), (by decide), fun r H2 r0 r1 k2 => ?_⟩
    obtain ⟨z, hz, ez⟩ : ∃ z, z ∈ keys5 ∧ atI (keys5.map fun z => V.str (S z)) r = some (V.str (S z)) := by
      obtain ⟨n, rfl⟩ := Int.eq_ofNat_of_zero_le r0
      have hn : n < keys5.length := by show n < 5; omega
      exact ⟨keys5[n], List.getElem_mem hn, atI_nat (j := n) (by rw [List.getElem?_map, List.getElem?_eq_getElem hn]; rfl)⟩
    exact ⟨p, _, r, _, rfl, rfl, SqL.of (k2.1 _ _ ps hp), ez, q z H2 hz (k1.trans k2)⟩

open SX
theorem ok_l_number {P : Program} {w : World} {K : PySem.W.Frag} {mg : Str → Option Value} {base : Heap} {a : Nat → Addr} {d : Nat → FuncData} (T : Txt w K mg a d) : FnOk P w K mg base CX0 2 (a 15) (d 15) ["_law_state"] spNumber := by
  refine T.F_l_number.ok sc_l_number (fun vs H Q E h => ?_) (fun cdv A outer s0 H vs Q E hr h => ?_)
  · obtain ⟨s, rfl, hst, q⟩ := h
    rfl
  · obtain ⟨s, rfl, hst, q⟩ := h
    refine ⟨_, (pss_cons (ps_set (i := 1) sc_l_number.nd rfl (Or.inl rfl) (pe_op op_add (pe_op op_pow pe_int pe_int) (pe_call (ok_l_take T) (hr.mono (by decide)) (by rfl) T.g_l_take T.F_l_take.kp T.b_l_take .nil pass0 (pa_cons (pv 0) (pa_cons pe_int pa_nil))))) (pss_one (ps_ret (pe_ix ix_list (pe_lst (pa_cons pe_int (pa_cons pe_int (pa_cons (pe_call (ok_l_take T) (hr.mono (by decide)) (by rfl) T.g_l_take T.F_l_take.kp T.b_l_take .nil pass0 (pa_cons (pv 0) (pa_cons pe_int pa_nil))) (pa_cons (pv 1) (pa_cons (pe_op op_sub (pe_op op_sub pe_int pe_int) (pe_call (ok_l_take T) (hr.mono (by decide)) (by rfl) T.g_l_take T.F_l_take.kp T.b_l_take .nil pass0 (pa_cons (pv 0) (pa_cons pe_int pa_nil)))) pa_nil)))))) (pe_call (ok_l_take T) (hr.mono (by decide)) (by rfl) T.g_l_take T.F_l_take.kp T.b_l_take .nil pass0 (pa_cons (pv 0) (pa_cons pe_int pa_nil))) (fun _ _ => rfl))))), ?_⟩
    refine ⟨10, 29, rfl, rfl, ⟨by decide, by decide, by decide⟩, _, rfl, s, 9, rfl, hst, (by decide), (by decide), fun r1 H1 a0 a1 k1 => ⟨_, _, rfl, rfl, ?_⟩⟩
    refine ⟨_, rfl, s, 30, rfl, k1.2, (by decide), (by decide), fun r2 H2 b0 b1 k2 => ⟨_, rfl, 0, 1, rfl, rfl, ?_⟩⟩
    refine ⟨_, rfl, s, 50, rfl, k2.2, (by decide), (by decide), fun r3 H3 c0 c1 k3 => ⟨_, _, rfl, rfl, ?_⟩⟩
    refine ⟨(by show 5 ≤ sizeLine; decide), fun p np => ?_⟩
    have k123 := (k1.trans k2).trans k3
    have e29 : (10 : Int) ^ (29 : Int).toNat = 100000000000000000000000000000 := by decide
    have k4 : Kp s H (upd H3 p (.lst [.int 0, .int 1, .int r2, .int (10 ^ (29 : Int).toNat + r1), .int (0 - 1 - r3)])) := k123.new np
    have hp : (upd H3 p (.lst [.int 0, .int 1, .int r2, .int (10 ^ (29 : Int).toNat + r1), .int (0 - 1 - r3)])) p = some (.lst ([0, 1, r2, 10 ^ (29 : Int).toNat + r1, 0 - 1 - r3].map V.int)) := upd_same
    have ps : p ≠ s := k123.2.ne_new np
    refine ⟨_, rfl, s, 5, rfl, k4.2, (by decide), (by decide), fun r H5 d0 d1 k5 => ?_⟩
    obtain ⟨i, hi, ei⟩ : ∃ i, Bn i ∧ atI ([0, 1, r2, 10 ^ (29 : Int).toNat + r1, 0 - 1 - r3].map V.int) r = some (V.int i) := by
      rw [e29]
      have : r = 0 ∨ r = 1 ∨ r = 2 ∨ r = 3 ∨ r = 4 := by omega
      rcases this with rfl | rfl | rfl | rfl | rfl
      · exact ⟨0, by unfold Bn; omega, rfl⟩
      · exact ⟨1, by unfold Bn; omega, rfl⟩
      · exact ⟨r2, by unfold Bn; omega, rfl⟩
      · exact ⟨_, by unfold Bn; omega, rfl⟩
      · exact ⟨_, by unfold Bn; omega, rfl⟩
    exact ⟨p, _, r, _, rfl, rfl, SqL.of (k5.1 _ _ ps hp), ei, q i H5 hi (k4.trans k5)⟩

open SX
theorem ok_l_things {P : Program} {w : World} {K : PySem.W.Frag} {mg : Str → Option Value} {base : Heap} {a : Nat → Addr} {d : Nat → FuncData} (T : Txt w K mg a d) : FnOk P w K mg base CX0 3 (a 16) (d 16) ["_law_state", "_law_kinds_here"] spThings := by
  refine T.F_l_things.ok sc_l_things (fun vs H Q E h => ?_) (fun cdv A outer s0 H vs Q E hr h => ?_)
  · obtain ⟨s, ks, rfl, hst, hl4, q⟩ := h
    rfl
  · obtain ⟨s, ks, rfl, hst, hl4, q⟩ := h
    refine ⟨_, (pss_cons (ps_set (i := 2) sc_l_things.nd rfl (Or.inl rfl) (pe_lst pa_nil)) (pss_cons (ps_for PassesOwn.never rfl (pi_str (pv 1)) (pg_name (i := 3) sc_l_things.nd rfl (.inl rfl)) (pss_cons (ps_set (i := 4) sc_l_things.nd rfl (Or.inl rfl) (pe_tup (pa_cons (pe_call (ok_l_number T) (hr.mono (by decide)) (by rfl) T.g_l_number T.F_l_number.kp T.b_l_number .nil pass0 (pa_cons (pv 0) pa_nil)) (pa_cons (pe_call (ok_l_number T) (hr.mono (by decide)) (by rfl) T.g_l_number T.F_l_number.kp T.b_l_number .nil pass0 (pa_cons (pv 0) pa_nil)) pa_nil)))) (pss_cons (ps_set (i := 5) sc_l_things.nd rfl (Or.inl rfl) (pe_callTy call_tuple_of (by rfl) T.z_tuple (by decide +kernel) (pa_cons (pe_lc (own := [("_law_part", 9)]) (g := gName 9) (te := (tCall spNumber [] E0 (tCons (tVar 0) tNil))) (by rfl) sc_l_things.nd (pi_range1 (by rfl) T.z_range (pa_cons (pe_op op_add pe_int (pe_call (ok_l_take T) (hr.mono (by decide)) (by rfl) T.g_l_take T.F_l_take.kp T.b_l_take .nil pass0 (pa_cons (pv 0) (pa_cons pe_int pa_nil)))) pa_nil)) (blkOk_by (own := [("_law_part", 9)]) (N := ["_law_state", "_law_kinds_here", "_law_found", "_law_kind", "_law_pace", "_law_worth", "_law_some", "_law_mode", "_law_menu", "_law_part"]) (sc := defScope s_l_things) (by decide +kernel)) (fun _ _ _ _ _ => (pg_name (i := 9) sc_l_things.nd rfl (.inl rfl))) (fun _ _ _ _ _ => pts_nil) (fun _ _ _ _ _ => (pe_call (ok_l_number T) (hr.mono (by decide)) (by rfl) T.g_l_number T.F_l_number.kp T.b_l_number .nil pass0 (pa_cons (pv 0) pa_nil)))) pa_nil))) (pss_cons (ps_set (i := 6) sc_l_things.nd rfl (Or.inl rfl) (pe_callTy call_tuple_of (by rfl) T.z_tuple (by decide +kernel) (pa_cons (pe_lc (own := [("_law_part", 9)]) (g := gName 9) (te := (tCall spAKey [] E0 (tCons (tVar 0) tNil))) (by rfl) sc_l_things.nd (pi_range1 (by rfl) T.z_range (pa_cons (pe_op op_add pe_int (pe_call (ok_l_take T) (hr.mono (by decide)) (by rfl) T.g_l_take T.F_l_take.kp T.b_l_take .nil pass0 (pa_cons (pv 0) (pa_cons pe_int pa_nil)))) pa_nil)) (blkOk_by (own := [("_law_part", 9)]) (N := ["_law_state", "_law_kinds_here", "_law_found", "_law_kind", "_law_pace", "_law_worth", "_law_some", "_law_mode", "_law_menu", "_law_part"]) (sc := defScope s_l_things) (by decide +kernel)) (fun _ _ _ _ _ => (pg_name (i := 9) sc_l_things.nd rfl (.inl rfl))) (fun _ _ _ _ _ => pts_nil) (fun _ _ _ _ _ => (pe_call (ok_l_a_key T) (hr.mono (by decide)) (by rfl) T.g_l_a_key T.F_l_a_key.kp T.b_l_a_key .nil pass0 (pa_cons (pv 0) pa_nil)))) pa_nil))) (pss_cons (ps_set (i := 7) sc_l_things.nd rfl (Or.inl rfl) (pe_ix ix_list (pe_lst (pa_cons pe_str (pa_cons pe_str pa_nil))) (pe_call (ok_l_take T) (hr.mono (by decide)) (by rfl) T.g_l_take T.F_l_take.kp T.b_l_take .nil pass0 (pa_cons (pv 0) (pa_cons pe_int pa_nil))) (fun _ _ => rfl))) (pss_cons (ps_set (i := 8) sc_l_things.nd rfl (Or.inl rfl) (pe_disp (pps_cons pe_str (pe_call (ok_l_number T) (hr.mono (by decide)) (by rfl) T.g_l_number T.F_l_number.kp T.b_l_number .nil pass0 (pa_cons (pv 0) pa_nil)) (pps_cons pe_str (pe_call (ok_l_a_key T) (hr.mono (by decide)) (by rfl) T.g_l_a_key T.F_l_a_key.kp T.b_l_a_key .nil pass0 (pa_cons (pv 0) pa_nil)) (pps_cons pe_str (pv 7) (pps_cons pe_str (pv 5) (pps_cons pe_str (pv 4) (pps_cons pe_str (pv 6) pps_nil)))))) (by rfl) (by rfl) (fun z => by cases z) (by decide))) (pss_one (ps_expr (pe_bm PySem.F.plainAttrs_list PySem.F.slot_list_append PySem.F.type_list_append mt_append (pv 2) (pa_cons (pe_dget (hu_of hr) (pv 8) (pv 3) (fun _ _ => rfl)) pa_nil)))))))))) (pss_one (ps_ret (pe_callTy call_tuple_of (by rfl) T.z_tuple (by decide +kernel) (pa_cons (pv 2) pa_nil)))))), ?_⟩
    refine ⟨Nat.zero_le _, fun f nf => ?_⟩
    have k0 : Kp s H (upd H f (.lst [])) := hst.kp.new nf
    have hf : (upd H f (.lst [])) f = some (.lst []) := upd_same
    have fs : f ≠ s := hst.ne_new nf
    generalize (upd H f (.lst [])) = H0 at k0 hf ⊢
    refine ⟨_, rfl, _, rfl, ?_⟩
    refine for_it walk_str (fun j σ H' => ∃ (v3 v4 v5 v6 v7 v8 v9 : Option V) (xs : List V) (ts : List Th), σ = [some (.ref s), some (.str (S (ks.map Kd.sign))), some (.ref f), v3, v4, v5, v6, v7, v8, v9] ∧ Kp s H H' ∧ H' f = some (.lst xs) ∧ ThsAt H' xs ts ∧ Fits (ks.take j) ts) ⟨_, _, _, _, _, _, _, [], [], rfl, k0, hf, .nil, by rw [List.take_zero]; exact .nil⟩ (fun _ _ _ _ _ => trivial) ?_ ?_
    · rintro j v σ H1 H1' hj ⟨v3, v4, v5, v6, v7, v8, v9, xs, ts, rfl, K1, hf1, hts, hfit⟩ ⟨rfl, c, hc, rfl⟩
      obtain ⟨k, hk, rfl⟩ := sign_get hc
      clear hc
      have j4 : j < ks.length := (List.getElem?_eq_some_iff.mp hk).1
      have k10 : Kp s H1' H1' := K1.2.kp
      refine ⟨_, rfl, s, rfl, k10.2, fun i1 Ha b1 ka => ⟨_, rfl, s, rfl, ka.2, fun i2 Hb b2 kb => ⟨len2, fun pp npp => ?_⟩⟩⟩
      have kp : Kp s H1' (upd Hb pp (.tup [.int i1, .int i2])) := (ka.trans kb).new npp
      have hpp : (upd Hb pp (.tup [.int i1, .int i2])) pp = some (.tup [.int i1, .int i2]) := upd_same
      generalize (upd Hb pp (.tup [.int i1, .int i2])) = Hc at kp hpp ⊢

      refine ⟨_, rfl, s, 4, rfl, kp.2, (by decide), (by decide), fun r Hr r0 r1 kr => ⟨1, r, rfl, rfl, _, rfl, by omega, by omega, fun D nD => ?_⟩⟩
      have kar := kp.trans kr
      refine lc_range (lo := 0) (n := (1 + r).toNat) (fun j H' => Kp s Hr H' ∧ ∃ ns : List (Int), H' D = some (.lst (ns.map V.int)) ∧ ns.length = j ∧ ∀ n ∈ ns, Bn n) ⟨kr.2.kp.new nD, [], upd_same, rfl, fun n hn => (by cases hn)⟩ ?_ ?_
      · rintro j H' hj ⟨kk, ns, hD, hn, hg⟩
        have Ds : D ≠ s := kr.2.ne_new nD
        refine ⟨rfl, _, rfl, s, rfl, kk.2, fun x H'' hx kx => ?_⟩
        have hD2 := kx.1 _ _ Ds hD
        refine ⟨_, hD2, by rw [List.length_map, hn]; exact Nat.lt_of_lt_of_le (show j < 100 by omega) (by decide), ?_, ns ++ [x], by rw [upd_same, List.map_append]; rfl, by rw [List.length_append, hn]; rfl, fun n h => ?_⟩
        · refine ⟨fun b o nb e => ?_, ?_⟩
          · rw [upd_ne (ne_of_none e nD)]
            exact (kk.trans kx).1 b o nb e
          · obtain ⟨a1, a2, a3, e, r⟩ := kx.2
            exact ⟨a1, a2, a3, by rw [upd_ne (Ne.symm Ds)]; exact e, r⟩
        · rcases List.mem_append.mp h with h | h
          · exact hg n h
          · rw [List.mem_singleton.mp h]; exact hx
      rintro HFr ⟨kk, ws, hD, hn, hg⟩
      refine ⟨D, _, rfl, .inl ⟨SqL.of hD, fun w nw => ?_⟩⟩
      have hpp := kk.tup kr.2 (kr.tup kp.2 hpp)
      have hpp : (upd HFr w (.tup (ws.map V.int))) pp = _ := (upd_ne (ne_of_none hpp nw)).trans hpp
      have kw := (kar.trans kk).new (o := .tup (ws.map V.int)) nw
      have hw : (upd HFr w (.tup (ws.map V.int))) w = some (.tup (ws.map V.int)) := upd_same
      generalize (upd HFr w (.tup (ws.map V.int))) = Gr at hpp kw hw ⊢
      have lws : ws.length = (1 + r).toNat := hn
      have gws := hg

      refine ⟨_, rfl, s, 3, rfl, kw.2, (by decide), (by decide), fun t Ht t0 t1 kt => ⟨1, t, rfl, rfl, _, rfl, by omega, by omega, fun E nE => ?_⟩⟩
      have kat := kw.trans kt
      refine lc_range (lo := 0) (n := (1 + t).toNat) (fun j H' => Kp s Ht H' ∧ ∃ ns : List (List Nat), H' E = some (.lst (ns.map (fun z => V.str (S z)))) ∧ ns.length = j ∧ ∀ n ∈ ns, n ∈ keys5) ⟨kt.2.kp.new nE, [], upd_same, rfl, fun n hn => (by cases hn)⟩ ?_ ?_
      · rintro j H' hj ⟨kk, ns, hD, hn, hg⟩
        have Ds : E ≠ s := kt.2.ne_new nE
        refine ⟨rfl, _, rfl, s, rfl, kk.2, fun x H'' hx kx => ?_⟩
        have hD2 := kx.1 _ _ Ds hD
        refine ⟨_, hD2, by rw [List.length_map, hn]; exact Nat.lt_of_lt_of_le (show j < 100 by omega) (by decide), ?_, ns ++ [x], by rw [upd_same, List.map_append]; rfl, by rw [List.length_append, hn]; rfl, fun n h => ?_⟩
        · refine ⟨fun b o nb e => ?_, ?_⟩
          · rw [upd_ne (ne_of_none e nE)]
            exact (kk.trans kx).1 b o nb e
          · obtain ⟨a1, a2, a3, e, r⟩ := kx.2
            exact ⟨a1, a2, a3, by rw [upd_ne (Ne.symm Ds)]; exact e, r⟩
        · rcases List.mem_append.mp h with h | h
          · exact hg n h
          · rw [List.mem_singleton.mp h]; exact hx
      rintro HFt ⟨kk, zs, hD, hn, hg⟩
      refine ⟨E, _, rfl, .inl ⟨SqL.of hD, fun y ny => ?_⟩⟩
      have hpp := kk.tup kt.2 (kt.tup kw.2 hpp)
      have hpp : (upd HFt y (.tup (zs.map (fun z => V.str (S z))))) pp = _ := (upd_ne (ne_of_none hpp ny)).trans hpp
      have hw := kk.tup kt.2 (kt.tup kw.2 hw)
      have hw : (upd HFt y (.tup (zs.map (fun z => V.str (S z))))) w = _ := (upd_ne (ne_of_none hw ny)).trans hw
      have ky := (kat.trans kk).new (o := .tup (zs.map (fun z => V.str (S z)))) ny
      have hy : (upd HFt y (.tup (zs.map (fun z => V.str (S z))))) y = some (.tup (zs.map (fun z => V.str (S z)))) := upd_same
      generalize (upd HFt y (.tup (zs.map (fun z => V.str (S z))))) = Gt at hpp hw ky hy ⊢
      have lzs : zs.length = (1 + t).toNat := hn
      have gzs := hg

      refine ⟨len2, fun m nm => ?_⟩
      have km : Kp s H1' (upd Gt m (.lst [.str "read", .str "write"])) := ky.new nm
      have hm : (upd Gt m (.lst [.str "read", .str "write"])) m = some (.lst [.str "read", .str "write"]) := upd_same
      have ms : m ≠ s := ky.2.ne_new nm
      have hpp : (upd Gt m (.lst [.str "read", .str "write"])) pp = _ := (upd_ne (ne_of_none hpp nm)).trans hpp
      have hw : (upd Gt m (.lst [.str "read", .str "write"])) w = _ := (upd_ne (ne_of_none hw nm)).trans hw
      have hy : (upd Gt m (.lst [.str "read", .str "write"])) y = _ := (upd_ne (ne_of_none hy nm)).trans hy
      generalize (upd Gt m (.lst [.str "read", .str "write"])) = Hm at km hm hpp hw hy ⊢
      refine ⟨_, rfl, s, 2, rfl, km.2, (by decide), (by decide), fun u Hu u0 u1 ku => ?_⟩
      obtain ⟨mz, hmz, emz⟩ := rw_e u u0 u1
      refine ⟨m, _, u, _, rfl, rfl, SqL.of (ku.1 _ _ ms hm), emz, ?_⟩
      have kmu := km.trans ku
      have hpp := ku.tup km.2 hpp
      have hw := ku.tup km.2 hw
      have hy := ku.tup km.2 hy
      intro dd ndd
      have ndH : H dd = none := K1.free hst (kmu.free K1.2 ndd)
      have hpp : (upd Hu dd (.dK [])) pp = _ := (upd_ne (ne_of_none hpp ndd)).trans hpp
      have hw : (upd Hu dd (.dK [])) w = _ := (upd_ne (ne_of_none hw ndd)).trans hw
      have hy : (upd Hu dd (.dK [])) y = _ := (upd_ne (ne_of_none hy ndd)).trans hy
      have kd : Kp s H1' (upd Hu dd (.dK [])) := kmu.new ndd
      have hdd : (upd Hu dd (.dK [])) dd = some (.dK []) := upd_same
      have ds : dd ≠ s := kmu.2.ne_new ndd
      generalize (upd Hu dd (.dK [])) = Hd at kd hdd hpp hw hy ⊢
      refine ⟨_, rfl, s, rfl, kd.2, fun nn He bn ke => ⟨_, rfl, s, rfl, ke.2, fun kz Hf bk kf => ?_⟩⟩
      have hddF := kf.1 _ _ ds (ke.1 _ _ ds hdd)
      have hpp := kf.tup ke.2 (ke.tup kd.2 hpp)
      have hw := kf.tup ke.2 (ke.tup kd.2 hw)
      have hy := kf.tup ke.2 (ke.tup kd.2 hy)
      have kF := (kd.trans ke).trans kf
      have hfF := kF.1 _ _ fs hf1
      have hts := ThsAt.up (Kp.ths kF K1.2) hts
      have KF := K1.trans kF
      have fd : f ≠ dd := ne_of hfF hddF (by intro q; cases q)
      refine ⟨_, rfl, _, rfl, _, rfl, _, rfl, hddF, MENU _ _ _ _ _ _, rfl, (by show 6 ≤ 15; decide), ?_⟩
      rw [menu_same]
      generalize hME : MENU (.int nn) (.str (S kz)) (.str (S mz)) (.ref w) (.ref pp) (.ref y) = ME
      have hme : valV ME (Sum.inr (S [k.sign])) = some (k.pick (.int nn) (.str (S kz)) (.str (S mz)) (.ref w) (.ref pp) (.ref y)) := by rw [← hME]; exact menu_get _ _ _ _ _ _ k
      have h8 : (upd Hf dd (.dK ME)) dd = some (.dK ME) := upd_same
      have tk8 : ∀ p xs, Hf p = some (.tup xs) → (upd Hf dd (.dK ME)) p = some (.tup xs) := fun p xs e => by
        rw [upd_ne (ne_of e hddF (by intro q; cases q))]
        exact e
      have hf8 : (upd Hf dd (.dK ME)) f = some (.lst xs) := by rw [upd_ne fd]; exact hfF
      have K8 : Kp s H (upd Hf dd (.dK ME)) := KF.put ndH ds
      have hpp8 := tk8 _ _ hpp
      have hw8 := tk8 _ _ hw
      have hy8 := tk8 _ _ hy
      have hts8 := ThsAt.up tk8 hts
      clear hpp hw hy hts
      generalize (upd Hf dd (.dK ME)) = H8 at h8 hf8 K8 hpp8 hw8 hy8 hts8 ⊢
      obtain ⟨tt, hat, hft⟩ : ∃ tt, ThAt H8 (k.pick (.int nn) (.str (S kz)) (.str (S mz)) (.ref w) (.ref pp) (.ref y)) tt ∧ Fit k tt := by
        cases k with
        | n => exact ⟨.num nn, rfl, bn⟩
        | k => exact ⟨.txt kz, rfl, bk⟩
        | m => exact ⟨.txt mz, rfl, hmz⟩
        | w => exact ⟨.row ws, ⟨w, rfl, hw8⟩, by rw [lws]; omega, by rw [lws]; omega, gws⟩
        | p => exact ⟨.row [i1, i2], ⟨pp, rfl, hpp8⟩, rfl, fun x hx => by
            rcases List.mem_cons.mp hx with rfl | hx
            · exact b1
            · rw [List.mem_singleton.mp hx]; exact b2⟩
        | s => exact ⟨.keys zs, ⟨y, rfl, hy8⟩, by rw [lzs]; omega, by rw [lzs]; omega, gzs⟩
      have tk9 : ∀ p ys, H8 p = some (.tup ys) → (upd H8 f (.lst (xs ++ [k.pick (.int nn) (.str (S kz)) (.str (S mz)) (.ref w) (.ref pp) (.ref y)]))) p = some (.tup ys) := fun p ys e => by
        rw [upd_ne (ne_of e hf8 (by intro q; cases q))]
        exact e
      refine ⟨_, rfl, .inl ⟨rfl, _, SqL.of hf8⟩, _, rfl, _, rfl, dd, _, rfl, .inl ⟨ME, Sum.inr (S [k.sign]), .inl h8, rfl, hme.symm⟩, f, xs, _, rfl, rfl, hf8, ?_, ?_⟩
      · rw [hts8.len, ← hfit.len, List.length_take]
        exact Nat.lt_of_le_of_lt (show _ ≤ 4 by omega) (by decide)
      · refine ⟨_, _, _, _, _, _, _, xs ++ [_], ts ++ [tt], rfl, K8.put nf fs, upd_same, ThsAt.up tk9 (ThsAt.snoc hat hts8), ?_⟩
        rw [List.take_add_one, hk]
        exact Fits.snoc hft hfit
    · rintro σ H1 ⟨v3, v4, v5, v6, v7, v8, v9, xs, ts, rfl, K1, hf1, hts, hfit⟩
      rw [sign_size, List.take_length] at hfit
      refine ⟨_, rfl, f, _, rfl, .inl ⟨SqL.of hf1, fun t nt => ?_⟩⟩
      exact q t xs ts _ (K1.new nt) upd_same (ThsAt.up (fun p ys e => by rw [upd_ne (ne_of_none e nt)]; exact e) hts) hfit

open SX
def A0 : List (Key × V) := [(Sum.inr ("tick" : Str), V.str "n"), (Sum.inr ("set" : Str), V.str "nnnn"), (Sum.inr ("pace" : Str), V.str "nnp"), (Sum.inr ("stop" : Str), V.str "nn"), (Sum.inr ("back" : Str), V.str "nn")]
def A1 : List (Key × V) := [(Sum.inr ("choose" : Str), V.str "nn"), (Sum.inr ("renew" : Str), V.str "n")]
def A2 : List (Key × V) := [(Sum.inr ("catch" : Str), V.str "nn"), (Sum.inr ("mark" : Str), V.str "n"), (Sum.inr ("gone" : Str), V.str "nn"), (Sum.inr ("begin" : Str), V.str ""), (Sum.inr ("again" : Str), V.str "n")]
def A3 : List (Key × V) := [(Sum.inr ("take" : Str), V.str "nkm"), (Sum.inr ("read" : Str), V.str "nk")]
def A4 : List (Key × V) := [(Sum.inr ("write" : Str), V.str "nkw"), (Sum.inr ("finish" : Str), V.str "n"), (Sum.inr ("tell" : Str), V.str "n"), (Sum.inr ("stay" : Str), V.str "n"), (Sum.inr ("deliver" : Str), V.str "n"), (Sum.inr ("lose" : Str), V.str "n")]
def A5 : List (Key × V) := [(Sum.inr ("question" : Str), V.str "n"), (Sum.inr ("at" : Str), V.str "ns"), (Sum.inr ("copy" : Str), V.str "nns"), (Sum.inr ("now" : Str), V.str "ns"), (Sum.inr ("move" : Str), V.str "kn"), (Sum.inr ("form" : Str), V.str "nn"), (Sum.inr ("settle" : Str), V.str "")]
def KKV : List (Key × V) := DEEDS.map fun q => (Sum.inr q.1, V.str (S (q.2.map Kd.sign)))
theorem kinds_e : mergeK (mergeK (mergeK (mergeK (mergeK (mergeK [] A0) (mergeK [] A1)) (mergeK [] A2)) (mergeK [] A3)) (mergeK [] A4)) (mergeK [] A5) = KKV := by rfl
def spKinds : Sp := fun vs H Q _ => vs = [] ∧ ∀ (p : Addr) (H' : Hp), H p = none → Same H H' → H' p = some (.dK KKV) → Q (.ref p) H'
theorem upd_twice {H : Hp} {p : Addr} {o o2 : HO} : upd (upd H p o) p o2 = upd H p o2 := by
  funext b
  by_cases z : b = p
  · rw [z, upd_same, upd_same]
  · rw [upd_ne z, upd_ne z, upd_ne z]
theorem kkv_get : ∀ q ∈ DEEDS, valV KKV (Sum.inr q.1) = some (V.str (S (q.2.map Kd.sign))) := by
  intro q hq
  have key : ∀ {l : List (Str × List Kd)}, (∀ r ∈ l, r ∈ DEEDS) → q ∈ l → valV (l.map fun q => ((Sum.inr q.1 : Key), V.str (S (q.2.map Kd.sign)))) (Sum.inr q.1) = some (V.str (S (q.2.map Kd.sign))) := by
    intro l
    induction l with
    | nil => intro _ h; cases h
    | cons x r ih =>
      intro hs h
      unfold valV
      rw [List.map_cons, List.find?_cons]
      by_cases z : x.1 = q.1
      · have e := deed_one x (hs x (.head _)) q hq z
        rw [e]
        simp
      · have h2 : q ∈ r := by
          rcases List.mem_cons.mp h with e | h
          · exact absurd (by rw [e]) z
          · exact h
        have n : decide ((Sum.inr x.1 : Key) = Sum.inr q.1) = false := decide_eq_false fun e => z (Sum.inr.inj e)
        have i := ih (fun r hr => hs r (.tail _ hr)) h2
        unfold valV at i
        simp only [n]
        exact i
  exact key (fun _ h => h) hq
theorem kkv_keys : KKV.map (·.1) = (DEEDS.map (·.1)).map Sum.inr := by
  unfold KKV
  rw [List.map_map, List.map_map]
  rfl
/-- the text of a deed, as the law writes it -/
def spText : Sp := fun vs H Q _ => ∃ (p : Addr) (d : Deed), vs = [.ref p] ∧ DeedAt H p d ∧ ∀ H', Same H H' → Q (.str (S d.tx)) H'
def spDrawn : Sp := fun vs H Q _ => ∃ s : Addr, vs = [.ref s] ∧ StAt H s ∧ ∀ (p : Addr) (d : Deed) (H' : Hp), Kp s H H' → DeedAt H' p d → Q (.ref p) H'
def spRight : Sp := fun vs H Q _ => ∃ (p : Addr) (d : Deed), vs = [.ref p] ∧ DeedAt H p d ∧ ∀ H', Same H H' → Q (.bl true) H'
theorem signs_map (ks : List Kd) : ZG.signs (S (ks.map Kd.sign)) = ks.map fun k : Kd => V.str (S [k.sign]) := by
  unfold ZG.signs
  rw [List.map_map]
  rfl
def WdAt (H : Hp) (w : Addr) (d : Deed) (j : Nat) : Prop := H w = some (.lst (V.str d.w :: ((List.zipWith Th.tx d.ks d.ts).take j).map fun z => V.str (S z)))
theorem join_two (i j : Int) : S (intL i ++ (S [47]).cps.toList ++ intL j) = S (TL.joinL [47] [intL i, intL j]) := by
  show S (intL i ++ [47] ++ intL j) = S (intL i ++ ([47] ++ intL j))
  rw [List.append_assoc]
theorem sum_le {m : Nat} : ∀ l : List (List Nat), (∀ z ∈ l, z.length ≤ m) → (l.map (·.length)).sum ≤ m * l.length
  | [], _ => Nat.zero_le _
  | x :: r, h => by
    have h1 := h x (.head _)
    have h2 := sum_le r fun y hy => h y (.tail _ hy)
    rw [List.map_cons, List.sum_cons, List.length_cons, Nat.mul_succ]
    omega
theorem sorted_mem {ys : List Str} {q : Str} (h : ys.Perm (DEEDS.map (·.1))) (hq : q ∈ ys) : ∃ ks, (q, ks) ∈ DEEDS := by
  obtain ⟨x, hx, e⟩ := List.mem_map.mp (h.mem_iff.mp hq)
  exact ⟨x.2, by rw [← e]; exact hx⟩
theorem map_vs (l : List (List Nat)) : (l.map S).map V.str = l.map fun z => V.str (S z) := by
  rw [List.map_map]
  rfl
structure Shw (d : PyData) : Prop where
  sh : d.showable = true
  dp : d.depth ≤ 64
  sz : d.shown.length ≤ sizeLine

open SX
theorem ok_l_kinds {P : Program} {w : World} {K : PySem.W.Frag} {mg : Str → Option Value} {base : Heap} {a : Nat → Addr} {d : Nat → FuncData} (T : Txt w K mg a d) : FnOk P w K mg base CX0 1 (a 17) (d 17) [] spKinds := by
  refine T.F_l_kinds.ok sc_l_kinds (fun vs H Q E h => ?_) (fun cdv A outer s0 H vs Q E hr h => ?_)
  · obtain ⟨rfl, q⟩ := h
    rfl
  · obtain ⟨rfl, q⟩ := h
    refine ⟨_, (pss_cons (ps_set (i := 0) sc_l_kinds.nd rfl (Or.inl rfl) (pe_disp (pps_cons pe_str pe_str (pps_cons pe_str pe_str (pps_cons pe_str pe_str (pps_cons pe_str pe_str (pps_cons pe_str pe_str pps_nil))))) (by rfl) (by rfl) (fun z => by cases z) (by decide))) (pss_cons (ps_expr (pe_bm PySem.F.plainAttrs_dict PySem.F.slot_dict_update PySem.F.type_dict_update mt_updK (pv 0) (pa_cons (pe_disp (pps_cons pe_str pe_str (pps_cons pe_str pe_str pps_nil)) (by rfl) (by rfl) (fun z => by cases z) (by decide)) pa_nil))) (pss_cons (ps_expr (pe_bm PySem.F.plainAttrs_dict PySem.F.slot_dict_update PySem.F.type_dict_update mt_updK (pv 0) (pa_cons (pe_disp (pps_cons pe_str pe_str (pps_cons pe_str pe_str (pps_cons pe_str pe_str (pps_cons pe_str pe_str (pps_cons pe_str pe_str pps_nil))))) (by rfl) (by rfl) (fun z => by cases z) (by decide)) pa_nil))) (pss_cons (ps_expr (pe_bm PySem.F.plainAttrs_dict PySem.F.slot_dict_update PySem.F.type_dict_update mt_updK (pv 0) (pa_cons (pe_disp (pps_cons pe_str pe_str (pps_cons pe_str pe_str pps_nil)) (by rfl) (by rfl) (fun z => by cases z) (by decide)) pa_nil))) (pss_cons (ps_expr (pe_bm PySem.F.plainAttrs_dict PySem.F.slot_dict_update PySem.F.type_dict_update mt_updK (pv 0) (pa_cons (pe_disp (pps_cons pe_str pe_str (pps_cons pe_str pe_str (pps_cons pe_str pe_str (pps_cons pe_str pe_str (pps_cons pe_str pe_str (pps_cons pe_str pe_str pps_nil)))))) (by rfl) (by rfl) (fun z => by cases z) (by decide)) pa_nil))) (pss_cons (ps_expr (pe_bm PySem.F.plainAttrs_dict PySem.F.slot_dict_update PySem.F.type_dict_update mt_updK (pv 0) (pa_cons (pe_disp (pps_cons pe_str pe_str (pps_cons pe_str pe_str (pps_cons pe_str pe_str (pps_cons pe_str pe_str (pps_cons pe_str pe_str (pps_cons pe_str pe_str (pps_cons pe_str pe_str pps_nil))))))) (by rfl) (by rfl) (fun z => by cases z) (by decide)) pa_nil))) (pss_one (ps_ret (pv 0))))))))), ?_⟩
    intro d0 n0
    refine ⟨upd_same, A0, rfl, (by decide), ?_⟩
    rw [upd_twice]
    have s0 : Same H (upd H d0 (.dK (mergeK [] A0))) := same_new (Same.refl H) n0
    have h0 : (upd H d0 (.dK (mergeK [] A0))) d0 = some (.dK (mergeK [] A0)) := upd_same
    generalize (upd H d0 (.dK (mergeK [] A0))) = G0 at s0 h0 ⊢

    refine ⟨_, rfl, .inr (.inr (.inl ⟨rfl, .inl ⟨_, h0⟩⟩)), fun d1 n1 => ⟨upd_same, A1, rfl, (by decide), ?_⟩⟩
    rw [upd_twice]
    have ne1 : d0 ≠ d1 := ne_of_none h0 n1
    have h0' : (upd G0 d1 (.dK (mergeK [] A1))) d0 = some (.dK (mergeK [] A0)) := by rw [upd_ne ne1]; exact h0
    have f1 : (upd G0 d1 (.dK (mergeK [] A1))) d1 = some (.dK (mergeK [] A1)) := upd_same
    have t1 : Same G0 (upd G0 d1 (.dK (mergeK [] A1))) := same_new (Same.refl G0) n1
    generalize (upd G0 d1 (.dK (mergeK [] A1))) = F1 at h0' f1 t1 ⊢
    refine ⟨d0, d1, _, _, rfl, rfl, ne1, h0', f1, (by decide), ?_⟩
    have s1 : Same H (upd F1 d0 (.dK (mergeK (mergeK [] A0) (mergeK [] A1)))) := fun b o z => by
      rw [upd_ne (ne_of_none z n0)]
      exact t1 _ _ (s0 b o z)
    have h1 : (upd F1 d0 (.dK (mergeK (mergeK [] A0) (mergeK [] A1)))) d0 = some (.dK (mergeK (mergeK [] A0) (mergeK [] A1))) := upd_same
    generalize (upd F1 d0 (.dK (mergeK (mergeK [] A0) (mergeK [] A1)))) = G1 at s1 h1 ⊢

    refine ⟨_, rfl, .inr (.inr (.inl ⟨rfl, .inl ⟨_, h1⟩⟩)), fun d2 n2 => ⟨upd_same, A2, rfl, (by decide), ?_⟩⟩
    rw [upd_twice]
    have ne2 : d0 ≠ d2 := ne_of_none h1 n2
    have h1' : (upd G1 d2 (.dK (mergeK [] A2))) d0 = some (.dK (mergeK (mergeK [] A0) (mergeK [] A1))) := by rw [upd_ne ne2]; exact h1
    have f2 : (upd G1 d2 (.dK (mergeK [] A2))) d2 = some (.dK (mergeK [] A2)) := upd_same
    have t2 : Same G1 (upd G1 d2 (.dK (mergeK [] A2))) := same_new (Same.refl G1) n2
    generalize (upd G1 d2 (.dK (mergeK [] A2))) = F2 at h1' f2 t2 ⊢
    refine ⟨d0, d2, _, _, rfl, rfl, ne2, h1', f2, (by decide), ?_⟩
    have s2 : Same H (upd F2 d0 (.dK (mergeK (mergeK (mergeK [] A0) (mergeK [] A1)) (mergeK [] A2)))) := fun b o z => by
      rw [upd_ne (ne_of_none z n0)]
      exact t2 _ _ (s1 b o z)
    have h2 : (upd F2 d0 (.dK (mergeK (mergeK (mergeK [] A0) (mergeK [] A1)) (mergeK [] A2)))) d0 = some (.dK (mergeK (mergeK (mergeK [] A0) (mergeK [] A1)) (mergeK [] A2))) := upd_same
    generalize (upd F2 d0 (.dK (mergeK (mergeK (mergeK [] A0) (mergeK [] A1)) (mergeK [] A2)))) = G2 at s2 h2 ⊢

    refine ⟨_, rfl, .inr (.inr (.inl ⟨rfl, .inl ⟨_, h2⟩⟩)), fun d3 n3 => ⟨upd_same, A3, rfl, (by decide), ?_⟩⟩
    rw [upd_twice]
    have ne3 : d0 ≠ d3 := ne_of_none h2 n3
    have h2' : (upd G2 d3 (.dK (mergeK [] A3))) d0 = some (.dK (mergeK (mergeK (mergeK [] A0) (mergeK [] A1)) (mergeK [] A2))) := by rw [upd_ne ne3]; exact h2
    have f3 : (upd G2 d3 (.dK (mergeK [] A3))) d3 = some (.dK (mergeK [] A3)) := upd_same
    have t3 : Same G2 (upd G2 d3 (.dK (mergeK [] A3))) := same_new (Same.refl G2) n3
    generalize (upd G2 d3 (.dK (mergeK [] A3))) = F3 at h2' f3 t3 ⊢
    refine ⟨d0, d3, _, _, rfl, rfl, ne3, h2', f3, (by decide), ?_⟩
    have s3 : Same H (upd F3 d0 (.dK (mergeK (mergeK (mergeK (mergeK [] A0) (mergeK [] A1)) (mergeK [] A2)) (mergeK [] A3)))) := fun b o z => by
      rw [upd_ne (ne_of_none z n0)]
      exact t3 _ _ (s2 b o z)
    have h3 : (upd F3 d0 (.dK (mergeK (mergeK (mergeK (mergeK [] A0) (mergeK [] A1)) (mergeK [] A2)) (mergeK [] A3)))) d0 = some (.dK (mergeK (mergeK (mergeK (mergeK [] A0) (mergeK [] A1)) (mergeK [] A2)) (mergeK [] A3))) := upd_same
    generalize (upd F3 d0 (.dK (mergeK (mergeK (mergeK (mergeK [] A0) (mergeK [] A1)) (mergeK [] A2)) (mergeK [] A3)))) = G3 at s3 h3 ⊢

    refine ⟨_, rfl, .inr (.inr (.inl ⟨rfl, .inl ⟨_, h3⟩⟩)), fun d4 n4 => ⟨upd_same, A4, rfl, (by decide), ?_⟩⟩
    rw [upd_twice]
    have ne4 : d0 ≠ d4 := ne_of_none h3 n4
    have h3' : (upd G3 d4 (.dK (mergeK [] A4))) d0 = some (.dK (mergeK (mergeK (mergeK (mergeK [] A0) (mergeK [] A1)) (mergeK [] A2)) (mergeK [] A3))) := by rw [upd_ne ne4]; exact h3
    have f4 : (upd G3 d4 (.dK (mergeK [] A4))) d4 = some (.dK (mergeK [] A4)) := upd_same
    have t4 : Same G3 (upd G3 d4 (.dK (mergeK [] A4))) := same_new (Same.refl G3) n4
    generalize (upd G3 d4 (.dK (mergeK [] A4))) = F4 at h3' f4 t4 ⊢
    refine ⟨d0, d4, _, _, rfl, rfl, ne4, h3', f4, (by decide), ?_⟩
    have s4 : Same H (upd F4 d0 (.dK (mergeK (mergeK (mergeK (mergeK (mergeK [] A0) (mergeK [] A1)) (mergeK [] A2)) (mergeK [] A3)) (mergeK [] A4)))) := fun b o z => by
      rw [upd_ne (ne_of_none z n0)]
      exact t4 _ _ (s3 b o z)
    have h4 : (upd F4 d0 (.dK (mergeK (mergeK (mergeK (mergeK (mergeK [] A0) (mergeK [] A1)) (mergeK [] A2)) (mergeK [] A3)) (mergeK [] A4)))) d0 = some (.dK (mergeK (mergeK (mergeK (mergeK (mergeK [] A0) (mergeK [] A1)) (mergeK [] A2)) (mergeK [] A3)) (mergeK [] A4))) := upd_same
    generalize (upd F4 d0 (.dK (mergeK (mergeK (mergeK (mergeK (mergeK [] A0) (mergeK [] A1)) (mergeK [] A2)) (mergeK [] A3)) (mergeK [] A4)))) = G4 at s4 h4 ⊢

    refine ⟨_, rfl, .inr (.inr (.inl ⟨rfl, .inl ⟨_, h4⟩⟩)), fun d5 n5 => ⟨upd_same, A5, rfl, (by decide), ?_⟩⟩
    rw [upd_twice]
    have ne5 : d0 ≠ d5 := ne_of_none h4 n5
    have h4' : (upd G4 d5 (.dK (mergeK [] A5))) d0 = some (.dK (mergeK (mergeK (mergeK (mergeK (mergeK [] A0) (mergeK [] A1)) (mergeK [] A2)) (mergeK [] A3)) (mergeK [] A4))) := by rw [upd_ne ne5]; exact h4
    have f5 : (upd G4 d5 (.dK (mergeK [] A5))) d5 = some (.dK (mergeK [] A5)) := upd_same
    have t5 : Same G4 (upd G4 d5 (.dK (mergeK [] A5))) := same_new (Same.refl G4) n5
    generalize (upd G4 d5 (.dK (mergeK [] A5))) = F5 at h4' f5 t5 ⊢
    refine ⟨d0, d5, _, _, rfl, rfl, ne5, h4', f5, (by decide), ?_⟩
    have s5 : Same H (upd F5 d0 (.dK (mergeK (mergeK (mergeK (mergeK (mergeK (mergeK [] A0) (mergeK [] A1)) (mergeK [] A2)) (mergeK [] A3)) (mergeK [] A4)) (mergeK [] A5)))) := fun b o z => by
      rw [upd_ne (ne_of_none z n0)]
      exact t5 _ _ (s4 b o z)
    have h5 : (upd F5 d0 (.dK (mergeK (mergeK (mergeK (mergeK (mergeK (mergeK [] A0) (mergeK [] A1)) (mergeK [] A2)) (mergeK [] A3)) (mergeK [] A4)) (mergeK [] A5)))) d0 = some (.dK (mergeK (mergeK (mergeK (mergeK (mergeK (mergeK [] A0) (mergeK [] A1)) (mergeK [] A2)) (mergeK [] A3)) (mergeK [] A4)) (mergeK [] A5))) := upd_same
    generalize (upd F5 d0 (.dK (mergeK (mergeK (mergeK (mergeK (mergeK (mergeK [] A0) (mergeK [] A1)) (mergeK [] A2)) (mergeK [] A3)) (mergeK [] A4)) (mergeK [] A5)))) = G5 at s5 h5 ⊢

    rw [kinds_e] at h5
    exact ⟨_, rfl, q d0 G5 n0 s5 h5⟩

open SX
theorem ok_l_text {P : Program} {w : World} {K : PySem.W.Frag} {mg : Str → Option Value} {base : Heap} {a : Nat → Addr} {d : Nat → FuncData} (T : Txt w K mg a d) : FnOk P w K mg base CX0 2 (a 18) (d 18) ["_law_deed"] spText := by
  refine T.F_l_text.ok sc_l_text (fun vs H Q E h => ?_) (fun cdv A outer s0 H vs Q E hr h => ?_)
  · obtain ⟨p, d, rfl, hd, q⟩ := h
    rfl
  · obtain ⟨p, d, rfl, hd, q⟩ := h
    refine ⟨_, (pss_cons (ps_set (i := 1) sc_l_text.nd rfl (Or.inl rfl) (pe_dget (hu_of hr) (pe_call0 (ok_l_kinds T) (hr.mono (by decide)) (by rfl) T.g_l_kinds T.F_l_kinds.kp T.b_l_kinds .nil pass0) (pe_ix ix_tup (pv 0) pe_int (fun _ _ => rfl)) (fun _ _ => rfl))) (pss_cons (ps_set (i := 2) sc_l_text.nd rfl (Or.inl rfl) (pe_lst (pa_cons (pe_ix ix_tup (pv 0) pe_int (fun _ _ => rfl)) pa_nil))) (pss_cons (ps_for PassesOwn.never rfl (ZG.pi_zipG (by rfl) T.z_zip (pa_cons (pv 1) (pa_cons (pe_slice sl_tup (pv 0) (po_some pe_int) po_none) pa_nil))) (pg_tup (by rfl) (pgs_cons (pg_name (i := 3) sc_l_text.nd rfl (.inl rfl)) (pgs_cons (pg_name (i := 4) sc_l_text.nd rfl (.inl rfl)) pgs_nil))) (pss_one (ps_if (pt_cmpR op_eq (pv 3) pe_str (nomark _)) (pss_one (ps_expr (pe_bm PySem.F.plainAttrs_list PySem.F.slot_list_append PySem.F.type_list_append mt_append (pv 2) (pa_cons (pe_op op_add_str (pe_op op_add_str (pe_callTy (KG.call_or call_str_int SkE.call_str_str) (by rfl) T.z_str (by decide +kernel) (pa_cons (pe_ix ix_tup (pv 4) pe_int (fun _ _ => rfl)) pa_nil)) pe_str) (pe_callTy (KG.call_or call_str_int SkE.call_str_str) (by rfl) T.z_str (by decide +kernel) (pa_cons (pe_ix ix_tup (pv 4) pe_int (fun _ _ => rfl)) pa_nil))) pa_nil)))) (pss_one (ps_if (pt_cmpR op_in_sign (pv 3) pe_str (by rfl)) (pss_one (ps_expr (pe_bm PySem.F.plainAttrs_list PySem.F.slot_list_append PySem.F.type_list_append mt_append (pv 2) (pa_cons (pe_join pe_str (pe_lc (own := [("_law_one", 5)]) (g := gName 5) (by rfl) sc_l_text.nd (pi_tup (pv 4)) (blkOk_by (own := [("_law_one", 5)]) (N := ["_law_deed", "_law_kinds_here", "_law_words", "_law_kind", "_law_thing", "_law_one"]) (sc := defScope s_l_text) (by decide +kernel)) (fun _ _ _ _ _ => (pg_name (i := 5) sc_l_text.nd rfl (.inl rfl))) (fun _ _ _ _ _ => pts_nil) (fun _ _ _ _ _ => (pe_callTy (KG.call_or call_str_int SkE.call_str_str) (by rfl) T.z_str (by decide +kernel) (pa_cons (pv 5) pa_nil))))) pa_nil)))) (pss_one (ps_expr (pe_bm PySem.F.plainAttrs_list PySem.F.slot_list_append PySem.F.type_list_append mt_append (pv 2) (pa_cons (pe_callTy (KG.call_or call_str_int SkE.call_str_str) (by rfl) T.z_str (by decide +kernel) (pa_cons (pv 4) pa_nil)) pa_nil))))))))) (pss_one (ps_ret (pe_join pe_str (pv 2))))))), ?_⟩
    obtain ⟨f1, f2, f3, f4, _⟩ := deed_facts _ d.mem
    have f1 : d.ks.length ≤ 4 := f1
    have f3 : (TL.tl d.w).length ≤ 8 := f3
    obtain ⟨vs', hp, hts⟩ := hd
    have h3 := rel3_of d.fit hts
    obtain ⟨l1, l2⟩ := h3.len
    have lz : (List.zipWith Th.tx d.ks d.ts).length = d.ks.length := by rw [List.length_zipWith]; omega
    refine ⟨rfl, fun pk H1 nk s1 hk => ⟨_, rfl, p, _, 0, _, rfl, rfl, SqT.of (s1 _ _ hp), atI_nat (j := 0) rfl, pk, _, rfl, .inl ⟨KKV, Sum.inr d.w, .inl hk, rfl, (kkv_get _ d.mem).symm⟩, ?_⟩⟩
    refine ⟨_, rfl, p, _, 0, _, rfl, rfl, SqT.of (s1 _ _ hp), atI_nat (j := 0) rfl, len1, fun l nl => ?_⟩
    have s2 : Same H1 (upd H1 l (.lst [.str d.w])) := same_new (Same.refl H1) nl
    have hl : WdAt (upd H1 l (.lst [.str d.w])) l d 0 := by
      show (upd H1 l (.lst [.str d.w])) l = _
      rw [upd_same, List.take_zero]
      rfl
    have fl : H l = none := s1.free nl
    generalize (upd H1 l (.lst [.str d.w])) = H2 at s2 hl ⊢
    have s12 := s1.trans s2
    refine ⟨_, rfl, _, rfl, 1, rfl, p, _, rfl, SqT.of (s12 _ _ hp), cut_notall _ _, fun c nc => ?_⟩
    rw [cut_tail]
    have s3 : Same H2 (upd H2 c (.tup vs')) := same_new (Same.refl H2) nc
    have hc : (upd H2 c (.tup vs')) c = some (.tup vs') := upd_same
    have hl : WdAt (upd H2 c (.tup vs')) l d 0 := s3 _ _ hl
    have lc : l ≠ c := ne_of_none (show H2 l = some _ from by assumption) nc
    generalize (upd H2 c (.tup vs')) = H3 at s3 hc hl ⊢
    have s13 := s12.trans s3
    refine ⟨.str (S (d.ks.map Kd.sign)), .tup c, _, vs', rfl, rfl, SqT.of hc, ?_⟩
    refine for_it (ZG.walkG (S := .str (S (d.ks.map Kd.sign))) (R := .tup c) (xs := d.ks.map fun k : Kd => V.str (S [k.sign])) (ys := vs') (by rw [List.length_map]; exact l1.symm)) (fun j σ H' => ∃ v3 v4 v5 : Option V, σ = [some (.ref p), some (.str (S (d.ks.map Kd.sign))), some (.ref l), v3, v4, v5] ∧ Same H H' ∧ H' c = some (.tup vs') ∧ WdAt H' l d j) ⟨_, _, _, rfl, s13, hc, hl⟩ (fun j σ H' _ z => ?_) ?_ ?_
    · obtain ⟨_, _, _, _, _, hc', _⟩ := z
      exact ⟨(signs_map _).symm, SqT.of hc'⟩
    · rintro j v σ HA HB hj ⟨v3, v4, v5, rfl, sA, hcA, hlA⟩ ⟨T0, x, y, rfl, nT, rfl, ex, ey⟩
      have ey2 : vs'[j]? = some y := ey
      obtain ⟨k, t, e1, e2, hf, ha⟩ := h3.get ey2
      have ex2 : (d.ks.map fun k : Kd => V.str (S [k.sign]))[j]? = some x := ex
      rw [List.getElem?_map, e1] at ex2
      cases ex2
      have j4 : j < d.ks.length := (List.getElem?_eq_some_iff.mp e1).1
      have sT : Same HA (upd HA T0 (.tup [V.str (S [k.sign]), y])) := same_new (Same.refl HA) nT
      have hT : (upd HA T0 (.tup [V.str (S [k.sign]), y])) T0 = some (.tup [V.str (S [k.sign]), y]) := upd_same
      generalize (upd HA T0 (.tup [V.str (S [k.sign]), y])) = HB at sT hT ⊢
      have sB := sA.trans sT
      have hlB : WdAt HB l d j := sT _ _ hlA
      have hcB := sT _ _ hcA
      have haB : ThAt HB y t := ha.up fun p xs e => sB _ _ e
      -- the word is put behind
      have hlx : ∀ {G : Hp}, WdAt G l d j → G l = some (.lst (V.str d.w :: ((List.zipWith Th.tx d.ks d.ts).take j).map fun z => V.str (S z))) := fun h => h
      have fin : ∀ HC : Hp, Same HB HC → HC l = some (.lst (V.str d.w :: ((List.zipWith Th.tx d.ks d.ts).take j).map fun z => V.str (S z))) ∧ (V.str d.w :: ((List.zipWith Th.tx d.ks d.ts).take j).map fun z => V.str (S z)).length < sizeLine ∧
          Same H (upd HC l (.lst ((V.str d.w :: ((List.zipWith Th.tx d.ks d.ts).take j).map fun z => V.str (S z)) ++ [V.str (S (t.tx k))]))) ∧ (upd HC l (.lst ((V.str d.w :: ((List.zipWith Th.tx d.ks d.ts).take j).map fun z => V.str (S z)) ++ [V.str (S (t.tx k))]))) c = some (.tup vs') ∧ WdAt (upd HC l (.lst ((V.str d.w :: ((List.zipWith Th.tx d.ks d.ts).take j).map fun z => V.str (S z)) ++ [V.str (S (t.tx k))]))) l d (j + 1) := fun HC sC => by
        refine ⟨sC _ _ hlB, ?_, fun b o z => ?_, ?_, ?_⟩
        · rw [List.length_cons, List.length_map, List.length_take, lz]
          exact Nat.lt_of_le_of_lt (show _ ≤ 5 by omega) (by decide)
        · rw [upd_ne (ne_of_none z fl)]
          exact sC _ _ (sB _ _ z)
        · rw [upd_ne (Ne.symm lc)]
          exact sC _ _ hcB
        · show (upd HC l _) l = _
          rw [upd_same, List.take_add_one, zip_get e1 e2, List.map_append]
          rfl
      refine ⟨T0, _, rfl, SqT.of hT, rfl, _, _, rfl, _, _, rfl, rfl, ?_⟩
      refine ⟨_, rfl, rfl, _, rfl, ?_⟩
      cases k with
      | p =>
        cases t with
        | row xs =>
          obtain ⟨q0, rfl, hq0⟩ := haB
          obtain ⟨lx, hb⟩ := hf
          match xs, lx, hb, hq0, fin with
          | [x1, x2], _, hb, hq0, fin =>
          have b1 := hb x1 (.head _)
          have b2 := hb x2 (.tail _ (.head _))
          refine iteDT rfl ⟨_, rfl, .inl ⟨rfl, _, SqL.of hlB⟩, _, rfl, q0, _, 0, _, rfl, rfl, SqT.of hq0, rfl, .inl ⟨x1, rfl, log_small b1, ?_⟩⟩
          rw [int_txt, slash_e]
          refine ⟨_, _, rfl, rfl, (by rw [S_len, S_len]; exact Nat.le_trans (Nat.add_le_add b1.len (Nat.le_refl 1)) (by decide)), ?_⟩
          rw [S_cat]
          refine ⟨_, rfl, q0, _, 1, _, rfl, rfl, SqT.of hq0, rfl, .inl ⟨x2, rfl, log_small b2, ?_⟩⟩
          rw [int_txt]
          refine ⟨_, _, rfl, rfl, (by rw [S_len, S_len, List.length_append]; exact Nat.le_trans (Nat.add_le_add (Nat.add_le_add b1.len (Nat.le_refl 1)) b2.len) (by decide)), ?_⟩
          rw [S_cat, List.append_assoc]
          obtain ⟨g1, g2, g3, g4, g5⟩ := fin HB (Same.refl HB)
          exact ⟨l, _, _, rfl, rfl, g1, g2, _, _, _, rfl, g3, g4, g5⟩
        | _ => cases hf
      | w =>
        cases t with
        | row xs =>
          obtain ⟨q0, rfl, hq0⟩ := haB
          obtain ⟨l1', l2', hb⟩ := hf
          refine iteDF (by decide +kernel) ⟨_, rfl, _, _, rfl, rfl, _, rfl, iteDT (by decide +kernel) ?_⟩
          refine ⟨_, rfl, .inl ⟨rfl, _, SqL.of hlB⟩, ⟨_, rfl⟩, _, rfl, q0, rfl, ⟨_, SqT.of hq0⟩, fun D nD => ?_⟩
          have hsh : ShA (xs.map V.int) (xs.map intL) := sha_ints hb
          have hzl : ∀ z ∈ (xs.map intL), z.length ≤ 1000 := ints_len hb
          have hzn : (xs.map intL).length ≤ 4 := by rw [List.length_map]; exact l2'
          refine lc_it (J := Itt K q0) (n := (xs.map V.int).length) (G := fun H => SqT K H q0 (xs.map V.int)) (Y := YAt (xs.map V.int)) walk_tup (fun j' H' => Same HB H' ∧ H' D = some (.lst (((xs.map intL).take j').map fun z => V.str (S z)))) ⟨same_new (Same.refl HB) nD, upd_same⟩ (fun j' H' _ z => SqT.of (z.1 _ _ hq0)) ?_ ?_
          · rintro j' v' HC HE hj' ⟨sC, hD⟩ ⟨rfl, hv⟩
            obtain ⟨z, ez, sh⟩ := hsh.get hv
            have fin2 : ∃ acc, HE D = some (.lst acc) ∧ acc.length < sizeLine ∧ (Same HB (upd HE D (.lst (acc ++ [V.str (S z)]))) ∧ (upd HE D (.lst (acc ++ [V.str (S z)]))) D = some (.lst (((xs.map intL).take (j' + 1)).map fun z => V.str (S z)))) := by
              refine ⟨_, hD, ?_, fun b o w => ?_, ?_⟩
              · rw [List.length_map, List.length_take]
                exact Nat.lt_of_le_of_lt (Nat.min_le_right _ _) (Nat.lt_of_le_of_lt hzn (by decide))
              · rw [upd_ne (ne_of_none w nD)]
                exact sC _ _ w
              · rw [upd_same, List.take_add_one, ez, List.map_append]
                rfl
            refine ⟨rfl, _, rfl, ?_⟩
            cases sh with
            | int i hi =>
              refine .inl ⟨i, rfl, hi, ?_⟩
              rw [int_txt]
              exact fin2
            | str z => exact .inr ⟨_, rfl, fin2⟩
          · rintro HC ⟨sC, hD⟩
            rw [hsh.len, List.take_length] at hD
            refine ⟨_, D, (xs.map intL).map S, rfl, rfl, .inl (SqL.of (by rw [map_vs]; exact hD)), ?_, ?_⟩
            · have su := sum_le (m := 1000) (xs.map intL) hzl
              rw [lens, List.length_map]
              show _ + (xs.map intL).length * 1 ≤ _
              omega
            · rw [comma_e, join_S]
              obtain ⟨g1, g2, g3, g4, g5⟩ := fin HC sC
              exact ⟨l, _, _, rfl, rfl, g1, g2, _, _, _, rfl, g3, g4, g5⟩
        | _ => cases hf
      | s =>
        cases t with
        | keys xs =>
          obtain ⟨q0, rfl, hq0⟩ := haB
          obtain ⟨l1', l2', hb⟩ := hf
          refine iteDF (by decide +kernel) ⟨_, rfl, _, _, rfl, rfl, _, rfl, iteDT (by decide +kernel) ?_⟩
          refine ⟨_, rfl, .inl ⟨rfl, _, SqL.of hlB⟩, ⟨_, rfl⟩, _, rfl, q0, rfl, ⟨_, SqT.of hq0⟩, fun D nD => ?_⟩
          have hsh : ShA (xs.map fun z => V.str (S z)) (xs) := sha_txts xs
          have hzl : ∀ z ∈ (xs), z.length ≤ 1000 := fun z hz => Nat.le_trans (key_sh z (hb z hz)) (by decide)
          have hzn : (xs).length ≤ 4 := Nat.le_trans l2' (by decide)
          refine lc_it (J := Itt K q0) (n := (xs.map fun z => V.str (S z)).length) (G := fun H => SqT K H q0 (xs.map fun z => V.str (S z))) (Y := YAt (xs.map fun z => V.str (S z))) walk_tup (fun j' H' => Same HB H' ∧ H' D = some (.lst (((xs).take j').map fun z => V.str (S z)))) ⟨same_new (Same.refl HB) nD, upd_same⟩ (fun j' H' _ z => SqT.of (z.1 _ _ hq0)) ?_ ?_
          · rintro j' v' HC HE hj' ⟨sC, hD⟩ ⟨rfl, hv⟩
            obtain ⟨z, ez, sh⟩ := hsh.get hv
            have fin2 : ∃ acc, HE D = some (.lst acc) ∧ acc.length < sizeLine ∧ (Same HB (upd HE D (.lst (acc ++ [V.str (S z)]))) ∧ (upd HE D (.lst (acc ++ [V.str (S z)]))) D = some (.lst (((xs).take (j' + 1)).map fun z => V.str (S z)))) := by
              refine ⟨_, hD, ?_, fun b o w => ?_, ?_⟩
              · rw [List.length_map, List.length_take]
                exact Nat.lt_of_le_of_lt (Nat.min_le_right _ _) (Nat.lt_of_le_of_lt hzn (by decide))
              · rw [upd_ne (ne_of_none w nD)]
                exact sC _ _ w
              · rw [upd_same, List.take_add_one, ez, List.map_append]
                rfl
            refine ⟨rfl, _, rfl, ?_⟩
            cases sh with
            | int i hi =>
              refine .inl ⟨i, rfl, hi, ?_⟩
              rw [int_txt]
              exact fin2
            | str z => exact .inr ⟨_, rfl, fin2⟩
          · rintro HC ⟨sC, hD⟩
            rw [hsh.len, List.take_length] at hD
            refine ⟨_, D, (xs).map S, rfl, rfl, .inl (SqL.of (by rw [map_vs]; exact hD)), ?_, ?_⟩
            · have su := sum_le (m := 1000) (xs) hzl
              rw [lens, List.length_map]
              show _ + (xs).length * 1 ≤ _
              omega
            · rw [comma_e, join_S]
              obtain ⟨g1, g2, g3, g4, g5⟩ := fin HC sC
              exact ⟨l, _, _, rfl, rfl, g1, g2, _, _, _, rfl, g3, g4, g5⟩
        | _ => cases hf
      | n =>
        cases t with
        | num i =>
          cases (show y = .int i from haB)
          refine iteDF (by decide +kernel) ⟨_, rfl, _, _, rfl, rfl, _, rfl, iteDF (by decide +kernel) ?_⟩
          refine ⟨_, rfl, .inl ⟨rfl, _, SqL.of hlB⟩, _, rfl, .inl ⟨i, rfl, log_small hf, ?_⟩⟩
          rw [int_txt]
          obtain ⟨g1, g2, g3, g4, g5⟩ := fin HB (Same.refl HB)
          exact ⟨l, _, _, rfl, rfl, g1, g2, _, _, _, rfl, g3, g4, g5⟩
        | _ => cases hf
      | k =>
        cases t with
        | txt i =>
          cases (show y = .str (S i) from haB)
          refine iteDF (by decide +kernel) ⟨_, rfl, _, _, rfl, rfl, _, rfl, iteDF (by decide +kernel) ?_⟩
          obtain ⟨g1, g2, g3, g4, g5⟩ := fin HB (Same.refl HB)
          exact ⟨_, rfl, .inl ⟨rfl, _, SqL.of hlB⟩, _, rfl, .inr ⟨_, rfl, l, _, _, rfl, rfl, g1, g2, _, _, _, rfl, g3, g4, g5⟩⟩
        | _ => cases hf
      | m =>
        cases t with
        | txt i =>
          cases (show y = .str (S i) from haB)
          refine iteDF (by decide +kernel) ⟨_, rfl, _, _, rfl, rfl, _, rfl, iteDF (by decide +kernel) ?_⟩
          obtain ⟨g1, g2, g3, g4, g5⟩ := fin HB (Same.refl HB)
          exact ⟨_, rfl, .inl ⟨rfl, _, SqL.of hlB⟩, _, rfl, .inr ⟨_, rfl, l, _, _, rfl, rfl, g1, g2, _, _, _, rfl, g3, g4, g5⟩⟩
        | _ => cases hf
    · rintro σ HA ⟨v3, v4, v5, rfl, sA, hcA, hlA⟩
      rw [List.length_map] at hlA
      have hlA2 : HA l = some (.lst (((TL.tl d.w :: List.zipWith Th.tx d.ks d.ts).map S).map V.str)) := by
        have h : HA l = some (.lst (V.str d.w :: ((List.zipWith Th.tx d.ks d.ts).take d.ks.length).map fun z => V.str (S z))) := hlA
        rw [List.take_of_length_le (by omega)] at h
        rw [h, List.map_cons, List.map_cons, List.map_map]
        have z : V.str (S (TL.tl d.w)) = V.str d.w := congrArg V.str (S_tl d.w)
        rw [z]
        rfl
      refine ⟨⟨_, rfl⟩, _, rfl, _, l, _, rfl, rfl, .inl (SqL.of hlA2), ?_, ?_⟩
      · have su := sum_le (m := 200) (TL.tl d.w :: List.zipWith Th.tx d.ks d.ts) (fun z hz => by
          rcases List.mem_cons.mp hz with rfl | hz
          · exact Nat.le_trans f3 (by decide)
          · exact (zip_len d.fit z hz).1)
        rw [lens, List.length_map]
        rw [List.length_cons, lz] at su ⊢
        show _ + (d.ks.length + 1) * 1 ≤ _
        omega
      · rw [blank_e, join_S]
        exact q HA sA

open SX
theorem ok_l_drawn {P : Program} {w : World} {K : PySem.W.Frag} {mg : Str → Option Value} {base : Heap} {a : Nat → Addr} {d : Nat → FuncData} (T : Txt w K mg a d) : FnOk P w K mg base CX0 4 (a 19) (d 19) ["_law_state"] spDrawn := by
  refine T.F_l_drawn.ok sc_l_drawn (fun vs H Q E h => ?_) (fun cdv A outer s0 H vs Q E hr h => ?_)
  · obtain ⟨s, rfl, hst, q⟩ := h
    rfl
  · obtain ⟨s, rfl, hst, q⟩ := h
    refine ⟨_, (pss_cons (ps_set (i := 1) sc_l_drawn.nd rfl (Or.inl rfl) (pe_callB (call_sortedD rfl) (by rfl) T.z_sorted (by decide +kernel) (pa_cons (pe_call0 (ok_l_kinds T) (hr.mono (by decide)) (by rfl) T.g_l_kinds T.F_l_kinds.kp T.b_l_kinds .nil pass0) pa_nil))) (pss_cons (ps_set (i := 2) sc_l_drawn.nd rfl (Or.inl rfl) (pe_ix ix_list (pv 1) (pe_call (ok_l_take T) (hr.mono (by decide)) (by rfl) T.g_l_take T.F_l_take.kp T.b_l_take .nil pass0 (pa_cons (pv 0) (pa_cons (pe_callB call_len_seq (by rfl) T.z_len PySem.boot_len (pa_cons (pv 1) pa_nil)) pa_nil))) (fun _ _ => rfl))) (pss_one (ps_ret (pe_op op_catT (pe_tup (pa_cons (pv 2) pa_nil)) (pe_call (ok_l_things T) (hr.mono (by decide)) (by rfl) T.g_l_things T.F_l_things.kp T.b_l_things .nil pass0 (pa_cons (pv 0) (pa_cons (pe_dget (hu_of hr) (pe_call0 (ok_l_kinds T) (hr.mono (by decide)) (by rfl) T.g_l_kinds T.F_l_kinds.kp T.b_l_kinds .nil pass0) (pv 2) (fun _ _ => rfl)) pa_nil)))))))), ?_⟩
    refine ⟨rfl, fun pk H1 nk s1 hk => ⟨pk, KKV, DEEDS.map (·.1), rfl, .inl hk, kkv_keys, (by decide), fun ys p perm _ np => ?_⟩⟩
    have hys : ys.length = 27 := by rw [perm.length_eq]; decide
    have s2 : Same H1 (upd H1 p (.lst (ys.map V.str))) := same_new (Same.refl H1) np
    have hp : (upd H1 p (.lst (ys.map V.str))) p = some (.lst (ys.map V.str)) := upd_same
    generalize (upd H1 p (.lst (ys.map V.str))) = H2 at s2 hp ⊢
    have s12 := s1.trans s2
    have st2 : StAt H2 s := by
      obtain ⟨a1, a2, a3, e, r⟩ := hst
      exact ⟨a1, a2, a3, s12 _ _ e, r⟩
    have k2 : Kp s H H2 := ⟨fun b o _ e => s12 b o e, st2⟩
    have ps : p ≠ s := fun z => by
      obtain ⟨a1, a2, a3, e, r⟩ := st2
      rw [z, e] at hp
      have z2 := hp
      injection z2 with z2
      injection z2 with z2
      cases ys with
      | nil => cases hys
      | cons y yr => injection z2 with z3; cases z3
    refine ⟨_, rfl, _, rfl, _, rfl, p, _, rfl, .inl (SqL.of hp), s, _, rfl, st2, (by rw [List.length_map, hys]; decide), (by rw [List.length_map, hys]; decide), fun r H3 r0 r1 k3 => ?_⟩
    rw [List.length_map, hys] at r1
    obtain ⟨n, rfl⟩ := Int.eq_ofNat_of_zero_le r0
    have hn : n < ys.length := by omega
    obtain ⟨ks, hmem⟩ := sorted_mem perm (List.getElem_mem hn)
    refine ⟨p, _, _, .str ys[n], rfl, rfl, SqL.of (k3.1 _ _ ps hp), atI_nat (j := n) (by rw [List.getElem?_map, List.getElem?_eq_getElem hn]; rfl), ?_⟩
    have k23 := k2.trans k3
    have f1 : ks.length ≤ 4 := (deed_facts _ hmem).1
    refine ⟨_, rfl, len1, fun t nt => ?_⟩
    have k4 : Kp s H (upd H3 t (.tup [.str ys[n]])) := k23.new nt
    have ht : (upd H3 t (.tup [.str ys[n]])) t = some (.tup [.str ys[n]]) := upd_same
    generalize (upd H3 t (.tup [.str ys[n]])) = H4 at k4 ht ⊢
    refine ⟨_, rfl, rfl, fun pk2 H5 nk2 s5 hk2 => ⟨_, rfl, pk2, _, rfl, .inl ⟨KKV, Sum.inr ys[n], .inl hk2, rfl, (kkv_get _ hmem).symm⟩, ?_⟩⟩
    have st5 : StAt H5 s := by
      obtain ⟨a1, a2, a3, e, r⟩ := k4.2
      exact ⟨a1, a2, a3, s5 _ _ e, r⟩
    have k5 : Kp s H H5 := ⟨fun b o nb e => s5 _ _ (k4.1 b o nb e), st5⟩
    refine ⟨s, ks, rfl, st5, f1, fun c xs ts H6 k6 hc hts hfit => ?_⟩
    have k56 := k5.trans k6
    have ht6 := k6.tup st5 (s5 _ _ ht)
    refine ⟨t, c, _, _, rfl, rfl, SqT.of ht6, SqT.of hc, (by simp), ?_, fun hx => ?_, fun _ u nu => ?_⟩
    · rw [hts.len, ← hfit.len]
      exact Nat.le_trans (show _ ≤ 5 by simp; omega) (by decide)
    · subst hx
      exact q t ⟨_, ks, ts, hmem, hfit⟩ H6 k56 ⟨[], ht6, hts⟩
    · exact q u ⟨_, ks, ts, hmem, hfit⟩ _ (k56.new nu) ⟨xs, upd_same, ThsAt.up (fun p ys e => by rw [upd_ne (ne_of_none e nu)]; exact e) hts⟩

open SX
theorem istup {d : PyData} (h : isTup d = true) : ∃ ds, d = .tuple ds := by
  cases d <;> first | exact ⟨_, rfl⟩ | (exact absurd h (by simp [isTup]))
/-! ### texts -/
/-- a short text of plain signs -/
structure Sh (n : Nat) (z : Str) : Prop where
  ln : z.cps.toList.length ≤ n
  as : ∀ c ∈ z.cps.toList, c < 128
def ltr (c : Nat) : Bool := decide (97 ≤ c) && decide (c ≤ 122)
theorem Sh.up {n m : Nat} {z : Str} (h : Sh n z) (e : n ≤ m) : Sh m z := ⟨Nat.le_trans h.ln e, h.as⟩
theorem Sh.len {n : Nat} {z : Str} (h : Sh n z) : z.length ≤ n := by
  have z := h.ln
  rw [Array.length_toList] at z
  exact z
theorem app_tl (x y : Str) : (x ++ y).cps.toList = x.cps.toList ++ y.cps.toList := TL.tl_append x y
theorem Sh.app {n m : Nat} {x y : Str} (a : Sh n x) (b : Sh m y) : Sh (n + m) (x ++ y) := by
  refine ⟨?_, ?_⟩
  · rw [app_tl, List.length_append]
    exact Nat.add_le_add a.ln b.ln
  · intro c hc
    rw [app_tl] at hc
    exact (List.mem_append.mp hc).elim (a.as c) (b.as c)
theorem Sh.cut {n : Nat} {z : Str} (a : Sh n z) (lo hi : Option Int) : Sh n (cutS z lo hi) := by
  refine ⟨?_, ?_⟩
  · have := a.ln
    show ((List.take _ (List.drop _ z.cps.toList)).toArray.toList).length ≤ n
    rw [List.length_take, List.length_drop]
    omega
  · intro c hc
    exact a.as c (List.mem_of_mem_drop (List.mem_of_mem_take hc))
/-- a text of small letters -/
def Lw (z : Str) : Prop := ∀ c ∈ z.cps.toList, ltr c = true
theorem Lw.sh {z : Str} {n : Nat} (h : Lw z) (l : z.cps.toList.length ≤ n) : Sh n z := ⟨l, fun c hc => by
  have z := h c hc
  simp only [ltr, Bool.and_eq_true, decide_eq_true_eq] at z
  omega⟩
theorem joined : ∀ (cs : List Nat), (Str.join "" (cs.map fun c => (⟨#[c]⟩ : Str))).cps.toList = cs
  | [] => rfl
  | [c] => rfl
  | c :: d :: r => by
    have ih := joined (d :: r)
    show ((⟨#[c]⟩ : Str) ++ ("" : Str) ++ Str.join "" ((d :: r).map fun c => (⟨#[c]⟩ : Str))).cps.toList = _
    rw [app_tl, app_tl, ih]
    rfl
theorem up_one : ∀ c : Fin 123, ltr c.val = true → (Unicode.upperOf c.val).length = 1 ∧ ∀ x ∈ Unicode.upperOf c.val, x < 128 := by decide +kernel
theorem up_ltr {c : Nat} (h : ltr c = true) : (Unicode.upperOf c).length = 1 ∧ ∀ x ∈ Unicode.upperOf c, x < 128 := by
  have z := h
  simp only [ltr, Bool.and_eq_true, decide_eq_true_eq] at z
  exact up_one ⟨c, by omega⟩ h
theorem placed_tl (x : Str) (f : Nat → List Nat) : (placed x fun _ c => f c).toList = (x.cps.toList.map f).flatten := by
  unfold placed
  rw [Array.toList_flatten, Array.toList_mapIdx]
  congr 1
  apply List.ext_getElem?
  intro i
  simp [List.getElem?_mapIdx, Function.comp_def]
theorem flat_len : ∀ (l : List Nat), (∀ c ∈ l, ltr c = true) → ((l.map Unicode.upperOf).flatten).length = l.length
  | [], _ => rfl
  | c :: r, h => by
    rw [List.map_cons, List.flatten_cons, List.length_append, flat_len r fun x hx => h x (List.mem_cons_of_mem _ hx), (up_ltr (h c (List.mem_cons_self ..))).1, List.length_cons]
    omega
theorem Lw.upper {z : Str} {n : Nat} (h : Lw z) (l : z.cps.toList.length ≤ n) : Sh n (Txt.upper z) := by
  have e : (Txt.upper z).cps.toList = (z.cps.toList.map Unicode.upperOf).flatten := placed_tl z Unicode.upperOf
  refine ⟨?_, ?_⟩
  · rw [e, flat_len _ h]
    exact l
  · intro c hc
    rw [e] at hc
    obtain ⟨l', hl, hc⟩ := List.mem_flatten.mp hc
    obtain ⟨x, hx, rfl⟩ := List.mem_map.mp hl
    exact (up_ltr (h x hx)).2 c hc
theorem letters_eq : (Str.ofString "abcdefghijklmnopqrstuvwxyz").cps.toList = List.range' 97 26 := by decide +kernel
theorem letters_in (c : Nat) : decide (c ∈ (Str.ofString "abcdefghijklmnopqrstuvwxyz").cps.toList) = ltr c := by
  rw [letters_eq]
  unfold ltr
  rw [← Bool.decide_and]
  exact decide_eq_decide.mpr ⟨fun h => by have := List.mem_range'_1.mp h; omega, fun h => List.mem_range'_1.mpr (by omega)⟩
theorem lt_one (a b : Nat) : ([a] < [b]) ↔ a < b := by
  rw [List.cons_lt_cons_iff]
  simp
theorem a_le (c : Nat) : (!decide ((⟨#[c]⟩ : Str).cps.toList < (Str.ofString "a").cps.toList)) = decide (97 ≤ c) := by
  have e : (Str.ofString "a").cps.toList = [97] := by decide +kernel
  rw [e]
  show (!decide ([c] < [97])) = _
  rw [← decide_not]
  exact decide_eq_decide.mpr (by rw [lt_one]; omega)
theorem le_z (c : Nat) : (!decide ((Str.ofString "z").cps.toList < (⟨#[c]⟩ : Str).cps.toList)) = decide (c ≤ 122) := by
  have e : (Str.ofString "z").cps.toList = [122] := by decide +kernel
  rw [e]
  show (!decide ([122] < [c])) = _
  rw [← decide_not]
  exact decide_eq_decide.mpr (by rw [lt_one]; omega)
/-- small leaves -/
def lf (d : PyData) : Bool := d.showable && decide (d.depth = 0) && d.leavesShort 200 && decide (d.weight ≤ 200) && d.canLay0
theorem int_len {i : Int} (h : i.natAbs < 2 ^ 110) : (Str.ofString (toString i)).length ≤ 200 := by
  have z := PySem.int_text_length_le (k := 110) (by decide) (PySem.Flt.log2_lt_of (by decide) h)
  rw [ofString_length]
  omega
theorem int_leaf {i : Int} (h : i.natAbs < 2 ^ 110) : lf (.int i) = true := by
  have hl : i.natAbs.log2 < 110 := PySem.Flt.log2_lt_of (by decide) h
  have e1 : (PyData.int i).showable = true := decide_eq_true (by omega)
  have e3 : (PyData.int i).weight ≤ 200 := by
    show Builtin.Int.intBits i ≤ 200
    unfold Builtin.Int.intBits
    split <;> omega
  have e4 : (PyData.int i).leavesShort 200 = true := by
    refine decide_eq_true ?_
    show (Str.ofString (toString i)).length ≤ 200
    exact int_len h
  unfold lf
  rw [e1, e4, decide_eq_true e3]
  rfl
theorem int_leaf2 {i : Int} (h : -1000000000000000000000000000000 ≤ i) (h2 : i ≤ 1000000000000000000000000000000) : lf (.int i) = true := by
  refine int_leaf ?_
  have e : (2 : Nat) ^ 110 = 1298074214633706907132624082305024 := by decide
  rw [e]
  omega
theorem str_leaf {z : Str} {n : Nat} (h : Sh n z) (hn : n ≤ 200) : lf (.str z) = true := by
  have e1 : (PyData.str z).showable = true := rfl
  have e2 : (PyData.str z).depth = 0 := rfl
  have e3 : (PyData.str z).leavesShort 200 = true := by
    show (z.cps.toList.all fun c => decide (c < 16 ^ 8)) = true
    refine List.all_eq_true.mpr fun c hc => decide_eq_true ?_
    have := h.as c hc
    omega
  have e4 : (PyData.str z).weight ≤ 200 := by
    show z.cps.size ≤ 200
    have := h.ln
    rw [Array.length_toList] at this
    omega
  have e5 : (PyData.str z).canLay0 = true := by
    show z.cps.all (· < 0x110000) = true
    rw [← Array.all_toList]
    refine List.all_eq_true.mpr fun c hc => decide_eq_true ?_
    have := h.as c hc
    omega
  unfold lf
  rw [e1, e2, e3, e5, decide_eq_true e4]
  rfl
theorem lf_all : ∀ {ds : List PyData}, ds.all lf = true → PyData.showableAll ds = true ∧ PyData.depthAll ds = 0 ∧ PyData.leavesShortAll 200 ds = true ∧ PyData.weightAll ds ≤ 201 * ds.length ∧ PyData.canLayAll0 ds = true
  | [], _ => ⟨rfl, rfl, rfl, by decide, rfl⟩
  | d :: ds, h => by
    simp only [List.all_cons, Bool.and_eq_true] at h
    obtain ⟨h1, h2, h3, h4, h5⟩ := lf_all h.2
    have h0 := h.1
    simp only [lf, Bool.and_eq_true, decide_eq_true_eq] at h0
    obtain ⟨⟨⟨⟨a1, a2⟩, a3⟩, a4⟩, a5⟩ := h0
    refine ⟨?_, ?_, ?_, ?_, ?_⟩
    · simp only [PyData.showableAll, a1, h1, Bool.and_self]
    · simp only [PyData.depthAll, a2, h2, Nat.max_self]
    · simp only [PyData.leavesShortAll, a3, h3, Bool.and_self]
    · simp only [PyData.weightAll, List.length_cons]
      omega
    · simp only [PyData.canLayAll0, a5, h5, Bool.and_self]
theorem shw_tup {ds : List PyData} (h : ds.all lf = true) (hl : ds.length ≤ 10) : Shw (.tuple ds) := by
  obtain ⟨h1, h2, h3, h4, _⟩ := lf_all h
  refine ⟨by simp only [PyData.showable]; exact h1, by simp only [PyData.depth, h2]; decide, ?_⟩
  have z := PyData.shown_le 200 (by decide) (.tuple ds) (by simp only [PyData.leavesShort]; exact h3)
  have w : (PyData.tuple ds).weight ≤ 2100 := by
    simp only [PyData.weight]
    omega
  rw [sizeLine_eq]
  omega
theorem shw_lst {ds : List PyData} (h : ds.all lf = true) (hl : ds.length ≤ 10) : Shw (.list ds) := by
  obtain ⟨h1, h2, h3, h4, _⟩ := lf_all h
  refine ⟨by simp only [PyData.showable]; exact h1, by simp only [PyData.depth, h2]; decide, ?_⟩
  have z := PyData.shown_le 200 (by decide) (.list ds) (by simp only [PyData.leavesShort]; exact h3)
  have w : (PyData.list ds).weight ≤ 2100 := by
    simp only [PyData.weight]
    omega
  rw [sizeLine_eq]
  omega
theorem shw_lf {d : PyData} (h : lf d = true) : Shw d := by
  simp only [lf, Bool.and_eq_true, decide_eq_true_eq] at h
  obtain ⟨⟨⟨⟨a1, a2⟩, a3⟩, a4⟩, _⟩ := h
  have z := PyData.shown_le 200 (by decide) d a3
  refine ⟨a1, by omega, ?_⟩
  rw [sizeLine_eq]
  omega
theorem th_shw {k : Kd} {t : Th} (h : Fit k t) : t.d.showable = true ∧ t.d.depth ≤ 1 ∧ t.d.leavesShort 200 = true ∧ t.d.weight ≤ 1000 := by
  have one : ∀ d, lf d = true → d.showable = true ∧ d.depth ≤ 1 ∧ d.leavesShort 200 = true ∧ d.weight ≤ 1000 := fun d hd => by
    simp only [lf, Bool.and_eq_true, decide_eq_true_eq] at hd
    obtain ⟨⟨⟨⟨a1, a2⟩, a3⟩, a4⟩, a5⟩ := hd
    exact ⟨a1, by omega, a3, by omega⟩
  have many : ∀ ds : List PyData, ds.all lf = true → ds.length ≤ 4 → (PyData.tuple ds).showable = true ∧ (PyData.tuple ds).depth ≤ 1 ∧ (PyData.tuple ds).leavesShort 200 = true ∧ (PyData.tuple ds).weight ≤ 1000 := fun ds hd hl => by
    obtain ⟨a1, a2, a3, a4, _⟩ := lf_all hd
    refine ⟨by simp only [PyData.showable]; exact a1, by simp only [PyData.depth]; omega, by simp only [PyData.leavesShort]; exact a3, ?_⟩
    simp only [PyData.weight]
    omega
  have lint : ∀ i, Bn i → lf (.int i) = true := fun i hb => int_leaf2 (by have := hb.1; omega) (by have := hb.2; omega)
  have ltxt : ∀ z : List Nat, z.length ≤ 6 → (∀ c ∈ z, c < 128) → lf (.str (S z)) = true := fun z hz hc => str_leaf (n := 6) ⟨hz, hc⟩ (by decide)
  have k5 : ∀ z ∈ keys5, ∀ c ∈ z, c < 128 := by decide +kernel
  cases t with
  | num i => cases k <;> first | exact absurd h id | exact one _ (lint i h)
  | txt z =>
    have : z ∈ keys5 ∨ z = [119, 114, 105, 116, 101] := by
      cases k <;> first | exact absurd h id | exact .inl h | skip
      rcases h with h | h
      · exact .inl (by rw [h]; decide)
      · exact .inr h
    rcases this with h | rfl
    · exact one _ (ltxt z (key_sh z h) (k5 z h))
    · exact one _ (ltxt _ (by decide) (by decide))
  | row xs =>
    have hx : xs.length ≤ 4 ∧ ∀ x ∈ xs, Bn x := by cases k <;> first | exact absurd h id | exact ⟨h.2.1, h.2.2⟩ | exact ⟨by have := h.1; omega, h.2⟩
    exact many _ (List.all_eq_true.mpr fun d hd => by obtain ⟨x, hx', rfl⟩ := List.mem_map.mp hd; exact lint x (hx.2 x hx')) (by rw [List.length_map]; exact hx.1)
  | keys zs =>
    have hx : zs.length ≤ 3 ∧ ∀ z ∈ zs, z ∈ keys5 := by cases k <;> first | exact absurd h id | exact ⟨h.2.1, h.2.2⟩
    exact many _ (List.all_eq_true.mpr fun d hd => by obtain ⟨x, hx', rfl⟩ := List.mem_map.mp hd; exact ltxt x (key_sh x (hx.2 x hx')) (k5 x (hx.2 x hx'))) (by rw [List.length_map]; omega)
theorem ths_shw : ∀ {ks : List Kd} {ts : List Th}, Fits ks ts → PyData.showableAll (ts.map Th.d) = true ∧ PyData.depthAll (ts.map Th.d) ≤ 1 ∧ PyData.leavesShortAll 200 (ts.map Th.d) = true ∧ PyData.weightAll (ts.map Th.d) ≤ 1001 * ts.length
  | _, _, .nil => ⟨rfl, by decide, rfl, by decide⟩
  | _, _, .cons (t := t) f r => by
    obtain ⟨a1, a2, a3, a4⟩ := th_shw f
    obtain ⟨b1, b2, b3, b4⟩ := ths_shw r
    refine ⟨?_, ?_, ?_, ?_⟩
    · simp only [List.map_cons, PyData.showableAll, a1, b1, Bool.and_self]
    · simp only [List.map_cons, PyData.depthAll]
      omega
    · simp only [List.map_cons, PyData.leavesShortAll, a3, b3, Bool.and_self]
    · simp only [List.map_cons, PyData.weightAll, List.length_cons]
      omega
theorem deed_shw (d : Deed) : Shw d.d := by
  obtain ⟨a1, a2, a3, a4⟩ := ths_shw d.fit
  obtain ⟨f1, f2, f3, f4, f5⟩ := deed_facts _ d.mem
  have f1 : d.ks.length ≤ 4 := f1
  have lf' := d.fit.len
  have hw : lf (.str d.w) = true := str_leaf (n := 8) ⟨f3, fun c hc => by have := f5 c hc; omega⟩ (by decide)
  simp only [lf, Bool.and_eq_true, decide_eq_true_eq] at hw
  obtain ⟨⟨⟨⟨b1, b2⟩, b3⟩, b4⟩, _⟩ := hw
  have hls : d.d.leavesShort 200 = true := by simp only [Deed.d, PyData.leavesShort, PyData.leavesShortAll, a3, Bool.and_true]; exact b3
  refine ⟨?_, ?_, ?_⟩
  · simp only [Deed.d, PyData.showable, PyData.showableAll, a1, Bool.and_true]
  · simp only [Deed.d, PyData.depth, PyData.depthAll]
    omega
  · have z := PyData.shown_le 200 (by decide) d.d hls
    have w : d.d.weight ≤ 6000 := by
      simp only [Deed.d, PyData.weight, PyData.weightAll]
      have b4' : (PyData.str d.w).weight ≤ 200 := b4
      simp only [PyData.weight] at b4'
      omega
    rw [sizeLine_eq]
    omega

open SX
theorem dpall_signs {K : PySem.W.Frag} {H : Hp} : ∀ (cs : List Nat), DpAll K H (cs.map fun c => V.str ⟨#[c]⟩) (cs.map fun c => PyData.str ⟨#[c]⟩)
  | [] => .nil
  | n :: r => .cons (.str _) (dpall_signs r)
theorem eqv_nil (ds : List PyData) : PyData.eqv (.list ds) (.list []) = ds.isEmpty := by
  cases ds <;> simp [PyData.eqv, PyData.eqvAll]
theorem all_filter {α : Type} (p : α → Bool) (l : List α) : (l.filter fun e => !p e).isEmpty = l.all p := by
  induction l with
  | nil => rfl
  | cons x r ih =>
    rw [List.filter_cons, List.all_cons]
    cases p x with
    | true => simpa using ih
    | false => simp
def Asc (z : List Nat) : Prop := ∀ c ∈ z, c < 128
theorem lay_strs : ∀ zs : List (List Nat), (∀ z ∈ zs, Asc z) → PyData.canLayAll0 (zs.map fun z => PyData.str (S z)) = true ∧ PyData.depthAll (zs.map fun z => PyData.str (S z)) = 0
  | [], _ => ⟨rfl, rfl⟩
  | z :: r, h => by
    obtain ⟨i1, i2⟩ := lay_strs r fun x hx => h x (.tail _ hx)
    have e : (PyData.str (S z)).canLay0 = true := by
      show (S z).cps.all (· < 0x110000) = true
      rw [← Array.all_toList, List.all_eq_true]
      intro c hc
      have := h z (.head _) c hc
      exact decide_eq_true (by omega)
    refine ⟨?_, ?_⟩
    · simp only [List.map_cons, PyData.canLayAll0, e, i1, Bool.and_self]
    · simp only [List.map_cons, PyData.depthAll, i2]
      rfl
theorem shaped_strs {zs : List (List Nat)} (h : ∀ z ∈ zs, Asc z) : SeqAt.shaped (.list (zs.map fun z => PyData.str (S z))) = true := by
  obtain ⟨a, b⟩ := lay_strs zs h
  unfold SeqAt.shaped
  simp only [PyData.canLay0, PyData.depth, a, b]
  rfl
theorem shaped_nil : SeqAt.shaped (.list []) = true := by decide +kernel
def spNumL : Sp := fun vs H Q _ => ∃ z, vs = [.str (S z)] ∧ SM z ∧ Asc z ∧ ∀ H', Same H H' → Q (.bl (numOk z)) H'
def spKeyL : Sp := fun vs H Q _ => ∃ z, vs = [.str (S z)] ∧ SM z ∧ Asc z ∧ ∀ H', Same H H' → Q (.bl (keyOk z)) H'
theorem sg_map (l : List Nat) : (l.map fun c => V.str (⟨#[c]⟩ : Str)) = (l.map fun c => [c]).map fun z => V.str (S z) := by
  rw [List.map_map]
  rfl
theorem asc_sg {l z : List Nat} (h : Asc z) (hs : ∀ c ∈ l, c ∈ z) : ∀ x ∈ l.map (fun c => [c]), Asc x := fun x hx c hc => by
  obtain ⟨y, hy, rfl⟩ := List.mem_map.mp hx
  rw [List.mem_singleton.mp hc]
  exact h y (hs y hy)
theorem fst_dash (z : List Nat) : decide (V.str (cutS (S z) none (some 1)) = V.str "-") = decide (z.head? = some 45) := by
  have e : ("-" : Str) = S [45] := by decide +kernel
  have c : cutS (S z) none (some 1) = S (z.take 1) := by
    unfold cutS
    rw [S_len]
    cases z with
    | nil => rfl
    | cons y r =>
      have e1 : HT.sIx (y :: r).length (y :: r).length (some 1) = 1 := by
        unfold HT.sIx
        simp
      have e2 : HT.sIx (y :: r).length 0 none = 0 := rfl
      rw [e1, e2]
      rfl
  rw [c, e, Bool.eq_iff_iff, decide_eq_true_eq, decide_eq_true_eq]
  constructor
  · intro h
    have h2 : z.take 1 = [45] := congrArg TL.tl (V.str.inj h)
    cases z with
    | nil => simp at h2
    | cons y r => simp at h2; simp [h2]
  · intro h
    cases z with
    | nil => cases h
    | cons y r => cases h; rfl
theorem cut_n (z : List Nat) : cutS (S z) (some (if z.head? = some 45 then 1 else 0)) none = S (figs z) := by
  by_cases h : z.head? = some 45
  · rw [if_pos h]
    cases z with
    | nil => cases h
    | cons y r =>
      cases h
      rw [cut_one]
      rfl
  · rw [if_neg h]
    have e : figs z = z := if_neg h
    rw [e]
    unfold cutS
    rw [S_len]
    have e1 : HT.sIx z.length 0 (some 0) = 0 := by
      unfold HT.sIx
      simp
    have e2 : HT.sIx z.length z.length none = z.length := rfl
    rw [e1, e2]
    show (⟨_⟩ : Str) = ⟨z.toArray⟩
    congr 1
    show (List.take (z.length - 0) (List.drop 0 z)).toArray = z.toArray
    rw [List.drop_zero, Nat.sub_zero, List.take_length]
theorem cut_n2 (z : List Nat) : cutS (S z) (some (if decide (V.str (cutS (S z) none (some 1)) = V.str "-") = true then 1 else 0)) none = S (figs z) := by
  rw [fst_dash]
  have h := cut_n z
  by_cases c : z.head? = some 45
  · rw [if_pos c] at h
    rw [decide_eq_true c]
    exact h
  · rw [if_neg c] at h
    rw [decide_eq_false c]
    exact h
theorem mem_dg (c : Nat) : decide (c ∈ (Str.ofString "0123456789").cps.toList) = isDg c := by
  rw [← dg_iff, Bool.eq_iff_iff, decide_eq_true_eq, Array.contains_iff_mem, ← Array.mem_toList_iff]
theorem figs_sub {z : List Nat} : ∀ c ∈ figs z, c ∈ z := fun c hc => by
  unfold figs at hc
  split at hc
  · exact List.mem_of_mem_tail hc
  · exact hc
theorem figs_len (z : List Nat) : (figs z).length ≤ z.length := by
  unfold figs
  split
  · rw [List.length_tail]
    omega
  · exact Nat.le_refl _
def LAt (H : Hp) (v : V) : Option Th → Prop
  | some t => ThAt H v t
  | none => v = .non
def spLThing : Sp := fun vs H Q _ => ∃ (z : List Nat) (k : Kd), vs = [.str (S [k.sign]), .str (S z)] ∧ SM z ∧ Asc z ∧ ∀ v H', Same H H' → LAt H' v (rdT k z) → Q v H'
theorem sep_at (k : Kd) : atI [V.str ",", V.str "/"] (if decide (V.str (S [k.sign]) = V.str "p") = true then 1 else 0) = some (V.str (S k.sep)) := by
  cases k <;> decide +kernel
theorem pick2 (a b : V) (c : Bool) : atI [a, b] (if c = true then 1 else 0) = some (if c = true then b else a) := by
  cases c <;> rfl
theorem way_in (z : List Nat) : inV (.str (S z)) [.str "read", .str "write"] = decide (z = [114, 101, 97, 100] ∨ z = [119, 114, 105, 116, 101]) := by
  by_cases c : z = [114, 101, 97, 100] ∨ z = [119, 114, 105, 116, 101]
  · rw [decide_eq_true c]
    rcases c with rfl | rfl <;> decide +kernel
  · rw [decide_eq_false c]
    have h := way_no c
    cases e : inV (.str (S z)) [.str "read", .str "write"] with
    | false => rfl
    | true => rw [e] at h; cases h
theorem spl_asc {c : Nat} {z : List Nat} (h : Asc z) : ∀ x ∈ TL.spl [c] 0 [] z, Asc x := by
  have key : ∀ (z acc : List Nat), Asc acc → Asc z → ∀ x ∈ TL.spl [c] 0 acc z, Asc x := by
    intro z
    induction z with
    | nil =>
      intro acc ha _ x hx
      rw [TL.spl_nil] at hx
      rw [List.mem_singleton.mp hx]
      exact ha
    | cons y r ih =>
      intro acc ha hz x hx
      have hr : Asc r := fun c hc => hz c (.tail _ hc)
      by_cases h : TL.pre [c] (y :: r) = true
      · rw [TL.spl_hit h] at hx
        rcases List.mem_cons.mp hx with rfl | hx
        · exact ha
        · exact ih [] (fun c hc => by cases hc) hr x hx
      · have e : TL.spl [c] 0 acc (y :: r) = TL.spl [c] 0 (acc ++ [y]) r := by
          show (if TL.pre [c] (y :: r) = true then acc :: TL.spl [c] ([c].length - 1) [] r else TL.spl [c] 0 (acc ++ [y]) r) = _
          rw [if_neg h]
        rw [e] at hx
        refine ih (acc ++ [y]) (fun d hd => ?_) hr x hx
        rcases List.mem_append.mp hd with hd | hd
        · exact ha d hd
        · rw [List.mem_singleton.mp hd]
          exact hz y (.head _)
  exact key z [] (fun c hc => by cases hc) h
theorem row_eq (k : Kd) (z : List Nat) : (k = .w → rdT k z = if (TL.spl [44] 0 [] z).all numOk && decide ((TL.spl [44] 0 [] z).length ≤ 4) then some (.row ((TL.spl [44] 0 [] z).map numV)) else none) ∧
    (k = .p → rdT k z = if (TL.spl [47] 0 [] z).all numOk && decide ((TL.spl [47] 0 [] z).length = 2) then some (.row ((TL.spl [47] 0 [] z).map numV)) else none) := by
  constructor
  · rintro rfl
    have ne := (spl_len 44 z []).2.2
    show (if rowOk 1 4 (TL.spl [44] 0 [] z) = true then _ else _) = _
    have e : rowOk 1 4 (TL.spl [44] 0 [] z) = ((TL.spl [44] 0 [] z).all numOk && decide ((TL.spl [44] 0 [] z).length ≤ 4)) := by
      unfold rowOk
      rw [decide_eq_true (show 1 ≤ (TL.spl [44] 0 [] z).length from List.length_pos_iff.mpr ne), Bool.true_and, Bool.and_comm]
    rw [e]
  · rintro rfl
    show (if rowOk 2 2 (TL.spl [47] 0 [] z) = true then _ else _) = _
    have e : rowOk 2 2 (TL.spl [47] 0 [] z) = ((TL.spl [47] 0 [] z).all numOk && decide ((TL.spl [47] 0 [] z).length = 2)) := by
      unfold rowOk
      rw [Bool.and_comm, ← Bool.decide_and]
      congr 1
      exact decide_eq_decide.mpr (by omega)
    rw [e]
def DueAt (H : Hp) (u : V) : Option (List Nat × List Th) → Prop
  | some (w, ts) => ∃ p vs, u = .ref p ∧ H p = some (.tup (.str (S w) :: vs)) ∧ ThsAt H vs ts
  | none => u = .non
def spDueL (K : PySem.W.Frag) : Sp := fun vs H Q _ => ∃ v, vs = [v] ∧ ((∃ z, v = .str (S z) ∧ SM z ∧ Asc z ∧ ∀ u H', Same H H' → DueAt H' u (rdW (TL.spl [32] 0 [] z)) → Q u H') ∨ (∃ d, An K H v d ∧ notStr d = true ∧ ∀ H', Same H H' → Q .non H'))
theorem kkv_look (w : List Nat) : valV KKV (Sum.inr (S w)) = (lookD w).map fun ks => V.str (S (ks.map Kd.sign)) := by
  cases h : lookD w with
  | some ks => exact kkv_get _ (look_some h)
  | none =>
    have hn := look_none h
    rw [dnames_e] at hn
    unfold valV
    have e : KKV.find? (fun p => decide (p.1 = Sum.inr (S w))) = none := by
      rw [List.find?_eq_none]
      intro p hp c
      have c := of_decide_eq_true c
      obtain ⟨q, hq, rfl⟩ := List.mem_map.mp hp
      exact hn (List.mem_map.mpr ⟨q, hq, Sum.inr.inj c⟩)
    rw [e]
    rfl
theorem LAt.it {K : PySem.W.Frag} {H : Hp} {v : V} {o : Option Th} (h : LAt H v o) : NI.It1 K H v := by
  cases o with
  | none => exact .inl h
  | some t =>
    cases t with
    | num i => exact .inr (.inl ⟨i, h⟩)
    | txt a => exact .inr (.inr (.inl ⟨_, h⟩))
    | row xs => obtain ⟨p, e, q⟩ := h; exact .inr (.inr (.inr ⟨p, _, e, SqT.of q⟩))
    | keys zs => obtain ⟨p, e, q⟩ := h; exact .inr (.inr (.inr ⟨p, _, e, SqT.of q⟩))
theorem LAt.non {H : Hp} {v : V} {o : Option Th} (h : LAt H v o) : NI.isNV v = o.isNone := by
  cases o with
  | none => rw [show v = .non from h]; rfl
  | some t =>
    cases t with
    | num i => rw [show v = .int i from h]; rfl
    | txt a => rw [show v = .str (S a) from h]; rfl
    | row xs => obtain ⟨p, e, q⟩ := h; rw [e]; rfl
    | keys zs => obtain ⟨p, e, q⟩ := h; rw [e]; rfl
theorem LAt.up {H H' : Hp} {v : V} {o : Option Th} (h : LAt H v o) (k : ∀ p xs, H p = some (.tup xs) → H' p = some (.tup xs)) : LAt H' v o := by
  cases o with
  | none => exact h
  | some t => exact ThAt.up h k
/-- what a list of things read comes to -/
inductive LsAt (H : Hp) : List V → List (Option Th) → Prop
  | nil : LsAt H [] []
  | cons {v : V} {o : Option Th} {vs : List V} {os : List (Option Th)} (a : LAt H v o) (r : LsAt H vs os) : LsAt H (v :: vs) (o :: os)
theorem LsAt.up {H H' : Hp} (k : ∀ p xs, H p = some (.tup xs) → H' p = some (.tup xs)) : ∀ {vs : List V} {os : List (Option Th)}, LsAt H vs os → LsAt H' vs os
  | _, _, .nil => .nil
  | _, _, .cons a r => .cons (a.up k) (LsAt.up k r)
theorem LsAt.snoc {H : Hp} {v : V} {o : Option Th} (a : LAt H v o) : ∀ {vs : List V} {os : List (Option Th)}, LsAt H vs os → LsAt H (vs ++ [v]) (os ++ [o])
  | _, _, .nil => .cons a .nil
  | _, _, .cons b r => .cons b (LsAt.snoc a r)
theorem LsAt.len {H : Hp} : ∀ {vs : List V} {os : List (Option Th)}, LsAt H vs os → vs.length = os.length
  | _, _, .nil => rfl
  | _, _, .cons _ r => congrArg Nat.succ r.len
theorem LsAt.it {K : PySem.W.Frag} {H : Hp} : ∀ {vs : List V} {os : List (Option Th)}, LsAt H vs os → ∀ v ∈ vs, NI.It1 K H v
  | _, _, .nil, v, h => by cases h
  | _, _, .cons a r, v, h => by
    rcases List.mem_cons.mp h with rfl | h
    · exact a.it
    · exact r.it v h
theorem LsAt.any {H : Hp} : ∀ {vs : List V} {os : List (Option Th)}, LsAt H vs os → vs.any NI.isNV = os.any Option.isNone
  | _, _, .nil => rfl
  | _, _, .cons a r => by rw [List.any_cons, List.any_cons, a.non, r.any]
theorem LsAt.ths {H : Hp} : ∀ {vs : List V} {ks : List Kd} {r : List (List Nat)}, ks.length = r.length → LsAt H vs (List.zipWith rdT ks r) → ((List.zipWith rdT ks r).any Option.isNone = true → allT ks r = none) ∧ ((List.zipWith rdT ks r).any Option.isNone = false → ∃ ts, allT ks r = some ts ∧ ThsAt H vs ts)
  | vs, [], [], _, h => by
    cases h
    exact ⟨fun h => (by simp at h), fun _ => ⟨[], rfl, .nil⟩⟩
  | vs, [], _ :: _, hl, _ => by cases hl
  | vs, _ :: _, [], hl, _ => by cases hl
  | vs, k :: ks, z :: r, hl, h => by
    rw [List.zipWith_cons_cons] at h ⊢
    cases h with
    | cons a h =>
      obtain ⟨i1, i2⟩ := LsAt.ths (Nat.succ.inj hl) h
      rw [List.any_cons]
      cases e : rdT k z with
      | none => exact ⟨fun _ => (by simp only [allT, e]), fun h => (by simp at h)⟩
      | some t =>
        rw [e] at a
        refine ⟨fun h => ?_, fun h => ?_⟩
        · simp at h
          have := i1 (by simpa using h)
          simp only [allT, e, this]
        · simp at h
          obtain ⟨ts, h1, h2⟩ := i2 (by simpa using h)
          exact ⟨t :: ts, by simp only [allT, e, h1], .cons a h2⟩

open SX
theorem ok_l_is_key {P : Program} {w : World} {K : PySem.W.Frag} {mg : Str → Option Value} {base : Heap} {a : Nat → Addr} {d : Nat → FuncData} (T : Txt w K mg a d) : FnOk P w K mg base CX0 1 (a 21) (d 21) ["_law_word"] spKeyL := by
  refine T.F_l_is_key.ok sc_l_is_key (fun vs H Q E h => ?_) (fun cdv A outer s0 H vs Q E hr h => ?_)
  · obtain ⟨z, rfl, hz, ascF, q⟩ := h
    rfl
  · obtain ⟨z, rfl, hz, ascF, q⟩ := h
    refine ⟨_, (pss_one (ps_ret (pe_and (pe_chain op_le op_le pe_int (pe_callB call_len_str (by rfl) T.z_len PySem.boot_len (pa_cons (pv 0) pa_nil)) pe_int) (pe_one (pe_cmpR (op_eqD hr.units) (pe_lc (own := [("_law_sign", 1)]) (g := gName 1) (te := (tVar 1)) (by rfl) sc_l_is_key.nd (pi_str (pv 0)) (blkOk_by (own := [("_law_sign", 1)]) (N := ["_law_word", "_law_sign"]) (sc := defScope s_l_is_key) (by decide +kernel)) (fun _ _ _ _ _ => (pg_name (i := 1) sc_l_is_key.nd rfl (.inl rfl))) (fun _ _ _ _ _ => (pts_one (pt_not (pt_chain op_le_str op_le_str pe_str (pv 1) pe_str)))) (fun _ _ _ _ _ => (pv 1))) (pe_lst pa_nil) (nomark _)))))), ?_⟩
    have hz' : z.length ≤ 10000 := hz
    refine ⟨_, rfl, _, rfl, (by rw [S_len]; exact Nat.le_trans hz' (by decide)), 1, _, rfl, rfl, _, rfl, ?_⟩
    rw [S_len]
    by_cases c1 : 1 ≤ (z.length : Int)
    · refine iteDT c1 ⟨_, 6, rfl, rfl, _, rfl, ?_⟩
      by_cases c2 : (z.length : Int) ≤ 6
      · refine iteDT c2 ⟨_, rfl, _, rfl, fun D nD => ?_⟩
        refine lc_it walk_str (fun i H' => Same H H' ∧ H' D = some (.lst (((z.take i).filter fun c => !ltr c).map fun c => V.str ⟨#[c]⟩))) ⟨same_new (Same.refl H) nD, upd_same⟩ (fun _ _ _ _ => trivial) ?_ ?_
        · rintro i x H1 H' hi ⟨s1, hD⟩ ⟨rfl, c, hc, rfl⟩
          have hc2 : (z)[i]? = some c := by
            have e : (S (z)).cps[i]? = (z)[i]? := by simp [S]
            rw [← e]
            exact hc
          have hil := (List.getElem?_eq_some_iff.mp hc2).1
          have kept : ltr c = false → ∃ acc, H' D = some (.lst acc) ∧ acc.length < sizeLine ∧ Same H (upd H' D (.lst (acc ++ [V.str ⟨#[c]⟩]))) ∧ (upd H' D (.lst (acc ++ [V.str ⟨#[c]⟩]))) D = some (.lst (((z.take (i + 1)).filter fun c => !ltr c).map fun c => V.str ⟨#[c]⟩)) := by
            intro hl
            refine ⟨_, hD, ?_, fun u o z => ?_, ?_⟩
            · rw [List.length_map]
              have l2 := List.length_filter_le (fun c => !ltr c) (z.take i)
              rw [List.length_take] at l2
              exact Nat.lt_of_lt_of_le (show _ < 20000 by omega) (by decide)
            · rw [upd_ne (ne_of_none z nD)]
              exact s1 u o z
            · rw [upd_same, List.take_add_one, hc2]
              simp [hl]
          have left : ltr c = true → H' D = some (.lst (((z.take (i + 1)).filter fun c => !ltr c).map fun c => V.str ⟨#[c]⟩)) := by
            intro hl
            rw [List.take_add_one, hc2, hD]
            simp [hl]
          refine ⟨rfl, _, rfl, _, _, rfl, rfl, _, rfl, ?_⟩
          by_cases c1 : 97 ≤ c
          · refine iteBT (by rw [a_le]; exact decide_eq_true c1) ⟨_, _, rfl, rfl, _, rfl, ?_⟩
            by_cases c2 : c ≤ 122
            · refine iteBF (by rw [le_z, decide_eq_true c2]; rfl) ⟨s1, left ?_⟩
              simp [ltr, c1, c2]
            · refine iteBT (by rw [le_z, decide_eq_false c2]; rfl) ⟨_, rfl, ?_⟩
              obtain ⟨acc, k1, k2, k3, k4⟩ := kept (by simp [ltr, c2])
              exact ⟨acc, k1, k2, k3, k4⟩
          · refine iteBF (by rw [a_le]; exact decide_eq_false c1) ⟨false, rfl, iteT ⟨_, rfl, ?_⟩⟩
            obtain ⟨acc, k1, k2, k3, k4⟩ := kept (by simp only [ltr, decide_eq_false c1, Bool.false_and])
            exact ⟨acc, k1, k2, k3, k4⟩
        · rintro H' ⟨s1, hD⟩
          rw [List.take_of_length_le (by simp [S])] at hD
          refine ⟨Nat.zero_le _, fun pe npe => ?_⟩
          have sn : Same H' (upd H' pe (.lst [])) := same_new (Same.refl H') npe
          have hD2 := sn _ _ hD
          rw [sg_map] at hD2
          refine ⟨.list (((z.filter fun c => !ltr c).map fun c => [c]).map fun z => PyData.str (S z)), .list [], .lst (SqL.of hD2) (dp_txts _), .lst (SqL.of upd_same) .nil, shaped_strs (asc_sg (z := z) ascF fun c hc => (List.mem_filter.mp hc).1), shaped_nil, ?_⟩
          rw [eqv_nil, List.isEmpty_map, List.isEmpty_map, all_filter]
          have s2 := s1.trans sn
          refine bq (Q := Q) ?_ (q _ s2)
          unfold keyOk
          rw [decide_eq_true (by omega), decide_eq_true (by omega)]
          rfl
      · refine iteDF c2 (bq (Q := Q) ?_ (q H (Same.refl H)))
        unfold keyOk
        rw [decide_eq_false (p := z.length ≤ 6) (by omega), Bool.and_false, Bool.false_and]
    · refine iteDF c1 ⟨_, rfl, iteF (bq (Q := Q) ?_ (q H (Same.refl H)))⟩
      unfold keyOk
      rw [decide_eq_false (p := 1 ≤ z.length) (by omega), Bool.false_and, Bool.false_and]

open SX
theorem ok_l_is_number {P : Program} {w : World} {K : PySem.W.Frag} {mg : Str → Option Value} {base : Heap} {a : Nat → Addr} {d : Nat → FuncData} (T : Txt w K mg a d) : FnOk P w K mg base CX0 1 (a 20) (d 20) ["_law_word"] spNumL := by
  refine T.F_l_is_number.ok sc_l_is_number (fun vs H Q E h => ?_) (fun cdv A outer s0 H vs Q E hr h => ?_)
  · obtain ⟨z, rfl, hz, hasc, q⟩ := h
    rfl
  · obtain ⟨z, rfl, hz, hasc, q⟩ := h
    refine ⟨_, (pss_cons (ps_set (i := 1) sc_l_is_number.nd rfl (Or.inl rfl) (pe_slice sl_str (pv 0) (po_some (pe_callTy call_int1 (by rfl) T.z_int (by decide +kernel) (pa_cons (pe_cmpR op_eq (pe_slice sl_str (pv 0) po_none (po_some pe_int)) pe_str (nomark _)) pa_nil))) po_none)) (pss_cons (ps_if (PW.pt (pw_or (pt_not (pt_chain op_le op_le pe_int (pe_callB call_len_str (by rfl) T.z_len PySem.boot_len (pa_cons (pv 1) pa_nil)) pe_int)) (pw_or1 (pt_cmpR (op_neD hr.units) (pe_lc (own := [("_law_sign", 2)]) (g := gName 2) (te := (tVar 2)) (tt := (tTest (tOp (fun x y H Q => ∃ c z, x = V.str ⟨#[c]⟩ ∧ y = V.str z ∧ Q (V.bl (!decide (c ∈ z.cps.toList))) H) (tVar 2) (tC (.str "0123456789"))))) (by rfl) sc_l_is_number.nd (pi_str (pv 1)) (blkOk_by (own := [("_law_sign", 2)]) (N := ["_law_word", "_law_rest", "_law_sign"]) (sc := defScope s_l_is_number) (by decide +kernel)) (fun _ _ _ _ _ => (pg_name (i := 2) sc_l_is_number.nd rfl (.inl rfl))) (fun _ _ _ _ _ => (pts_one (pt_cmpR op_notIn_sign (pv 2) pe_str (by rfl)))) (fun _ _ _ _ _ => (pv 2))) (pe_lst pa_nil) (nomark _))))) (pss_one (ps_ret pe_bl)) pss_nil) (pss_one (ps_ret (pe_or (pe_cmpR op_ne (pe_ix ix_str (pv 1) pe_int (fun _ _ => rfl)) pe_str (nomark _)) (pe_one (pe_cmpR op_eq (pv 0) pe_str (nomark _)))))))), ?_⟩
    have hz' : z.length ≤ 10000 := hz
    have lenZ : (S z).length ≤ sizeLine := by rw [S_len]; exact Nat.le_trans hz' (by decide)
    refine ⟨_, rfl, _, rfl, 1, rfl, _, rfl, lenZ, rfl, .inr ⟨_, rfl, _, rfl, _, rfl, lenZ, ?_⟩⟩
    rw [cut_n2]
    have fl := figs_len z
    have ascF : Asc (figs z) := fun c hc => hasc c (figs_sub c hc)
    have nk := numOk_eq z (a := decide (1 ≤ (figs z).length)) (b := decide ((figs z).length ≤ 30)) (d := (figs z).all isDg) (e := (decide (z = [48]) || decide ((figs z).head? ≠ some 48))) rfl rfl rfl rfl
    generalize hF : figs z = f at fl ascF nk ⊢
    have lenF : (S f).length ≤ sizeLine := by rw [S_len]; exact Nat.le_trans (show f.length ≤ 10000 by omega) (by decide)
    refine ⟨_, rfl, _, rfl, lenF, 1, _, rfl, rfl, _, rfl, ?_⟩
    rw [S_len]
    by_cases c1 : 1 ≤ (f.length : Int)
    · refine iteDT c1 ⟨_, 30, rfl, rfl, _, rfl, ?_⟩
      by_cases c2 : (f.length : Int) ≤ 30
      · refine iteNSD c2 ⟨_, rfl, _, rfl, fun D nD => ?_⟩
        rw [decide_eq_true (show 1 ≤ f.length by omega), decide_eq_true (show f.length ≤ 30 by omega)] at nk
        refine lc_it walk_str (fun i H' => Same H H' ∧ H' D = some (.lst (((f.take i).filter fun c => !isDg c).map fun c => V.str ⟨#[c]⟩))) ⟨same_new (Same.refl H) nD, upd_same⟩ (fun _ _ _ _ => trivial) ?_ ?_
        · rintro i x H1 H' hi ⟨s1, hD⟩ ⟨rfl, c, hc, rfl⟩
          have hc2 : (f)[i]? = some c := by
            have e : (S (f)).cps[i]? = (f)[i]? := by simp [S]
            rw [← e]
            exact hc
          have hil := (List.getElem?_eq_some_iff.mp hc2).1
          have kept : isDg c = false → ∃ acc, H' D = some (.lst acc) ∧ acc.length < sizeLine ∧ Same H (upd H' D (.lst (acc ++ [V.str ⟨#[c]⟩]))) ∧ (upd H' D (.lst (acc ++ [V.str ⟨#[c]⟩]))) D = some (.lst (((f.take (i + 1)).filter fun c => !isDg c).map fun c => V.str ⟨#[c]⟩)) := by
            intro hl
            refine ⟨_, hD, ?_, fun u o z => ?_, ?_⟩
            · rw [List.length_map]
              have l2 := List.length_filter_le (fun c => !isDg c) (f.take i)
              rw [List.length_take] at l2
              exact Nat.lt_of_lt_of_le (show _ < 20000 by omega) (by decide)
            · rw [upd_ne (ne_of_none z nD)]
              exact s1 u o z
            · rw [upd_same, List.take_add_one, hc2]
              simp [hl]
          have left : isDg c = true → H' D = some (.lst (((f.take (i + 1)).filter fun c => !isDg c).map fun c => V.str ⟨#[c]⟩)) := by
            intro hl
            rw [List.take_add_one, hc2, hD]
            simp [hl]
          refine ⟨rfl, _, rfl, _, _, rfl, rfl, _, rfl, ?_⟩
          cases hl : isDg c with
          | true => exact iteBF (by rw [mem_dg, hl]; rfl) ⟨s1, left hl⟩
          | false =>
            obtain ⟨acc, k1, k2, k3, k4⟩ := kept hl
            exact iteBT (by rw [mem_dg, hl]; rfl) ⟨_, rfl, acc, k1, k2, k3, k4⟩
        · rintro H' ⟨s1, hD⟩
          rw [List.take_of_length_le (by simp [S])] at hD
          refine ⟨Nat.zero_le _, fun pe npe => ?_⟩
          have sn : Same H' (upd H' pe (.lst [])) := same_new (Same.refl H') npe
          have hD2 := sn _ _ hD
          rw [sg_map] at hD2
          refine ⟨.list (((f.filter fun c => !isDg c).map fun c => [c]).map fun z => PyData.str (S z)), .list [], .lst (SqL.of hD2) (dp_txts _), .lst (SqL.of upd_same) .nil, shaped_strs (asc_sg (z := f) ascF fun c hc => (List.mem_filter.mp hc).1), shaped_nil, ?_⟩
          rw [eqv_nil, List.isEmpty_map, List.isEmpty_map, all_filter]
          have s2 := s1.trans sn
          refine ⟨_, rfl, ?_⟩
          cases c3 : f.all isDg with
          | false =>
            refine iteT (bq (Q := Q) ?_ (q _ s2))
            rw [nk, c3]
            rfl
          | true =>
            obtain ⟨c, r, er⟩ : ∃ c r, f = c :: r := by
              cases hf : f with
              | nil => rw [hf] at c1; exact absurd c1 (by decide)
              | cons c r => exact ⟨c, r, rfl⟩
            refine iteF ⟨_, rfl, _, _, c, rfl, rfl, lenF, (by show atI f 0 = some c; rw [er]; exact atI_nat (j := 0) rfl), rfl, _, rfl, ?_⟩
            rw [c3] at nk
            have h48 := head48 c
            have hz48 := z48 z
            have hh : decide (f.head? ≠ some 48) = !decide (c = 48) := by
              rw [er]
              simp
            rw [hh] at nk
            by_cases c4 : V.str ⟨#[c]⟩ = V.str "0"
            · rw [decide_eq_true c4] at h48
              rw [← h48] at nk
              refine iteBF (by rw [decide_eq_true c4]; rfl) ⟨_, rfl, rfl, ?_⟩
              refine bq (Q := Q) ?_ (q _ s2)
              rw [nk, hz48]
              simp
            · rw [decide_eq_false c4] at h48
              rw [← h48] at nk
              refine iteBT (by rw [decide_eq_false c4]; rfl) (bq (Q := Q) ?_ (q _ s2))
              rw [nk]
              simp
      · refine iteND c2 (bq (Q := Q) ?_ (q H (Same.refl H)))
        rw [nk, decide_eq_false (p := f.length ≤ 30) (by omega), Bool.and_false, Bool.false_and, Bool.false_and]
    · refine iteDF c1 ⟨_, rfl, iteT (bq (Q := Q) ?_ (q H (Same.refl H)))⟩
      rw [nk, decide_eq_false (p := 1 ≤ f.length) (by omega), Bool.false_and, Bool.false_and, Bool.false_and]

open SX
theorem ok_l_read_thing {P : Program} {w : World} {K : PySem.W.Frag} {mg : Str → Option Value} {base : Heap} {a : Nat → Addr} {d : Nat → FuncData} (T : Txt w K mg a d) : FnOk P w K mg base CX0 3 (a 22) (d 22) ["_law_kind", "_law_word"] spLThing := by
  refine T.F_l_read_thing.ok sc_l_read_thing (fun vs H Q E h => ?_) (fun cdv A outer s0 H vs Q E hr h => ?_)
  · obtain ⟨z, k, rfl, hz, ha, q⟩ := h
    rfl
  · obtain ⟨z, k, rfl, hz, ha, q⟩ := h
    refine ⟨_, (pss_cons (ps_set (i := 2) sc_l_read_thing.nd rfl (Or.inl rfl) (pe_split (pv 1) (pe_ix ix_list (pe_lst (pa_cons pe_str (pa_cons pe_str pa_nil))) (pe_callTy call_int1 (by rfl) T.z_int (by decide +kernel) (pa_cons (pe_cmpR op_eq (pv 0) pe_str (nomark _)) pa_nil)) (fun _ _ => rfl)))) (pss_cons (ps_if (pt_cmpR op_eq (pv 0) pe_str (nomark _)) (pss_one (ps_ret (pe_ix ix_list (pe_lst (pa_cons pe_non (pa_cons (pv 1) pa_nil))) (pe_callTy call_int1 (by rfl) T.z_int (by decide +kernel) (pa_cons (pe_call (ok_l_is_key T) (hr.mono (by decide)) (by rfl) T.g_l_is_key T.F_l_is_key.kp T.b_l_is_key .nil pass0 (pa_cons (pv 1) pa_nil)) pa_nil)) (fun _ _ => rfl)))) pss_nil) (pss_cons (ps_if (pt_cmpR op_eq (pv 0) pe_str (nomark _)) (pss_one (ps_ret (pe_ix ix_list (pe_lst (pa_cons pe_non (pa_cons (pv 1) pa_nil))) (pe_callTy call_int1 (by rfl) T.z_int (by decide +kernel) (pa_cons (pe_cmpR op_in_seq (pv 1) (pe_tup (pa_cons pe_str (pa_cons pe_str pa_nil))) (by rfl)) pa_nil)) (fun _ _ => rfl)))) pss_nil) (pss_cons (ps_if (pt_cmpR op_eq (pv 0) pe_str (nomark _)) (pss_one (ps_ret (pe_ix ix_list (pe_lst (pa_cons pe_non (pa_cons (pe_callTy call_tuple_of (by rfl) T.z_tuple (by decide +kernel) (pa_cons (pv 2) pa_nil)) pa_nil))) (pe_callTy call_int1 (by rfl) T.z_int (by decide +kernel) (pa_cons (pe_cmpR (op_eqD hr.units) (pe_lc (own := [("_law_one", 4)]) (g := gName 4) (te := (tVar 4)) (tt := (tNot (fun σ H Q => tCall spKeyL [] E0 (tCons (tVar 4) tNil) σ H fun x H' => ∃ k, TruV K x H' k ∧ Q k H'))) (by rfl) sc_l_read_thing.nd (pi_list (pv 2)) (blkOk_by (own := [("_law_one", 4)]) (N := ["_law_kind", "_law_word", "_law_parts", "_law_numbers", "_law_one"]) (sc := defScope s_l_read_thing) (by decide +kernel)) (fun _ _ _ _ _ => (pg_name (i := 4) sc_l_read_thing.nd rfl (.inl rfl))) (fun _ _ _ _ _ => (pts_one (pt_not (pt_truth (pe_call (ok_l_is_key T) (hr.mono (by decide)) (by rfl) T.g_l_is_key T.F_l_is_key.kp T.b_l_is_key .nil pass0 (pa_cons (pv 4) pa_nil)) (by intro _; rfl))))) (fun _ _ _ _ _ => (pv 4))) (pe_lst pa_nil) (nomark _)) pa_nil)) (fun _ _ => rfl)))) pss_nil) (pss_cons (ps_if (pt_cmpR op_eq (pv 0) pe_str (nomark _)) (pss_one (ps_set (i := 2) sc_l_read_thing.nd rfl (Or.inl rfl) (pe_lst (pa_cons (pv 1) pa_nil)))) pss_nil) (pss_cons (ps_if (PW.pt (pw_or (pt_cmpR (op_neD hr.units) (pe_lc (own := [("_law_one", 4)]) (g := gName 4) (te := (tVar 4)) (tt := (tNot (fun σ H Q => tCall spNumL [] E0 (tCons (tVar 4) tNil) σ H fun x H' => ∃ k, TruV K x H' k ∧ Q k H'))) (by rfl) sc_l_read_thing.nd (pi_list (pv 2)) (blkOk_by (own := [("_law_one", 4)]) (N := ["_law_kind", "_law_word", "_law_parts", "_law_numbers", "_law_one"]) (sc := defScope s_l_read_thing) (by decide +kernel)) (fun _ _ _ _ _ => (pg_name (i := 4) sc_l_read_thing.nd rfl (.inl rfl))) (fun _ _ _ _ _ => (pts_one (pt_not (pt_truth (pe_call (ok_l_is_number T) (hr.mono (by decide)) (by rfl) T.g_l_is_number T.F_l_is_number.kp T.b_l_is_number .nil pass0 (pa_cons (pv 4) pa_nil)) (by intro _; rfl))))) (fun _ _ _ _ _ => (pv 4))) (pe_lst pa_nil) (nomark _)) (pw_or (PW.pt (pw_and (pt_cmpR op_eq (pv 0) pe_str (nomark _)) (pw_and1 (pt_cmpR op_ne (pe_callB call_len_seq (by rfl) T.z_len PySem.boot_len (pa_cons (pv 2) pa_nil)) pe_int (nomark _))))) (pw_or1 (pt_cmpR op_gt (pe_callB call_len_seq (by rfl) T.z_len PySem.boot_len (pa_cons (pv 2) pa_nil)) pe_int (nomark _)))))) (pss_one (ps_ret pe_non)) pss_nil) (pss_cons (ps_set (i := 3) sc_l_read_thing.nd rfl (Or.inl rfl) (pe_callTy call_tuple_of (by rfl) T.z_tuple (by decide +kernel) (pa_cons (pe_lc (own := [("_law_one", 4)]) (g := gName 4) (by rfl) sc_l_read_thing.nd (pi_list (pv 2)) (blkOk_by (own := [("_law_one", 4)]) (N := ["_law_kind", "_law_word", "_law_parts", "_law_numbers", "_law_one"]) (sc := defScope s_l_read_thing) (by decide +kernel)) (fun _ _ _ _ _ => (pg_name (i := 4) sc_l_read_thing.nd rfl (.inl rfl))) (fun _ _ _ _ _ => pts_nil) (fun _ _ _ _ _ => (pe_callTy call_int_str (by rfl) T.z_int (by decide +kernel) (pa_cons (pv 4) pa_nil)))) pa_nil))) (pss_one (ps_ret (pe_ix ix_list (pe_lst (pa_cons (pv 3) (pa_cons (pe_ix ix_tup (pv 3) pe_int (fun _ _ => rfl)) pa_nil))) (pe_callTy call_int1 (by rfl) T.z_int (by decide +kernel) (pa_cons (pe_cmpR op_eq (pv 0) pe_str (nomark _)) pa_nil)) (fun _ _ => rfl))))))))))), ?_⟩
    have hz' : z.length ≤ 10000 := hz
    obtain ⟨c, hc, hcb⟩ : ∃ c, k.sep = [c] ∧ c < 256 := by cases k <;> exact ⟨_, rfl, by decide⟩
    refine ⟨_, rfl, ⟨_, rfl⟩, len2, fun p0 n0 => ⟨_, rfl, rfl, .inr ⟨_, rfl, p0, _, _, _, rfl, rfl, SqL.of upd_same, sep_at k, _, _, rfl, rfl, (by rw [hc]; rfl), (by rw [S_len]; exact Nat.le_trans (show _ ≤ 10002 by omega) (by decide)), fun p np => ?_⟩⟩⟩
    have s1 := same_new (o := .lst [.str ",", .str "/"]) (Same.refl H) n0
    generalize (upd H p0 (.lst [.str ",", .str "/"])) = H1 at s1 np ⊢
    rw [hc, split_c hcb]
    obtain ⟨p1, p2, p3⟩ := spl_sm (c := c) hz
    have pa := spl_asc (c := c) ha
    generalize hzs : TL.spl [c] 0 [] z = zs at p1 p2 p3 pa ⊢
    have em : (zs.map S).map V.str = zs.map fun z => V.str (S z) := by rw [List.map_map]; rfl
    rw [em]
    have s2 := s1.trans (same_new (o := .lst (zs.map fun z => V.str (S z))) (Same.refl H1) np)
    have hp : (upd H1 p (.lst (zs.map fun z => V.str (S z)))) p = some (.lst (zs.map fun z => V.str (S z))) := upd_same
    generalize (upd H1 p (.lst (zs.map fun z => V.str (S z)))) = H2 at s2 hp ⊢
    cases k with
    | k =>
      refine ⟨_, rfl, rfl, _, rfl, iteBT (by decide +kernel) ?_⟩
      refine ⟨_, rfl, len2, fun pl nl => ?_⟩
      have t1 := same_new (o := .lst [.non, .str (S z)]) (Same.refl H2) nl
      refine ⟨_, rfl, z, rfl, hz, ha, fun H3 s3 => .inr ⟨_, rfl, pl, _, _, _, rfl, rfl, SqL.of (s3 _ _ upd_same), pick2 _ _ _, ?_⟩⟩
      refine q _ _ (s2.trans (t1.trans s3)) ?_
      show LAt _ _ (if keyOk z = true then some (.txt z) else none)
      cases c : keyOk z with
      | true => exact rfl
      | false => exact rfl
    | m =>
      refine ⟨_, rfl, rfl, _, rfl, iteBF (by decide +kernel) ?_⟩
      refine ⟨_, rfl, rfl, _, rfl, iteBT (by decide +kernel) ?_⟩
      refine ⟨_, rfl, len2, fun pl nl => ?_⟩
      have t1 := same_new (o := .lst [.non, .str (S z)]) (Same.refl H2) nl
      have hpl : (upd H2 pl (.lst [.non, .str (S z)])) pl = some (.lst [.non, .str (S z)]) := upd_same
      generalize (upd H2 pl (.lst [.non, .str (S z)])) = H3 at t1 hpl ⊢
      refine ⟨_, rfl, len2, fun pt nt => ?_⟩
      have t2 := same_new (o := .tup [.str "read", .str "write"]) (Same.refl H3) nt
      refine ⟨pt, _, rfl, .inr (SqT.of upd_same), rfl, rfl, .inr ⟨_, rfl, pl, _, _, _, rfl, rfl, SqL.of (t2 _ _ hpl), pick2 _ _ _, ?_⟩⟩
      refine q _ _ (s2.trans (t1.trans t2)) ?_
      show LAt _ (if inV (.str (S z)) [.str "read", .str "write"] = true then _ else _) (if z = [114, 101, 97, 100] ∨ z = [119, 114, 105, 116, 101] then some (.txt z) else none)
      rw [way_in]
      by_cases c : z = [114, 101, 97, 100] ∨ z = [119, 114, 105, 116, 101]
      · rw [if_pos (decide_eq_true c), if_pos c]
        exact rfl
      · rw [if_neg (by rw [decide_eq_false c]; decide), if_neg c]
        exact rfl
    | s =>
      cases hc
      refine ⟨_, rfl, rfl, _, rfl, iteBF (by decide +kernel) ?_⟩
      refine ⟨_, rfl, rfl, _, rfl, iteBF (by decide +kernel) ?_⟩
      refine ⟨_, rfl, rfl, _, rfl, iteBT (by decide +kernel) ?_⟩
      refine ⟨_, rfl, p, _, rfl, .inl ⟨SqL.of hp, fun tp nt => ?_⟩⟩
      have t1 := same_new (o := .tup (zs.map fun z => V.str (S z))) (Same.refl H2) nt
      have htp : (upd H2 tp (.tup (zs.map fun z => V.str (S z)))) tp = some (.tup (zs.map fun z => V.str (S z))) := upd_same
      generalize (upd H2 tp (.tup (zs.map fun z => V.str (S z)))) = H3 at t1 htp ⊢
      refine ⟨len2, fun pl nl => ?_⟩
      have t2 := same_new (o := .lst [.non, .ref tp]) (Same.refl H3) nl
      have hpl : (upd H3 pl (.lst [.non, .ref tp])) pl = some (.lst [.non, .ref tp]) := upd_same
      generalize (upd H3 pl (.lst [.non, .ref tp])) = H4 at t2 hpl ⊢
      have hp4 := t2 _ _ (t1 _ _ hp)
      refine ⟨_, rfl, p, rfl, ⟨_, SqL.of hp4⟩, fun D nD => ?_⟩

      refine lc_list (K := K) (a := p) (xs := zs.map fun z => V.str (S z)) (fun j G => Same H4 G ∧ G D = some (.lst (((zs.take j).filter fun z => !keyOk z).map fun z => V.str (S z)))) ⟨same_new (Same.refl H4) nD, upd_same⟩ (fun j G _ z => SqL.of (z.1 _ _ hp4)) ?_ ?_
      · rintro j v HA hj ⟨sA, hD⟩
        rw [List.getElem?_map] at hj
        cases ex : zs[j]? with
        | none => rw [ex] at hj; cases hj
        | some x =>
          rw [ex] at hj
          cases hj
          have hx := List.mem_of_getElem? ex
          have hjl := (List.getElem?_eq_some_iff.mp ex).1
          refine ⟨rfl, _, rfl, x, rfl, p1 x hx, pa x hx, fun HB sB => ⟨_, rfl, ?_⟩⟩
          have hDB := sB _ _ hD
          cases c : keyOk x with
          | true =>
            refine iteF ⟨sA.trans sB, ?_⟩
            rw [List.take_add_one, ex, hDB]
            simp [c]
          | false =>
            refine iteT ⟨_, rfl, _, hDB, ?_, fun b o z => ?_, ?_⟩
            · rw [List.length_map]
              have l2 := List.length_filter_le (fun z => !keyOk z) (zs.take j)
              rw [List.length_take] at l2
              exact Nat.lt_of_lt_of_le (show _ < 20000 by omega) (by decide)
            · rw [upd_ne (ne_of_none z nD)]
              exact sB _ _ (sA _ _ z)
            · rw [upd_same, List.take_add_one, ex]
              simp [c]
      · rintro HA ⟨sA, hD⟩
        rw [List.length_map, List.take_length] at hD
        refine ⟨Nat.zero_le _, fun pe npe => ?_⟩
        have sn : Same HA (upd HA pe (.lst [])) := same_new (Same.refl HA) npe
        refine ⟨.list ((zs.filter fun z => !keyOk z).map fun z => PyData.str (S z)), .list [], .lst (SqL.of (sn _ _ hD)) (dp_txts _), .lst (SqL.of upd_same) .nil, shaped_strs (fun z hz => pa z (List.mem_filter.mp hz).1), shaped_nil, ?_⟩
        rw [eqv_nil, List.isEmpty_map, all_filter]
        have sE := sA.trans sn
        generalize (upd HA pe (.lst [])) = HE at sE ⊢
        refine .inr ⟨_, rfl, pl, _, _, _, rfl, rfl, SqL.of (sE _ _ hpl), pick2 _ _ _, ?_⟩
        refine q _ _ (s2.trans (t1.trans (t2.trans sE))) ?_
        show LAt _ _ (if (TL.spl [44] 0 [] z).all keyOk = true then some (.keys (TL.spl [44] 0 [] z)) else none)
        rw [hzs]
        cases c2 : zs.all keyOk with
        | true => exact ⟨tp, rfl, sE _ _ (t2 _ _ htp)⟩
        | false => exact rfl
    | n =>
      refine ⟨_, rfl, rfl, _, rfl, iteBF (by decide +kernel) ?_⟩
      refine ⟨_, rfl, rfl, _, rfl, iteBF (by decide +kernel) ?_⟩
      refine ⟨_, rfl, rfl, _, rfl, iteBF (by decide +kernel) ?_⟩
      refine ⟨_, rfl, rfl, _, rfl, iteBT (by decide +kernel) ?_⟩
      clear p1 p2 p3 pa em hp hzs zs
      refine ⟨_, rfl, len1, fun pn nn => ?_⟩
      have s3 := s2.trans (same_new (o := .lst [.str (S z)]) (Same.refl H2) nn)
      have hpn : (upd H2 pn (.lst [.str (S z)])) pn = some (.lst [.str (S z)]) := upd_same
      generalize (upd H2 pn (.lst [.str (S z)])) = H3 at s3 hpn ⊢
      obtain ⟨zs, hzs⟩ : ∃ zs, zs = [z] := ⟨_, rfl⟩
      have p1 : ∀ x ∈ zs, SM x := fun x hx => by rw [hzs] at hx; rw [List.mem_singleton.mp hx]; exact hz
      have pa : ∀ x ∈ zs, Asc x := fun x hx => by rw [hzs] at hx; rw [List.mem_singleton.mp hx]; exact ha
      have p2 : zs.length ≤ 10001 := by rw [hzs]; show 1 ≤ 10001; decide
      have p3 : zs ≠ [] := by rw [hzs]; simp
      have hpn : H3 pn = some (.lst (zs.map fun z => V.str (S z))) := by rw [hzs]; exact hpn
      have al : zs.all numOk = numOk z := by rw [hzs]; simp
      refine ⟨_, rfl, pn, rfl, ⟨_, SqL.of hpn⟩, fun D nD => ?_⟩

      refine lc_list (K := K) (a := pn) (xs := zs.map fun z => V.str (S z)) (fun j G => Same H3 G ∧ G D = some (.lst (((zs.take j).filter fun z => !numOk z).map fun z => V.str (S z)))) ⟨same_new (Same.refl H3) nD, upd_same⟩ (fun j G _ z => SqL.of (z.1 _ _ hpn)) ?_ ?_
      · rintro j v HA hj ⟨sA, hD⟩
        rw [List.getElem?_map] at hj
        cases ex : zs[j]? with
        | none => rw [ex] at hj; cases hj
        | some x =>
          rw [ex] at hj
          cases hj
          have hx := List.mem_of_getElem? ex
          have hjl := (List.getElem?_eq_some_iff.mp ex).1
          refine ⟨rfl, _, rfl, x, rfl, p1 x hx, pa x hx, fun HB sB => ⟨_, rfl, ?_⟩⟩
          have hDB := sB _ _ hD
          cases c : numOk x with
          | true =>
            refine iteF ⟨sA.trans sB, ?_⟩
            rw [List.take_add_one, ex, hDB]
            simp [c]
          | false =>
            refine iteT ⟨_, rfl, _, hDB, ?_, fun b o z => ?_, ?_⟩
            · rw [List.length_map]
              have l2 := List.length_filter_le (fun z => !numOk z) (zs.take j)
              rw [List.length_take] at l2
              exact Nat.lt_of_lt_of_le (show _ < 20000 by omega) (by decide)
            · rw [upd_ne (ne_of_none z nD)]
              exact sB _ _ (sA _ _ z)
            · rw [upd_same, List.take_add_one, ex]
              simp [c]
      · rintro HA ⟨sA, hD⟩
        rw [List.length_map, List.take_length] at hD
        refine ⟨Nat.zero_le _, fun pe npe => ?_⟩
        have sn : Same HA (upd HA pe (.lst [])) := same_new (Same.refl HA) npe
        refine ⟨.list ((zs.filter fun z => !numOk z).map fun z => PyData.str (S z)), .list [], .lst (SqL.of (sn _ _ hD)) (dp_txts _), .lst (SqL.of upd_same) .nil, shaped_strs (fun z hz => pa z (List.mem_filter.mp hz).1), shaped_nil, ?_⟩
        rw [eqv_nil, List.isEmpty_map, all_filter]
        have sE := sA.trans sn
        generalize (upd HA pe (.lst [])) = HE at sE ⊢
        refine ⟨_, rfl, ?_⟩
        cases c3 : zs.all numOk with
        | false => exact iteT (q _ _ (s3.trans sE) (by rw [show rdT Kd.n z = none from (if_neg (by rw [← al, c3]; decide))]; exact rfl))
        | true =>
          refine iteF ?_
          have hpe := sE _ _ hpn
          have lz : ((zs.map fun z => V.str (S z)).length : Int) = zs.length := by rw [List.length_map]
          refine ⟨_, rfl, rfl, _, rfl, iteBF (by decide +kernel) ?_⟩
          refine iteF ?_
          refine ⟨_, rfl, pn, _, rfl, .inl (SqL.of hpe), _, 4, rfl, rfl, _, rfl, ?_⟩
          rw [lz]
          by_cases c4 : (4 : Int) < zs.length
          · exact iteDT c4 (q _ _ (s3.trans sE) (by rw [show rdT Kd.n z = none from (absurd c4 (by rw [hzs]; show ¬ (4 : Int) < ((1 : Nat) : Int); decide))]; exact rfl))
          · refine iteDF c4 ?_
            refine ⟨_, rfl, pn, rfl, ⟨_, SqL.of hpe⟩, fun D2 nD2 => ?_⟩
            refine lc_list (K := K) (a := pn) (xs := zs.map fun z => V.str (S z)) (fun j G => Same HE G ∧ G D2 = some (.lst ((zs.take j).map fun z => V.int (numV z)))) ⟨same_new (Same.refl HE) nD2, upd_same⟩ (fun j G _ z => SqL.of (z.1 _ _ hpe)) ?_ ?_
            · rintro j v HA hj ⟨sA, hD⟩
              rw [List.getElem?_map] at hj
              cases ex : zs[j]? with
              | none => rw [ex] at hj; cases hj
              | some x =>
                rw [ex] at hj
                cases hj
                have hx := List.mem_of_getElem? ex
                obtain ⟨e1, e2⟩ := num_text (List.all_eq_true.mp c3 x hx)
                refine ⟨rfl, _, rfl, _, numV x, rfl, e1, (by rw [S_len]; exact Nat.le_trans e2 (by decide)), _, hD, ?_, fun b o z => ?_, ?_⟩
                · rw [List.length_map, List.length_take]
                  exact Nat.lt_of_le_of_lt (Nat.min_le_right _ _) (Nat.lt_of_le_of_lt p2 (by decide))
                · rw [upd_ne (ne_of_none z nD2)]
                  exact sA _ _ z
                · rw [upd_same, List.take_add_one, ex, List.map_append]
                  rfl
            · rintro HA ⟨sA, hD⟩
              rw [List.length_map, List.take_length] at hD
              refine ⟨D2, _, rfl, .inl ⟨SqL.of hD, fun tp nt => ?_⟩⟩
              have t3 := same_new (o := .tup (zs.map fun z => V.int (numV z))) (Same.refl HA) nt
              have htp : (upd HA tp (.tup (zs.map fun z => V.int (numV z)))) tp = some (.tup (zs.map fun z => V.int (numV z))) := upd_same
              generalize (upd HA tp (.tup (zs.map fun z => V.int (numV z)))) = HF at t3 htp ⊢
              obtain ⟨x0, r0, e0⟩ : ∃ x r, zs = x :: r := by
                cases hzz : zs with
                | nil => exact absurd hzz p3
                | cons x r => exact ⟨x, r, rfl⟩
              refine ⟨_, rfl, _, rfl, tp, _, 0, .int (numV x0), rfl, rfl, SqT.of htp, (by rw [e0]; exact atI_nat (j := 0) rfl), len2, fun pl npl => ?_⟩
              have t4 := same_new (o := .lst [.ref tp, .int (numV x0)]) (Same.refl HF) npl
              refine ⟨_, rfl, rfl, .inr ⟨_, rfl, pl, _, _, _, rfl, rfl, SqL.of upd_same, pick2 _ _ _, ?_⟩⟩
              refine q _ _ (((s3.trans sE).trans sA).trans (t3.trans t4)) ?_
              show LAt _ (if decide (V.str (S [Kd.n.sign]) = V.str "n") = true then V.int (numV x0) else V.ref tp) (if numOk z = true then some (.num (numV z)) else none)
              rw [if_pos (by decide +kernel), if_pos (by rw [← al, c3])]
              rw [hzs] at e0
              cases e0
              exact rfl
    | w =>
      cases hc
      refine ⟨_, rfl, rfl, _, rfl, iteBF (by decide +kernel) ?_⟩
      refine ⟨_, rfl, rfl, _, rfl, iteBF (by decide +kernel) ?_⟩
      refine ⟨_, rfl, rfl, _, rfl, iteBF (by decide +kernel) ?_⟩
      refine ⟨_, rfl, rfl, _, rfl, iteBF (by decide +kernel) ?_⟩
      have hrow := (row_eq .w z).1 rfl
      rw [hzs] at hrow
      refine ⟨_, rfl, p, rfl, ⟨_, SqL.of hp⟩, fun D nD => ?_⟩

      refine lc_list (K := K) (a := p) (xs := zs.map fun z => V.str (S z)) (fun j G => Same H2 G ∧ G D = some (.lst (((zs.take j).filter fun z => !numOk z).map fun z => V.str (S z)))) ⟨same_new (Same.refl H2) nD, upd_same⟩ (fun j G _ z => SqL.of (z.1 _ _ hp)) ?_ ?_
      · rintro j v HA hj ⟨sA, hD⟩
        rw [List.getElem?_map] at hj
        cases ex : zs[j]? with
        | none => rw [ex] at hj; cases hj
        | some x =>
          rw [ex] at hj
          cases hj
          have hx := List.mem_of_getElem? ex
          have hjl := (List.getElem?_eq_some_iff.mp ex).1
          refine ⟨rfl, _, rfl, x, rfl, p1 x hx, pa x hx, fun HB sB => ⟨_, rfl, ?_⟩⟩
          have hDB := sB _ _ hD
          cases c : numOk x with
          | true =>
            refine iteF ⟨sA.trans sB, ?_⟩
            rw [List.take_add_one, ex, hDB]
            simp [c]
          | false =>
            refine iteT ⟨_, rfl, _, hDB, ?_, fun b o z => ?_, ?_⟩
            · rw [List.length_map]
              have l2 := List.length_filter_le (fun z => !numOk z) (zs.take j)
              rw [List.length_take] at l2
              exact Nat.lt_of_lt_of_le (show _ < 20000 by omega) (by decide)
            · rw [upd_ne (ne_of_none z nD)]
              exact sB _ _ (sA _ _ z)
            · rw [upd_same, List.take_add_one, ex]
              simp [c]
      · rintro HA ⟨sA, hD⟩
        rw [List.length_map, List.take_length] at hD
        refine ⟨Nat.zero_le _, fun pe npe => ?_⟩
        have sn : Same HA (upd HA pe (.lst [])) := same_new (Same.refl HA) npe
        refine ⟨.list ((zs.filter fun z => !numOk z).map fun z => PyData.str (S z)), .list [], .lst (SqL.of (sn _ _ hD)) (dp_txts _), .lst (SqL.of upd_same) .nil, shaped_strs (fun z hz => pa z (List.mem_filter.mp hz).1), shaped_nil, ?_⟩
        rw [eqv_nil, List.isEmpty_map, all_filter]
        have sE := sA.trans sn
        generalize (upd HA pe (.lst [])) = HE at sE ⊢
        refine ⟨_, rfl, ?_⟩
        cases c3 : zs.all numOk with
        | false => exact iteT (q _ _ (s2.trans sE) (by rw [show rdT Kd.w z = none from (hrow.trans (if_neg (by rw [c3, Bool.false_and]; decide)))]; exact rfl))
        | true =>
          refine iteF ?_
          have hpe := sE _ _ hp
          have lz : ((zs.map fun z => V.str (S z)).length : Int) = zs.length := by rw [List.length_map]
          refine ⟨_, rfl, rfl, _, rfl, iteBF (by decide +kernel) ?_⟩
          refine iteF ?_
          refine ⟨_, rfl, p, _, rfl, .inl (SqL.of hpe), _, 4, rfl, rfl, _, rfl, ?_⟩
          rw [lz]
          by_cases c4 : (4 : Int) < zs.length
          · exact iteDT c4 (q _ _ (s2.trans sE) (by rw [show rdT Kd.w z = none from (hrow.trans (if_neg (by rw [decide_eq_false (p := zs.length ≤ 4) (by omega), Bool.and_false]; decide)))]; exact rfl))
          · refine iteDF c4 ?_
            refine ⟨_, rfl, p, rfl, ⟨_, SqL.of hpe⟩, fun D2 nD2 => ?_⟩
            refine lc_list (K := K) (a := p) (xs := zs.map fun z => V.str (S z)) (fun j G => Same HE G ∧ G D2 = some (.lst ((zs.take j).map fun z => V.int (numV z)))) ⟨same_new (Same.refl HE) nD2, upd_same⟩ (fun j G _ z => SqL.of (z.1 _ _ hpe)) ?_ ?_
            · rintro j v HA hj ⟨sA, hD⟩
              rw [List.getElem?_map] at hj
              cases ex : zs[j]? with
              | none => rw [ex] at hj; cases hj
              | some x =>
                rw [ex] at hj
                cases hj
                have hx := List.mem_of_getElem? ex
                obtain ⟨e1, e2⟩ := num_text (List.all_eq_true.mp c3 x hx)
                refine ⟨rfl, _, rfl, _, numV x, rfl, e1, (by rw [S_len]; exact Nat.le_trans e2 (by decide)), _, hD, ?_, fun b o z => ?_, ?_⟩
                · rw [List.length_map, List.length_take]
                  exact Nat.lt_of_le_of_lt (Nat.min_le_right _ _) (Nat.lt_of_le_of_lt p2 (by decide))
                · rw [upd_ne (ne_of_none z nD2)]
                  exact sA _ _ z
                · rw [upd_same, List.take_add_one, ex, List.map_append]
                  rfl
            · rintro HA ⟨sA, hD⟩
              rw [List.length_map, List.take_length] at hD
              refine ⟨D2, _, rfl, .inl ⟨SqL.of hD, fun tp nt => ?_⟩⟩
              have t3 := same_new (o := .tup (zs.map fun z => V.int (numV z))) (Same.refl HA) nt
              have htp : (upd HA tp (.tup (zs.map fun z => V.int (numV z)))) tp = some (.tup (zs.map fun z => V.int (numV z))) := upd_same
              generalize (upd HA tp (.tup (zs.map fun z => V.int (numV z)))) = HF at t3 htp ⊢
              obtain ⟨x0, r0, e0⟩ : ∃ x r, zs = x :: r := by
                cases hzz : zs with
                | nil => exact absurd hzz p3
                | cons x r => exact ⟨x, r, rfl⟩
              refine ⟨_, rfl, _, rfl, tp, _, 0, .int (numV x0), rfl, rfl, SqT.of htp, (by rw [e0]; exact atI_nat (j := 0) rfl), len2, fun pl npl => ?_⟩
              have t4 := same_new (o := .lst [.ref tp, .int (numV x0)]) (Same.refl HF) npl
              refine ⟨_, rfl, rfl, .inr ⟨_, rfl, pl, _, _, _, rfl, rfl, SqL.of upd_same, pick2 _ _ _, ?_⟩⟩
              refine q _ _ (((s2.trans sE).trans sA).trans (t3.trans t4)) ?_
              show LAt _ (if decide (V.str (S [Kd.w.sign]) = V.str "n") = true then V.int (numV x0) else V.ref tp) _
              rw [if_neg (by decide +kernel), hrow, if_pos (by rw [c3, decide_eq_true (by omega)]; rfl)]
              exact ⟨tp, rfl, by rw [List.map_map]; exact t4 _ _ htp⟩
    | p =>
      cases hc
      refine ⟨_, rfl, rfl, _, rfl, iteBF (by decide +kernel) ?_⟩
      refine ⟨_, rfl, rfl, _, rfl, iteBF (by decide +kernel) ?_⟩
      refine ⟨_, rfl, rfl, _, rfl, iteBF (by decide +kernel) ?_⟩
      refine ⟨_, rfl, rfl, _, rfl, iteBF (by decide +kernel) ?_⟩
      have hrow := (row_eq .p z).2 rfl
      rw [hzs] at hrow
      refine ⟨_, rfl, p, rfl, ⟨_, SqL.of hp⟩, fun D nD => ?_⟩

      refine lc_list (K := K) (a := p) (xs := zs.map fun z => V.str (S z)) (fun j G => Same H2 G ∧ G D = some (.lst (((zs.take j).filter fun z => !numOk z).map fun z => V.str (S z)))) ⟨same_new (Same.refl H2) nD, upd_same⟩ (fun j G _ z => SqL.of (z.1 _ _ hp)) ?_ ?_
      · rintro j v HA hj ⟨sA, hD⟩
        rw [List.getElem?_map] at hj
        cases ex : zs[j]? with
        | none => rw [ex] at hj; cases hj
        | some x =>
          rw [ex] at hj
          cases hj
          have hx := List.mem_of_getElem? ex
          have hjl := (List.getElem?_eq_some_iff.mp ex).1
          refine ⟨rfl, _, rfl, x, rfl, p1 x hx, pa x hx, fun HB sB => ⟨_, rfl, ?_⟩⟩
          have hDB := sB _ _ hD
          cases c : numOk x with
          | true =>
            refine iteF ⟨sA.trans sB, ?_⟩
            rw [List.take_add_one, ex, hDB]
            simp [c]
          | false =>
            refine iteT ⟨_, rfl, _, hDB, ?_, fun b o z => ?_, ?_⟩
            · rw [List.length_map]
              have l2 := List.length_filter_le (fun z => !numOk z) (zs.take j)
              rw [List.length_take] at l2
              exact Nat.lt_of_lt_of_le (show _ < 20000 by omega) (by decide)
            · rw [upd_ne (ne_of_none z nD)]
              exact sB _ _ (sA _ _ z)
            · rw [upd_same, List.take_add_one, ex]
              simp [c]
      · rintro HA ⟨sA, hD⟩
        rw [List.length_map, List.take_length] at hD
        refine ⟨Nat.zero_le _, fun pe npe => ?_⟩
        have sn : Same HA (upd HA pe (.lst [])) := same_new (Same.refl HA) npe
        refine ⟨.list ((zs.filter fun z => !numOk z).map fun z => PyData.str (S z)), .list [], .lst (SqL.of (sn _ _ hD)) (dp_txts _), .lst (SqL.of upd_same) .nil, shaped_strs (fun z hz => pa z (List.mem_filter.mp hz).1), shaped_nil, ?_⟩
        rw [eqv_nil, List.isEmpty_map, all_filter]
        have sE := sA.trans sn
        generalize (upd HA pe (.lst [])) = HE at sE ⊢
        refine ⟨_, rfl, ?_⟩
        cases c3 : zs.all numOk with
        | false => exact iteT (q _ _ (s2.trans sE) (by rw [show rdT Kd.p z = none from (hrow.trans (if_neg (by rw [c3, Bool.false_and]; decide)))]; exact rfl))
        | true =>
          refine iteF ?_
          have hpe := sE _ _ hp
          have lz : ((zs.map fun z => V.str (S z)).length : Int) = zs.length := by rw [List.length_map]
          refine ⟨_, rfl, rfl, _, rfl, iteBT (by decide +kernel) ⟨_, rfl, p, _, rfl, .inl (SqL.of hpe), rfl, _, rfl, ?_⟩⟩
          rw [List.length_map]
          by_cases c5 : zs.length = 2
          · refine iteNSD (by rw [c5]; rfl) ?_
            refine ⟨_, rfl, p, _, rfl, .inl (SqL.of hpe), _, 4, rfl, rfl, _, rfl, ?_⟩
            rw [lz]
            by_cases c4 : (4 : Int) < zs.length
            · exact iteDT c4 (q _ _ (s2.trans sE) (by rw [show rdT Kd.p z = none from (absurd c4 (by omega))]; exact rfl))
            · refine iteDF c4 ?_
              refine ⟨_, rfl, p, rfl, ⟨_, SqL.of hpe⟩, fun D2 nD2 => ?_⟩
              refine lc_list (K := K) (a := p) (xs := zs.map fun z => V.str (S z)) (fun j G => Same HE G ∧ G D2 = some (.lst ((zs.take j).map fun z => V.int (numV z)))) ⟨same_new (Same.refl HE) nD2, upd_same⟩ (fun j G _ z => SqL.of (z.1 _ _ hpe)) ?_ ?_
              · rintro j v HA hj ⟨sA, hD⟩
                rw [List.getElem?_map] at hj
                cases ex : zs[j]? with
                | none => rw [ex] at hj; cases hj
                | some x =>
                  rw [ex] at hj
                  cases hj
                  have hx := List.mem_of_getElem? ex
                  obtain ⟨e1, e2⟩ := num_text (List.all_eq_true.mp c3 x hx)
                  refine ⟨rfl, _, rfl, _, numV x, rfl, e1, (by rw [S_len]; exact Nat.le_trans e2 (by decide)), _, hD, ?_, fun b o z => ?_, ?_⟩
                  · rw [List.length_map, List.length_take]
                    exact Nat.lt_of_le_of_lt (Nat.min_le_right _ _) (Nat.lt_of_le_of_lt p2 (by decide))
                  · rw [upd_ne (ne_of_none z nD2)]
                    exact sA _ _ z
                  · rw [upd_same, List.take_add_one, ex, List.map_append]
                    rfl
              · rintro HA ⟨sA, hD⟩
                rw [List.length_map, List.take_length] at hD
                refine ⟨D2, _, rfl, .inl ⟨SqL.of hD, fun tp nt => ?_⟩⟩
                have t3 := same_new (o := .tup (zs.map fun z => V.int (numV z))) (Same.refl HA) nt
                have htp : (upd HA tp (.tup (zs.map fun z => V.int (numV z)))) tp = some (.tup (zs.map fun z => V.int (numV z))) := upd_same
                generalize (upd HA tp (.tup (zs.map fun z => V.int (numV z)))) = HF at t3 htp ⊢
                obtain ⟨x0, r0, e0⟩ : ∃ x r, zs = x :: r := by
                  cases hzz : zs with
                  | nil => exact absurd hzz p3
                  | cons x r => exact ⟨x, r, rfl⟩
                refine ⟨_, rfl, _, rfl, tp, _, 0, .int (numV x0), rfl, rfl, SqT.of htp, (by rw [e0]; exact atI_nat (j := 0) rfl), len2, fun pl npl => ?_⟩
                have t4 := same_new (o := .lst [.ref tp, .int (numV x0)]) (Same.refl HF) npl
                refine ⟨_, rfl, rfl, .inr ⟨_, rfl, pl, _, _, _, rfl, rfl, SqL.of upd_same, pick2 _ _ _, ?_⟩⟩
                refine q _ _ (((s2.trans sE).trans sA).trans (t3.trans t4)) ?_
                show LAt _ (if decide (V.str (S [Kd.p.sign]) = V.str "n") = true then V.int (numV x0) else V.ref tp) _
                rw [if_neg (by decide +kernel), hrow, if_pos (by rw [c3, decide_eq_true c5]; rfl)]
                exact ⟨tp, rfl, by rw [List.map_map]; exact t4 _ _ htp⟩
          · exact iteND (fun e => c5 (by have e := V.int.inj e; omega)) (q _ _ (s2.trans sE) (by rw [show rdT Kd.p z = none from (hrow.trans (if_neg (by rw [decide_eq_false c5, Bool.and_false]; decide)))]; exact rfl))

open SX
theorem ok_l_due {P : Program} {w : World} {K : PySem.W.Frag} {mg : Str → Option Value} {base : Heap} {a : Nat → Addr} {d : Nat → FuncData} (T : Txt w K mg a d) : FnOk P w K mg base CX0 5 (a 23) (d 23) ["_law_text_here"] (spDueL K) := by
  refine T.F_l_due.ok sc_l_due (fun vs H Q E h => ?_) (fun cdv A outer s0 H vs Q E hr h => ?_)
  · obtain ⟨v, rfl, hv⟩ := h
    rfl
  · obtain ⟨v, rfl, hv⟩ := h
    refine ⟨_, (pss_cons (ps_if (pt_not (pt_truth (pe_callB call_isi (by rfl) T.z_isinstance (by decide +kernel) (pa_cons (pv 0) (pa_cons (pe_bltn (v := .ty "str") (by rfl) T.z_str (by decide +kernel) rfl) pa_nil))) (by intro _; rfl))) (pss_one (ps_ret pe_non)) pss_nil) (pss_cons (ps_set (i := 1) sc_l_due.nd rfl (Or.inl rfl) (pe_split (pv 0) pe_str)) (pss_cons (ps_set (i := 2) sc_l_due.nd rfl (Or.inl rfl) (pe_dget1 (hu_of hr) (pe_call0 (ok_l_kinds T) (hr.mono (by decide)) (by rfl) T.g_l_kinds T.F_l_kinds.kp T.b_l_kinds .nil pass0) (pe_ix ix_list (pv 1) pe_int (fun _ _ => rfl)) ⟨rfl, rfl, rfl, rfl⟩)) (pss_cons (ps_if (PW.pt (pw_or (pt_cmpR op_isN (pv 2) pe_non (nomark _)) (pw_or1 (pt_cmpR op_ne (pe_callB call_len_str (by rfl) T.z_len PySem.boot_len (pa_cons (pv 2) pa_nil)) (pe_op op_sub (pe_callB call_len_seq (by rfl) T.z_len PySem.boot_len (pa_cons (pv 1) pa_nil)) pe_int) (nomark _))))) (pss_one (ps_ret pe_non)) pss_nil) (pss_cons (ps_setLc (i := 3) (own := [("_law_kind", 4), ("_law_word", 5)]) (g := (gTup K 2 (gCons (gName 4) (gCons (gName 5) gNil)))) (te := (tCall spLThing [] E0 (tCons (tVar 4) (tCons (tVar 5) tNil)))) (by rfl) sc_l_due.nd rfl rfl (sw_true rfl rfl rfl (by decide +kernel)) (ZG.pi_zipG (by rfl) T.z_zip (pa_cons (pv 2) (pa_cons (pe_slice sl_list (pv 1) (po_some pe_int) po_none) pa_nil))) (blkOk_by (own := [("_law_kind", 4), ("_law_word", 5)]) (N := ["_law_text_here", "_law_words", "_law_kinds_here", "_law_things_here", "_law_kind", "_law_word"]) (sc := defScope s_l_due) (by decide +kernel)) (fun _ _ _ _ _ => (pg_tup (by rfl) (pgs_cons (pg_name (i := 4) sc_l_due.nd rfl (.inl rfl)) (pgs_cons (pg_name (i := 5) sc_l_due.nd rfl (.inl rfl)) pgs_nil)))) (fun _ _ _ _ _ => pts_nil) (fun _ _ _ _ _ => (pe_call (ok_l_read_thing T) (hr.mono (by decide)) (by rfl) T.g_l_read_thing T.F_l_read_thing.kp T.b_l_read_thing .nil pass0 (pa_cons (pv 4) (pa_cons (pv 5) pa_nil))))) (pss_one (ps_ret (pe_ix ix_list (pe_lst (pa_cons pe_non (pa_cons (pe_callTy call_tuple_of (by rfl) T.z_tuple (by decide +kernel) (pa_cons (pe_op op_cat (pe_slice sl_list (pv 1) po_none (po_some pe_int)) (pv 3)) pa_nil)) pa_nil))) (pe_callTy call_int1 (by rfl) T.z_int (by decide +kernel) (pa_cons (pe_cmpR (NI.op_notInN (hu_of hr)) pe_non (pv 3) (by rfl)) pa_nil)) (fun _ _ => rfl))))))))), ?_⟩
    rcases hv with ⟨z, rfl, hz, hasc, q⟩ | ⟨d', han, hn, q⟩
    · have hz' : z.length ≤ 10000 := hz
      obtain ⟨p1, p2, p3⟩ := spl_sm (c := 32) hz
      have pa := spl_asc (c := 32) hasc
      refine ⟨_, rfl, _, .ty "str", _, .type "str", true, rfl, .ty "str", .base (.str _), kit_ty (by decide +kernel), true, rfl,  iteF ?_⟩
      refine ⟨_, rfl, ⟨_, rfl⟩, _, _, rfl, rfl, rfl, (by show (S z).length + 2 ≤ sizeLine; rw [S_len]; exact Nat.le_trans (show _ ≤ 10002 by omega) (by decide)), fun p np => ?_⟩
      have e : Txt.split (S z) " " = (TL.spl [32] 0 [] z).map S := by
        rw [blank_e]
        exact split_c (by decide) z
      rw [e]
      generalize TL.spl [32] 0 [] z = ws at p1 p2 p3 pa q ⊢
      have em : (ws.map S).map V.str = ws.map fun z => V.str (S z) := by rw [List.map_map]; rfl
      rw [em]
      have s1 := same_new (o := .lst (ws.map fun z => V.str (S z))) (Same.refl H) np
      have hp : (upd H p (.lst (ws.map fun z => V.str (S z)))) p = some (.lst (ws.map fun z => V.str (S z))) := upd_same
      generalize (upd H p (.lst (ws.map fun z => V.str (S z)))) = H1 at s1 hp ⊢
      cases ws with
      | nil => exact absurd rfl p3
      | cons w0 r =>
        have hp : H1 p = some (.lst (V.str (S w0) :: r.map fun z => V.str (S z))) := hp
        refine ⟨rfl, fun pk H2 nk s2 hk => ⟨_, rfl, .inl ⟨KKV, .inl hk⟩, _, rfl, p, _, 0, _, rfl, rfl, SqL.of (s2 _ _ hp), atI_nat (j := 0) rfl, _, .inl ⟨KKV, Sum.inr (S w0), .inl hk, rfl, (kkv_look w0).symm⟩, ?_⟩⟩
        have hp := s2 _ _ hp
        cases hk2 : lookD w0 with
        | none =>
          have hw : rdW (w0 :: r) = none := by simp only [rdW, hk2]
          exact ⟨_, rfl, rfl, _, rfl, iteBT (by decide) (q _ _ (s1.trans s2) (by rw [hw]; exact rfl))⟩
        | some ks =>
          have hmem := look_some hk2
          have k4 : ks.length ≤ 4 := deed_len _ hmem
          have lk : (S (ks.map Kd.sign)).length ≤ sizeLine := by rw [S_len, List.length_map]; exact Nat.le_trans k4 (by decide)
          refine ⟨_, rfl, rfl, _, rfl, iteBF (decide_eq_false fun e => by cases e) ?_⟩
          refine ⟨_, rfl, _, rfl, lk, _, rfl, p, _, rfl, .inl (SqL.of hp), _, 1, rfl, rfl, rfl, _, rfl, ?_⟩
          rw [S_len, List.length_map, List.length_cons, List.length_map]
          by_cases hrl : r.length = ks.length
          · have hw : rdW (w0 :: r) = (allT ks r).map fun ts => (w0, ts) := by simp only [rdW, hk2, if_pos hrl]
            refine iteNSD (by rw [hrl]; congr 1; omega) ?_
            refine ⟨_, rfl, _, rfl, 1, rfl, p, _, rfl, SqL.of hp, fun c nc => ?_⟩
            rw [cut_tail]
            have s3 := same_new (o := .lst (r.map fun z => V.str (S z))) (Same.refl H2) nc
            have hc : (upd H2 c (.lst (r.map fun z => V.str (S z)))) c = some (.lst (r.map fun z => V.str (S z))) := upd_same
            generalize (upd H2 c (.lst (r.map fun z => V.str (S z)))) = H3 at s3 hc ⊢
            refine ⟨.str (S (ks.map Kd.sign)), .lst c, _, r.map fun z => V.str (S z), rfl, rfl, SqL.of hc, fun D nD => ?_⟩
            refine lc_it (ZG.walkG (S := .str (S (ks.map Kd.sign))) (R := .lst c) (xs := ks.map fun k : Kd => V.str (S [k.sign])) (ys := r.map fun z : List Nat => V.str (S z)) (by rw [List.length_map, List.length_map, hrl])) (fun j G => Same H3 G ∧ ∃ vs, G D = some (.lst vs) ∧ LsAt G vs ((List.zipWith rdT ks r).take j)) ⟨same_new (Same.refl H3) nD, [], upd_same, by rw [List.take_zero]; exact .nil⟩ (fun j G _ z => ⟨(signs_map _).symm, SqL.of (z.1 _ _ hc)⟩) ?_ ?_
            · rintro j v HA HB hj ⟨sA, vs, hD, hls⟩ ⟨T0, x, y, rfl, nT, rfl, ex, ey⟩
              rw [List.length_map] at hj
              have ex2 : (ks.map fun k : Kd => V.str (S [k.sign]))[j]? = some x := ex
              have ey2 : (r.map fun z : List Nat => V.str (S z))[j]? = some y := ey
              obtain ⟨z1, ez⟩ : ∃ z, r[j]? = some z := ⟨_, List.getElem?_eq_getElem (by omega)⟩
              obtain ⟨k, ek⟩ : ∃ k, ks[j]? = some k := ⟨_, List.getElem?_eq_getElem (by omega)⟩
              rw [List.getElem?_map, ek] at ex2
              rw [List.getElem?_map, ez] at ey2
              cases ex2
              cases ey2
              have sT : Same HA (upd HA T0 (.tup [V.str (S [k.sign]), V.str (S z1)])) := same_new (Same.refl HA) nT
              have hT : (upd HA T0 (.tup [V.str (S [k.sign]), V.str (S z1)])) T0 = some (.tup [V.str (S [k.sign]), V.str (S z1)]) := upd_same
              generalize (upd HA T0 (.tup [V.str (S [k.sign]), V.str (S z1)])) = HB at sT hT ⊢
              refine ⟨T0, _, rfl, SqT.of hT, rfl, _, _, rfl, _, _, rfl, rfl, rfl, _, rfl, _, rfl, z1, k, rfl, p1 z1 (.tail _ (List.mem_of_getElem? ez)), pa z1 (.tail _ (List.mem_of_getElem? ez)), fun v HC sC hv => ?_⟩
              have kk : ∀ p xs, HC p = some (.tup xs) → (upd HC D (.lst (vs ++ [v]))) p = some (.tup xs) := fun p xs e => by
                rw [upd_ne (ne_of e (sC _ _ (sT _ _ hD)) (by intro q; cases q))]
                exact e
              have ez2 : (List.zipWith rdT ks r)[j]? = some (rdT k z1) := by rw [List.getElem?_zipWith, ek, ez]
              refine ⟨_, sC _ _ (sT _ _ hD), ?_, fun b o w => ?_, vs ++ [v], upd_same, ?_⟩
              · rw [hls.len, List.length_take]
                exact Nat.lt_of_le_of_lt (show _ ≤ 4 by omega) (by decide)
              · rw [upd_ne (ne_of_none w nD)]
                exact sC _ _ (sT _ _ (sA _ _ w))
              · rw [List.take_add_one, ez2]
                exact LsAt.up kk (LsAt.snoc hv (LsAt.up (fun p xs e => sC _ _ (sT _ _ e)) hls))
            · rintro HA ⟨sA, vs, hD, hls⟩
              rw [List.length_map, List.take_of_length_le (by rw [List.length_zipWith]; omega)] at hls
              obtain ⟨t1, t2⟩ := hls.ths hrl.symm
              refine ⟨_, rfl, 1, rfl, p, _, rfl, SqL.of (sA _ _ (s3 _ _ hp)), fun b nb => ?_⟩
              rw [cut_head]
              have s4 := same_new (o := .lst [V.str (S w0)]) (Same.refl HA) nb
              have hb : (upd HA b (.lst [V.str (S w0)])) b = some (.lst [V.str (S w0)]) := upd_same
              have hDb : (upd HA b (.lst [V.str (S w0)])) D = some (.lst vs) := s4 _ _ hD
              generalize (upd HA b (.lst [V.str (S w0)])) = HB at s4 hb hDb ⊢
              refine ⟨_, rfl, b, D, _, _, rfl, rfl, hb, hDb, ?_, fun m nm => ?_⟩
              · rw [hls.len, List.length_zipWith]
                exact Nat.le_trans (show _ ≤ 5 by simp; omega) (by decide)
              have s5 := same_new (o := .lst ([V.str (S w0)] ++ vs)) (Same.refl HB) nm
              have hm : (upd HB m (.lst ([V.str (S w0)] ++ vs))) m = some (.lst ([V.str (S w0)] ++ vs)) := upd_same
              have hDm := s5 _ _ hDb
              generalize (upd HB m (.lst ([V.str (S w0)] ++ vs))) = HM at s5 hm hDm ⊢
              refine ⟨m, _, rfl, .inl ⟨SqL.of hm, fun tp nt => ?_⟩⟩
              have s6 := same_new (o := .tup ([V.str (S w0)] ++ vs)) (Same.refl HM) nt
              have htp : (upd HM tp (.tup ([V.str (S w0)] ++ vs))) tp = some (.tup ([V.str (S w0)] ++ vs)) := upd_same
              have hDt := s6 _ _ hDm
              generalize (upd HM tp (.tup ([V.str (S w0)] ++ vs))) = HT at s6 htp hDt ⊢
              refine ⟨len2, fun pl nl => ?_⟩
              have s7 := same_new (o := .lst [.non, .ref tp]) (Same.refl HT) nl
              have S7 : Same HA (upd HT pl (.lst [.non, .ref tp])) := s4.trans (s5.trans (s6.trans s7))
              have hls7 := LsAt.up (fun p xs e => S7 p _ e) hls
              refine ⟨_, rfl, D, vs, rfl, rfl, SqL.of (s7 _ _ hDt), hls7.it, .inr ⟨_, rfl, pl, _, _, _, rfl, rfl, SqL.of upd_same, pick2 _ _ _, ?_⟩⟩
              refine q _ _ (s1.trans (s2.trans (s3.trans (sA.trans S7)))) ?_
              rw [hls.any, hw]
              cases c : (List.zipWith rdT ks r).any Option.isNone with
              | true =>
                rw [t1 c]
                exact rfl
              | false =>
                obtain ⟨ts, e1, e2⟩ := t2 c
                rw [e1]
                exact ⟨tp, vs, rfl, s7 _ _ htp, ThsAt.up (fun p xs e => S7 p _ e) e2⟩
          · have hw : rdW (w0 :: r) = none := by simp only [rdW, hk2, if_neg hrl]
            refine iteND (fun e => hrl (by
              have e := V.int.inj e
              omega)) (q _ _ (s1.trans s2) (by rw [hw]; exact rfl))
    · obtain ⟨t, ht, hk⟩ := an_str han hn
      exact ⟨_, rfl, v, .ty "str", t, .type "str", false, rfl, .ty "str", ht, hk, false, rfl, iteT (q H (Same.refl H))⟩

open SX
/-! ### what is read is small -/
theorem dv_lt (cs : List Nat) : (∀ c ∈ cs, c ≤ 57) → NumText.digitsVal cs < 10 ^ cs.length := by
  rw [← List.reverse_reverse cs]
  generalize cs.reverse = r
  induction r with
  | nil => intro _; decide
  | cons x r ih =>
    intro h
    rw [List.reverse_cons] at h ⊢
    rw [NumText.digitsVal_snoc, List.length_append, List.length_singleton, Nat.pow_succ]
    have i := ih fun c hc => h c (List.mem_append.mpr (.inl hc))
    have hx := h x (List.mem_append.mpr (.inr (.head _)))
    omega
theorem numV_bn {z : List Nat} (h : numOk z = true) : -1000000000000000000000000000000 ≤ numV z ∧ numV z ≤ 1000000000000000000000000000000 := by
  unfold numOk at h
  simp only [Bool.and_eq_true, decide_eq_true_eq, List.all_eq_true, isDg] at h
  obtain ⟨⟨⟨h1, h2⟩, h3⟩, _⟩ := h
  have b := dv_lt (figs z) fun c hc => (h3 c hc).2
  have m : 10 ^ (figs z).length ≤ 10 ^ 30 := Nat.pow_le_pow_right (by decide) h2
  have e : (10 : Nat) ^ 30 = 1000000000000000000000000000000 := by decide
  rw [e] at m
  unfold numV
  split <;> omega
def Kd.big : Kd → Nat
  | .s => 25000
  | _ => 1000
theorem lf_keys : ∀ {zs : List (List Nat)}, (∀ z ∈ zs, z.length ≤ 6 ∧ Asc z) → PyData.showableAll (zs.map fun z => PyData.str (S z)) = true ∧ PyData.depthAll (zs.map fun z => PyData.str (S z)) = 0 ∧ PyData.leavesShortAll 200 (zs.map fun z => PyData.str (S z)) = true ∧ PyData.weightAll (zs.map fun z => PyData.str (S z)) ≤ 7 * zs.length
  | [], _ => ⟨rfl, rfl, rfl, by decide⟩
  | z :: r, h => by
    obtain ⟨i1, i2, i3, i4⟩ := lf_keys (zs := r) fun x hx => h x (.tail _ hx)
    obtain ⟨h1, h2⟩ := h z (.head _)
    have l := str_leaf (z := S z) (n := 6) ⟨h1, h2⟩ (by decide)
    simp only [lf, Bool.and_eq_true, decide_eq_true_eq] at l
    obtain ⟨⟨⟨⟨a1, a2⟩, a3⟩, _⟩, _⟩ := l
    have a4 : (PyData.str (S z)).weight ≤ 6 := h1
    refine ⟨?_, ?_, ?_, ?_⟩
    · simp only [List.map_cons, PyData.showableAll, a1, i1, Bool.and_self]
    · simp only [List.map_cons, PyData.depthAll, a2, i2, Nat.max_self]
    · simp only [List.map_cons, PyData.leavesShortAll, a3, i3, Bool.and_self]
    · simp only [List.map_cons, PyData.weightAll, List.length_cons]
      omega
theorem rd_shw {k : Kd} {z : List Nat} {t : Th} (h : rdT k z = some t) (hl : z.length ≤ 3500) (ha : Asc z) : t.d.showable = true ∧ t.d.depth ≤ 1 ∧ t.d.leavesShort 200 = true ∧ t.d.weight ≤ k.big := by
  have one : ∀ d, lf d = true → d.showable = true ∧ d.depth ≤ 1 ∧ d.leavesShort 200 = true ∧ d.weight ≤ 1000 := fun d hd => by
    simp only [lf, Bool.and_eq_true, decide_eq_true_eq] at hd
    obtain ⟨⟨⟨⟨a1, a2⟩, a3⟩, a4⟩, a5⟩ := hd
    exact ⟨a1, by omega, a3, by omega⟩
  have many : ∀ ds : List PyData, ds.all lf = true → ds.length ≤ 4 → (PyData.tuple ds).showable = true ∧ (PyData.tuple ds).depth ≤ 1 ∧ (PyData.tuple ds).leavesShort 200 = true ∧ (PyData.tuple ds).weight ≤ 1000 := fun ds hd hl => by
    obtain ⟨a1, a2, a3, a4, _⟩ := lf_all hd
    refine ⟨by simp only [PyData.showable]; exact a1, by simp only [PyData.depth]; omega, by simp only [PyData.leavesShort]; exact a3, ?_⟩
    simp only [PyData.weight]
    omega
  have row : ∀ (lo hi : Nat) (zs : List (List Nat)), hi ≤ 4 → rowOk lo hi zs = true → (Th.row (zs.map numV)).d.showable = true ∧ (Th.row (zs.map numV)).d.depth ≤ 1 ∧ (Th.row (zs.map numV)).d.leavesShort 200 = true ∧ (Th.row (zs.map numV)).d.weight ≤ 1000 := fun lo hi zs h4 h => by
    unfold rowOk at h
    simp only [Bool.and_eq_true, decide_eq_true_eq, List.all_eq_true] at h
    refine many _ (List.all_eq_true.mpr fun d hd => ?_) (by rw [List.length_map, List.length_map]; omega)
    obtain ⟨x, hx, rfl⟩ := List.mem_map.mp hd
    obtain ⟨y, hy, rfl⟩ := List.mem_map.mp hx
    have b := numV_bn (h.2 y hy)
    exact int_leaf2 b.1 b.2
  cases k with
  | n =>
    simp only [rdT] at h
    split at h
    · rename_i c
      cases h
      have b := numV_bn c
      exact one _ (int_leaf2 b.1 b.2)
    · cases h
  | k =>
    simp only [rdT] at h
    split at h
    · rename_i c
      cases h
      unfold keyOk at c
      simp only [Bool.and_eq_true, decide_eq_true_eq] at c
      exact one _ (str_leaf (n := 6) ⟨c.1.2, ha⟩ (by decide))
    · cases h
  | m =>
    simp only [rdT] at h
    split at h
    · rename_i c
      cases h
      rcases c with rfl | rfl
      · exact one _ (str_leaf (n := 6) ⟨by decide, ha⟩ (by decide))
      · exact one _ (str_leaf (n := 6) ⟨by decide, ha⟩ (by decide))
    · cases h
  | w =>
    simp only [rdT] at h
    split at h
    · rename_i c
      cases h
      exact row 1 4 _ (by decide) c
    · cases h
  | p =>
    simp only [rdT] at h
    split at h
    · rename_i c
      cases h
      exact row 2 2 _ (by decide) c
    · cases h
  | s =>
    simp only [rdT] at h
    split at h
    · rename_i c
      cases h
      have c2 := List.all_eq_true.mp c
      obtain ⟨i1, i2, i3, i4⟩ := lf_keys (zs := TL.spl [44] 0 [] z) fun y hy => ⟨by
        have := c2 y hy
        unfold keyOk at this
        simp only [Bool.and_eq_true, decide_eq_true_eq] at this
        exact this.1.2, spl_asc ha y hy⟩
      have l := (spl_len 44 z []).2.1
      show (PyData.tuple ((TL.spl [44] 0 [] z).map fun z => PyData.str (S z))).showable = true ∧ (PyData.tuple ((TL.spl [44] 0 [] z).map fun z => PyData.str (S z))).depth ≤ 1 ∧ (PyData.tuple ((TL.spl [44] 0 [] z).map fun z => PyData.str (S z))).leavesShort 200 = true ∧ (PyData.tuple ((TL.spl [44] 0 [] z).map fun z => PyData.str (S z))).weight ≤ 25000
      refine ⟨by simp only [PyData.showable]; exact i1, by simp only [PyData.depth]; omega, by simp only [PyData.leavesShort]; exact i3, ?_⟩
      simp only [PyData.weight]
      omega
    · cases h
def bigs : List Kd → Nat
  | [] => 0
  | k :: r => k.big + 1 + bigs r
theorem all_shw : ∀ {ks : List Kd} {r : List (List Nat)} {ts : List Th}, allT ks r = some ts → (∀ z ∈ r, z.length ≤ 3500 ∧ Asc z) → PyData.showableAll (ts.map Th.d) = true ∧ PyData.depthAll (ts.map Th.d) ≤ 1 ∧ PyData.leavesShortAll 200 (ts.map Th.d) = true ∧ PyData.weightAll (ts.map Th.d) ≤ bigs ks
  | [], [], ts, h, _ => by
    simp [allT] at h
    subst h
    exact ⟨rfl, by decide, rfl, by decide⟩
  | [], _ :: _, _, h, _ => by simp [allT] at h
  | _ :: _, [], _, h, _ => by simp [allT] at h
  | k :: ks, z :: r, ts, h, hz => by
    simp only [allT] at h
    cases e1 : rdT k z with
    | none => rw [e1] at h; cases h
    | some t0 =>
      cases e2 : allT ks r with
      | none => rw [e1, e2] at h; cases h
      | some ts0 =>
        rw [e1, e2] at h
        cases h
        obtain ⟨b1, b2, b3, b4⟩ := all_shw e2 fun x hx => hz x (.tail _ hx)
        obtain ⟨a1, a2, a3, a4⟩ := rd_shw e1 (hz z (.head _)).1 (hz z (.head _)).2
        refine ⟨?_, ?_, ?_, ?_⟩
        · simp only [List.map_cons, PyData.showableAll, a1, b1, Bool.and_self]
        · simp only [List.map_cons, PyData.depthAll]
          omega
        · simp only [List.map_cons, PyData.leavesShortAll, a3, b3, Bool.and_self]
        · simp only [List.map_cons, PyData.weightAll, bigs]
          omega
theorem bigs_deed : ∀ q ∈ DEEDS, bigs q.2 ≤ 30000 := by
  have h : (DEEDS.all fun q => decide (bigs q.2 ≤ 30000)) = true := by decide +kernel
  exact fun q hq => of_decide_eq_true (List.all_eq_true.mp h q hq)
def dD (w : List Nat) (ts : List Th) : PyData := .tuple (.str (S w) :: ts.map Th.d)
theorem rdW_shw {ws : List (List Nat)} {w : List Nat} {ts : List Th} (h : rdW ws = some (w, ts)) (hz : ∀ z ∈ ws, z.length ≤ 3500 ∧ Asc z) : Shw (dD w ts) := by
  cases ws with
  | nil => cases h
  | cons w0 r =>
    unfold rdW at h
    simp only at h
    split at h
    · cases h
    · rename_i ks hk
      split at h
      · cases e : allT ks r with
        | none => rw [e] at h; cases h
        | some ts0 =>
          rw [e] at h
          simp only [Option.map_some, Option.some.injEq, Prod.mk.injEq] at h
          obtain ⟨rfl, rfl⟩ := h
          obtain ⟨a1, a2, a3, a4⟩ := all_shw e fun x hx => hz x (.tail _ hx)
          have hm := look_some hk
          obtain ⟨f1, f2, f3, f4, f5⟩ := deed_facts _ hm
          have hb : bigs ks ≤ 30000 := bigs_deed _ hm
          have hw : lf (.str (S w0)) = true := str_leaf (n := 8) ⟨f3, (hz w0 (.head _)).2⟩ (by decide)
          simp only [lf, Bool.and_eq_true, decide_eq_true_eq] at hw
          obtain ⟨⟨⟨⟨b1, b2⟩, b3⟩, b4⟩, _⟩ := hw
          have hls : (dD w0 ts0).leavesShort 200 = true := by simp only [dD, PyData.leavesShort, PyData.leavesShortAll, a3, Bool.and_true]; exact b3
          refine ⟨?_, ?_, ?_⟩
          · simp only [dD, PyData.showable, PyData.showableAll, a1, Bool.and_true]
          · simp only [dD, PyData.depth, PyData.depthAll]
            have b2' : (PyData.str (S w0)).depth = 0 := b2
            simp only [PyData.depth] at b2' ⊢
            omega
          · have z := PyData.shown_le 200 (by decide) (dD w0 ts0) hls
            have w : (dD w0 ts0).weight ≤ 40000 := by
              simp only [dD, PyData.weight, PyData.weightAll]
              have b4' : (PyData.str (S w0)).weight ≤ 200 := b4
              simp only [PyData.weight] at b4'
              omega
            rw [sizeLine_eq]
            omega
      · cases h
theorem dD_dp {K : PySem.W.Frag} {H : Hp} {p : Addr} {w : List Nat} {ts : List Th} {vs : List V} (e : H p = some (.tup (.str (S w) :: vs))) (r : ThsAt H vs ts) : Dp K H (.ref p) (dD w ts) := .tup (SqT.of e) (.cons (.str _) r.dp)
/-- isinstance(e, (C, ..)), e a kept exception, the tuple just laid -/
def rIsKT (K : PySem.W.Frag) : List V → Hp → VK → Prop := fun xs H Q => ∃ (x D dd : Addr) (fs : List (Str × V)) (tp : Addr) (cs : List V) (us : List Value) (b : Bool), xs = [.ref x, .ref tp] ∧ ExcC K D ∧ H x = some (ExK (.ref D) (some dd) x) ∧ H dd = some (.xd fs) ∧ H tp = some (.tup cs) ∧ Paired ClsV cs us ∧ PySem.W.kitAny K (.ref D) us = some b ∧ Q (.bl b) H
theorem call_isKT {X : Cx} : CallR X (.builtin "isinstance") (rIsKT X.K) := by
  intro pins s σ H xs us Q I r h
  obtain ⟨x, D, dd, fs, tp, cs, ws, b, rfl, Z, ek, ed, hT, k, e, q⟩ := h
  obtain ⟨oe, vs, there, ⟨zc, zd⟩, fv⟩ := exK_at I.hok ek
  obtain ⟨mA, ns, _⟩ : ∃ mA, s.heap.Ns1 dd mA ∧ ∀ g, RelO (fs.lookup g) (mA g) := I.hok dd _ ed
  obtain ⟨od, look, _⟩ := lookIn_ns ns
  have no : PySem.W.notCls oe = true := by unfold PySem.W.notCls; rw [fv] <;> rfl
  have at_ : PySem.W.InstAt s.heap x oe D (some od) := ⟨there, zc, no, by rw [zd]; exact look⟩
  have hcl : (PySem.W.clsIn X.K D).isSome = true := by
    obtain ⟨cd, hc, _⟩ := PySem.W.any_some Z.hd
    rw [hc]; rfl
  obtain ⟨u1, u2, rfl, r1, r2⟩ := vals2 r
  cases (show u1 = Value.ref x from r1)
  cases (show u2 = Value.ref tp from r2)
  obtain ⟨_, its, rv, o, h1, h2, n, h3⟩ := (show ObjOk X.prog X.w H s.heap tp (.tup cs) from I.hok tp _ hT)
  have e3 := ClsV.all k rv
  subst e3
  obtain ⟨oc, od2, dt, sl⟩ := o
  simp only at h2 h3
  subst h2 h3
  exact PySem.W.kia_tup (PySem.W.kitx_exc hcl Z.hg Z.hk Z.hs Z.ha Z.hn Z.ht Z.hm) I.kIn at_ h1 e (fun z => nomatch z) fun tk => ⟨.bl b, H, I.kept (t' := tk) fun _ _ z => z, rfl, q⟩
def spRight80 (K : PySem.W.Frag) : Sp := fun vs H Q _ => ∃ v, vs = [v] ∧ ((∃ z, v = .str (S z) ∧ z.length ≤ 3500 ∧ Asc z) ∨ (∃ d, An K H v d ∧ notStr d = true)) ∧ ∀ H', Same H H' → Q (.bl true) H'

open SX
/-- bent -/
def spBent : Sp := fun vs H Q _ => ∃ (s : Addr) (x : Str) (n : Nat), vs = [.ref s, .str x] ∧ StAt H s ∧ Sh n x ∧ n ≤ 1700 ∧ ∀ (y : Str) (H' : Hp), Kp s H H' → Sh (2 * n + 60) y → Q (.str y) H'
def SIGNS : Str := Str.ofString "0123456789-,/ abz_+.A\n\t"
theorem sign_at {r : Int} (h0 : 0 ≤ r) (h1 : r < ((Str.ofString "0123456789-,/ abz_+.A\n\t").length : Nat)) : ∃ c, atI (Str.ofString "0123456789-,/ abz_+.A\n\t").cps.toList r = some c ∧ c < 128 := by
  have e : (Str.ofString "0123456789-,/ abz_+.A\n\t").length = 23 := by decide +kernel
  have a : ∀ i : Fin 23, ∃ c, atI (Str.ofString "0123456789-,/ abz_+.A\n\t").cps.toList ((i.val : Nat) : Int) = some c ∧ c < 128 := by
    have h : ((List.finRange 23).all fun i => match atI (Str.ofString "0123456789-,/ abz_+.A\n\t").cps.toList ((i.val : Nat) : Int) with | some c => decide (c < 128) | none => false) = true := by decide +kernel
    intro i
    have z := List.all_eq_true.mp h i (List.mem_finRange i)
    revert z
    cases atI (Str.ofString "0123456789-,/ abz_+.A\n\t").cps.toList ((i.val : Nat) : Int) with
    | none => intro z; cases z
    | some c => exact fun z => ⟨c, rfl, of_decide_eq_true z⟩
  rw [e] at h1
  obtain ⟨m, rfl⟩ := Int.eq_ofNat_of_zero_le h0
  exact a ⟨m, by omega⟩
theorem sh_one {c : Nat} (h : c < 128) : Sh 1 (⟨#[c]⟩ : Str) := ⟨by show (1 : Nat) ≤ 1; decide, fun x hx => by
  have := List.mem_singleton.mp (show x ∈ [c] from hx)
  omega⟩
/-- words with their blanks -/
def tot : List (List Nat) → Nat
  | [] => 0
  | z :: r => z.length + 1 + tot r
theorem tot_app (a b : List (List Nat)) : tot (a ++ b) = tot a + tot b := by
  induction a with
  | nil => simp [tot]
  | cons z r ih => simp only [List.cons_append, tot, ih]; omega
theorem tot_join (c : Nat) : ∀ l : List (List Nat), (TL.joinL [c] l).length ≤ tot l
  | [] => by simp [TL.joinL, tot]
  | [z] => by simp [TL.joinL, tot]
  | z :: y :: r => by
    have i := tot_join c (y :: r)
    have e : TL.joinL [c] (z :: y :: r) = z ++ [c] ++ TL.joinL [c] (y :: r) := by simp [TL.joinL]
    rw [e]
    simp only [List.length_append, List.length_singleton, tot] at *
    omega
theorem tot_spl (c : Nat) : ∀ (z acc : List Nat), tot (TL.spl [c] 0 acc z) ≤ acc.length + z.length + 1 := by
  intro z
  induction z with
  | nil =>
    intro acc
    rw [TL.spl_nil]
    simp [tot]
  | cons y r ih =>
    intro acc
    by_cases h : TL.pre [c] (y :: r) = true
    · rw [TL.spl_hit h]
      have i := ih []
      have e : [c].length - 1 = 0 := rfl
      rw [e]
      simp only [tot, List.length_nil, List.length_cons] at *
      omega
    · have e : TL.spl [c] 0 acc (y :: r) = TL.spl [c] 0 (acc ++ [y]) r := by
        show (if TL.pre [c] (y :: r) = true then acc :: TL.spl [c] ([c].length - 1) [] r else TL.spl [c] 0 (acc ++ [y]) r) = _
        rw [if_neg h]
      rw [e]
      have i := ih (acc ++ [y])
      simp only [List.length_append, List.length_cons, List.length_nil] at *
      omega
theorem asc_join {c : Nat} (hc : c < 128) : ∀ {l : List (List Nat)}, (∀ z ∈ l, Asc z) → Asc (TL.joinL [c] l)
  | [], _ => fun x hx => by simp [TL.joinL] at hx
  | [z], h => by
    have e : TL.joinL [c] [z] = z := by simp [TL.joinL]
    rw [e]
    exact h z (.head _)
  | z :: y :: r, h => by
    have i := asc_join hc (l := y :: r) fun x hx => h x (.tail _ hx)
    have e : TL.joinL [c] (z :: y :: r) = z ++ [c] ++ TL.joinL [c] (y :: r) := by simp [TL.joinL]
    rw [e]
    intro x hx
    rcases List.mem_append.mp hx with hx | hx
    · rcases List.mem_append.mp hx with hx | hx
      · exact h z (.head _) x hx
      · rw [List.mem_singleton.mp hx]
        exact hc
    · exact i x hx
theorem tot_take (n : Nat) (l : List (List Nat)) : tot (l.take n) + tot (l.drop n) = tot l := by
  rw [← tot_app, List.take_append_drop]
theorem tot_drop (n : Nat) (l : List (List Nat)) : tot (l.drop (n + 1)) ≤ tot (l.drop n) := by
  have h := tot_take 1 (l.drop n)
  rw [List.drop_drop] at h
  omega
theorem tot_mem {z : List Nat} : ∀ {l : List (List Nat)}, z ∈ l → z.length + 1 ≤ tot l
  | _ :: _, .head _ => by simp only [tot]; omega
  | y :: r, .tail _ m => by have := tot_mem m; simp only [tot]; omega
theorem cut_toI (xs : List V) {r : Int} (h : 0 ≤ r) : cutV xs none (some r) = xs.take r.toNat := by
  obtain ⟨m, rfl⟩ := Int.eq_ofNat_of_zero_le h
  unfold cutV
  have e1 : HT.sIx xs.length xs.length (some ((m : Nat) : Int)) = min m xs.length := HT.sIx_nat _ _ _
  rw [e1, HT.sIx_none, List.drop_zero, Nat.sub_zero, Int.toNat_natCast]
  rw [← List.take_take, List.take_length]
theorem cut_fromI (xs : List V) {r : Int} (h : 0 ≤ r) : cutV xs (some r) none = xs.drop r.toNat := by
  obtain ⟨m, rfl⟩ := Int.eq_ofNat_of_zero_le h
  unfold cutV
  have e1 : HT.sIx xs.length 0 (some ((m : Nat) : Int)) = min m xs.length := HT.sIx_nat _ _ _
  rw [e1, HT.sIx_none, Int.toNat_natCast]
  rcases Nat.le_total m xs.length with c | c
  · rw [Nat.min_eq_left c, ← List.length_drop, List.take_length]
  · rw [Nat.min_eq_right c, List.drop_length, List.drop_eq_nil_of_le c, List.take_nil]
/-- words joined -/
theorem sh_join {n : Nat} {l : List (List Nat)} (h : ∀ z ∈ l, Asc z) (ht : tot l ≤ n) : Sh n (S (TL.joinL [32] l)) := ⟨Nat.le_trans (tot_join 32 l) ht, asc_join (by decide) h⟩
theorem tot_sum : ∀ l : List (List Nat), ((l.map S).map fun x => x.length).sum + (l.map S).length * 1 = tot l
  | [] => rfl
  | z :: r => by
    have i := tot_sum r
    simp only [List.map_cons, List.sum_cons, List.length_cons, tot, S_len] at *
    omega
theorem at_word {ws : List (List Nat)} {m : Nat} (h : m < ws.length) : ∃ w, w ∈ ws ∧ atI (ws.map fun z => V.str (S z)) ((m : Nat) : Int) = some (V.str (S w)) := by
  refine ⟨ws[m], List.getElem_mem h, ?_⟩
  refine atI_nat ?_
  rw [List.getElem?_map, List.getElem?_eq_getElem h]
  rfl
theorem asc_app {a b : List (List Nat)} (h1 : ∀ z ∈ a, Asc z) (h2 : ∀ z ∈ b, Asc z) : ∀ z ∈ a ++ b, Asc z := fun z hz => (List.mem_append.mp hz).elim (h1 z) (h2 z)
theorem asc_tk {a : List (List Nat)} (m : Nat) (h1 : ∀ z ∈ a, Asc z) : ∀ z ∈ a.take m, Asc z := fun z hz => h1 z (List.mem_of_mem_take hz)
theorem asc_dr {a : List (List Nat)} (m : Nat) (h1 : ∀ z ∈ a, Asc z) : ∀ z ∈ a.drop m, Asc z := fun z hz => h1 z (List.mem_of_mem_drop hz)
theorem asc_1 {w : List Nat} (h1 : Asc w) : ∀ z ∈ [w], Asc z := fun z hz => by rw [List.mem_singleton.mp hz]; exact h1
def ODD : List (List Nat) := [[], [48], [97], [49, 44, 50], [49, 47, 50], [119, 114, 105, 116, 101], [45, 48], [97, 44, 98]]
theorem odd_at {r : Int} (h0 : 0 ≤ r) (h1 : r < 8) : ∃ w, Asc w ∧ w.length ≤ 5 ∧ atI [V.str (Str.ofString ""), V.str (Str.ofString "0"), V.str (Str.ofString "a"), V.str (Str.ofString "1,2"), V.str (Str.ofString "1/2"), V.str (Str.ofString "write"), V.str (Str.ofString "-0"), V.str (Str.ofString "a,b")] r = some (V.str (S w)) := by
  have e : [V.str (Str.ofString ""), V.str (Str.ofString "0"), V.str (Str.ofString "a"), V.str (Str.ofString "1,2"), V.str (Str.ofString "1/2"), V.str (Str.ofString "write"), V.str (Str.ofString "-0"), V.str (Str.ofString "a,b")] = ODD.map fun z => V.str (S z) := by
    have f : ODD.map S = [Str.ofString "", Str.ofString "0", Str.ofString "a", Str.ofString "1,2", Str.ofString "1/2", Str.ofString "write", Str.ofString "-0", Str.ofString "a,b"] := by decide +kernel
    have g := congrArg (List.map V.str) f
    rw [List.map_map] at g
    exact g.symm
  rw [e]
  obtain ⟨m, rfl⟩ := Int.eq_ofNat_of_zero_le h0
  have hm : m < ODD.length := by show m < 8; omega
  obtain ⟨w, hw, ha⟩ := at_word hm
  have q : ∀ w ∈ ODD, Asc w ∧ w.length ≤ 5 := by unfold Asc; decide +kernel
  exact ⟨w, (q w hw).1, (q w hw).2, ha⟩

open SX
theorem ok_right {P : Program} {w : World} {K : PySem.W.Frag} {mg : Str → Option Value} {base : Heap} {a : Nat → Addr} {d : Nat → FuncData} (T : Txt w K mg a d) : FnG P w K mg base 10 (a 24) (d 24) ["_law_text_here"] (spRight80 K) := by
  refine fnG_mk T.F_l_right sc_l_right (fun vs H Q E h => ?_) (fun cdv A outer s0 H vs Q E gd hr h => ?_)
  · obtain ⟨v, rfl, _⟩ := h
    rfl
  · obtain ⟨v, rfl, hv, q⟩ := h
    have hu66 := room66 hr
    refine ⟨_, (pss_cons (ps_set (i := 1) sc_l_right.nd rfl (Or.inl rfl) pe_non) (pss_cons (ps_set (i := 2) sc_l_right.nd rfl (Or.inl rfl) pe_non) (pss_cons (ps_tryK (tb := fun W => tAsg (tCallS (spDeedX K (a 101)) (WE W) (tCons (tVar 0) tNil)) (gName 2)) rfl rfl sc_l_right.nd takes0 (HK.named (i := 3) (ts := (fun _ _ _ => tAsg (tVar 3) (gName 1))) ⟨rfl, by decide, .inl T.gE_WaitError⟩ rfl rfl (fun _ _ _ _ => (pss_one (ps_asg (pv 3) (pg_name (i := 1) sc_l_right.nd rfl (.inl rfl))))) HK.nil) (W := fun _ _ _ _ => False) (fun W pn xe tk _ => (pss_one (ps_set (i := 2) sc_l_right.nd rfl (Or.inl rfl) (pe_callS (ok_read_deed T) (hr.mono (by decide)) (by rfl) T.g_read_deed T.F_read_deed.kp T.b_read_deed (fun σ => passAt tk σ) (pa_cons (pv 0) pa_nil)))))) (pss_cons (ps_set (i := 4) sc_l_right.nd rfl (Or.inl rfl) (pe_call (ok_l_due T) (hr.mono (by decide)) (by rfl) T.g_l_due T.F_l_due.kp T.b_l_due .nil pass0 (pa_cons (pv 0) pa_nil))) (pss_cons (ps_if (pt_cmpR op_notN (pv 4) pe_non (nomark _)) (pss_one (ps_ret (pe_and (pe_cmpR op_isN (pv 1) pe_non (nomark _)) (pe_one (pe_cmpR op_eq (pe_callB (call_reprA gd (room66 hr)) (by rfl) T.z_repr (by decide +kernel) (pa_cons (pv 2) pa_nil)) (pe_callB (call_reprA gd (room66 hr)) (by rfl) T.z_repr (by decide +kernel) (pa_cons (pv 4) pa_nil)) (nomark _)))))) pss_nil) (pss_one (ps_ret (pe_and (pe_callB call_isK (by rfl) T.z_isinstance (by decide +kernel) (pa_cons (pv 1) (pa_cons (pe_glob (v := .ref (a 101)) (by rfl) T.gE_NoText rfl) pa_nil))) (pe_and (pe_not (pe_callB call_isKT (by rfl) T.z_isinstance (by decide +kernel) (pa_cons (pv 1) (pa_cons (pe_tup (pa_cons (pe_glob (v := .ref (a 102)) (by rfl) T.gE_NoDeed rfl) (pa_cons (pe_glob (v := .ref (a 103)) (by rfl) T.gE_NoRow rfl) pa_nil))) pa_nil)))) (pe_one (pe_cmpR op_eq (pe_callB (call_reprA gd (room66 hr)) (by rfl) T.z_repr (by decide +kernel) (pa_cons (pe_xk (C := (a 101)) T.xf_NoText T.ne_NoText_row (pv 1) rfl) pa_nil)) pe_str (nomark _)))))))))))), ?_⟩
    rcases hv with ⟨z, rfl, hl, ha⟩ | ⟨d', an, ns⟩
    · have hsm : SM z := Nat.le_trans hl (by decide)
      have hw : ∀ x ∈ TL.spl [32] 0 [] z, x.length ≤ 3500 ∧ Asc x := fun x hx => ⟨Nat.le_trans ((spl_len 32 z []).1 x hx) (by simp only [List.length_nil]; omega), spl_asc ha x hx⟩
      cases c : rdW (TL.spl [32] 0 [] z) with
      | none =>
        refine ⟨_, rfl, .str (S z), rfl, .inl ⟨z, rfl, hsm, And.intro (fun w ts e => by rw [c] at e; cases e) (fun _ dd H' s' hdd => ?_)⟩⟩
        refine ⟨true, T.ex_NoText_WaitError, fun _ e' ne' => ?_, fun z => by cases z⟩
        have ned : dd ≠ e' := ne_of_none hdd ne'
        have hd2 : (upd H' e' (ExK (.ref (a 101)) (some dd) e')) dd = some (.xd [("row", .int 0)]) := by rw [upd_ne ned]; exact hdd
        have he2 : (upd H' e' (ExK (.ref (a 101)) (some dd) e')) e' = some (ExK (.ref (a 101)) (some dd) e') := upd_same
        have sE : Same H (upd H' e' (ExK (.ref (a 101)) (some dd) e')) := s'.trans (same_new (Same.refl H') ne')
        generalize (upd H' e' (ExK (.ref (a 101)) (some dd) e')) = G0 at hd2 he2 sE ⊢
        refine ⟨_, rfl, ?_⟩
        refine ⟨_, rfl, .str (S z), rfl, .inl ⟨z, rfl, hsm, ha, fun u G1 s1 hu => ?_⟩⟩
        rw [c] at hu
        cases (show u = .non from hu)
        refine ⟨_, rfl, rfl, _, rfl, iteNSD rfl ?_⟩
        have hd3 := s1 _ _ hd2
        have he3 := s1 _ _ he2
        refine ⟨_, rfl, e', (a 101), dd, _, _, _, true, rfl, T.xc_NoText, he3, hd3, (fun u r => by first | exact r | (cases r; rfl)), T.ki_NoText_NoText, _, rfl, iteT ?_⟩
        refine ⟨_, rfl, len2, fun tp nt => ?_⟩
        have sT : Same G1 (upd G1 tp (.tup [.ref (a 102), .ref (a 103)])) := same_new (Same.refl G1) nt
        have hT : (upd G1 tp (.tup [.ref (a 102), .ref (a 103)])) tp = some (.tup [.ref (a 102), .ref (a 103)]) := upd_same
        generalize (upd G1 tp (.tup [.ref (a 102), .ref (a 103)])) = G2 at sT hT ⊢
        refine ⟨e', (a 101), dd, _, tp, _, _, false, rfl, T.xc_NoText, sT _ _ he3, sT _ _ hd3, hT, .cons (.own _) (.cons (.own _) .nil), kitAny_cons T.ki_NoText_NoDeed (fun _ => kitAny_cons T.ki_NoText_NoRow (fun _ => kitAny_nil) (by intro z; cases z)) (by intro z; cases z), ?_⟩
        refine ⟨false, rfl, true, rfl, iteT ?_⟩
        refine ⟨_, rfl, e', dd, _, _, rfl, sT _ _ he3, sT _ _ hd3, xd_one _ _, .int 0, .int 0, rfl, .dp (.int 0), rfl, by decide, by decide +kernel, rfl, ?_⟩
        have e0 : (PyData.int 0).shown = Str.ofString "0" := by decide +kernel
        rw [e0]
        have hq := q _ (sE.trans (s1.trans sT))
        have e1 : true = decide (V.str (Str.ofString "0") = V.str (Str.ofString "0")) := (decide_eq_true rfl).symm
        rw [e1] at hq
        exact hq
      | some wt =>
        obtain ⟨w, ts⟩ := wt
        have sw := rdW_shw c hw
        refine ⟨_, rfl, .str (S z), rfl, .inl ⟨z, rfl, hsm, And.intro (fun w' ts' e p vs H' s' hp ht => ?_) (fun e => by rw [c] at e; cases e)⟩⟩
        rw [c] at e
        cases e
        refine ⟨_, rfl, .str (S z), rfl, .inl ⟨z, rfl, hsm, ha, fun u G1 s1 hu => ?_⟩⟩
        rw [c] at hu
        obtain ⟨p2, vs2, rfl, hp2, ht2⟩ := hu
        refine ⟨_, rfl, rfl, _, rfl, iteND (by intro z; cases z) ?_⟩
        refine ⟨_, rfl, rfl, _, rfl, iteDT rfl ?_⟩
        have hp1 := s1 _ _ hp
        have ht1 := ht.up fun p xs e => s1 p _ e
        refine ⟨_, rfl, .ref p, dD w ts, rfl, .dp (dD_dp hp1 ht1), sw.sh, sw.dp, sw.sz, _, rfl, .ref p2, dD w ts, rfl, .dp (dD_dp hp2 ht2), sw.sh, sw.dp, sw.sz, rfl, ?_⟩
        exact bq (by rw [decide_eq_true rfl]) (q G1 (s'.trans s1))
    · refine ⟨_, rfl, v, rfl, .inr ⟨d', an, ns, fun dd H' s' hdd => ?_⟩⟩
      refine ⟨true, T.ex_NoText_WaitError, fun _ e' ne' => ?_, fun z => by cases z⟩
      have ned : dd ≠ e' := ne_of_none hdd ne'
      have hd2 : (upd H' e' (ExK (.ref (a 101)) (some dd) e')) dd = some (.xd [("row", .int 0)]) := by rw [upd_ne ned]; exact hdd
      have he2 : (upd H' e' (ExK (.ref (a 101)) (some dd) e')) e' = some (ExK (.ref (a 101)) (some dd) e') := upd_same
      have sE : Same H (upd H' e' (ExK (.ref (a 101)) (some dd) e')) := s'.trans (same_new (Same.refl H') ne')
      generalize (upd H' e' (ExK (.ref (a 101)) (some dd) e')) = G0 at hd2 he2 sE ⊢
      refine ⟨_, rfl, ?_⟩
      refine ⟨_, rfl, v, rfl, .inr ⟨d', an.up sE, ns, fun G1 s1 => ?_⟩⟩
      refine ⟨_, rfl, rfl, _, rfl, iteNSD rfl ?_⟩
      have hd3 := s1 _ _ hd2
      have he3 := s1 _ _ he2
      refine ⟨_, rfl, e', (a 101), dd, _, _, _, true, rfl, T.xc_NoText, he3, hd3, (fun u r => by first | exact r | (cases r; rfl)), T.ki_NoText_NoText, _, rfl, iteT ?_⟩
      refine ⟨_, rfl, len2, fun tp nt => ?_⟩
      have sT : Same G1 (upd G1 tp (.tup [.ref (a 102), .ref (a 103)])) := same_new (Same.refl G1) nt
      have hT : (upd G1 tp (.tup [.ref (a 102), .ref (a 103)])) tp = some (.tup [.ref (a 102), .ref (a 103)]) := upd_same
      generalize (upd G1 tp (.tup [.ref (a 102), .ref (a 103)])) = G2 at sT hT ⊢
      refine ⟨e', (a 101), dd, _, tp, _, _, false, rfl, T.xc_NoText, sT _ _ he3, sT _ _ hd3, hT, .cons (.own _) (.cons (.own _) .nil), kitAny_cons T.ki_NoText_NoDeed (fun _ => kitAny_cons T.ki_NoText_NoRow (fun _ => kitAny_nil) (by intro z; cases z)) (by intro z; cases z), ?_⟩
      refine ⟨false, rfl, true, rfl, iteT ?_⟩
      refine ⟨_, rfl, e', dd, _, _, rfl, sT _ _ he3, sT _ _ hd3, xd_one _ _, .int 0, .int 0, rfl, .dp (.int 0), rfl, by decide, by decide +kernel, rfl, ?_⟩
      have e0 : (PyData.int 0).shown = Str.ofString "0" := by decide +kernel
      rw [e0]
      have hq := q _ (sE.trans (s1.trans sT))
      have e1 : true = decide (V.str (Str.ofString "0") = V.str (Str.ofString "0")) := (decide_eq_true rfl).symm
      rw [e1] at hq
      exact hq

open SX
theorem ok_l_bent {P : Program} {w : World} {K : PySem.W.Frag} {mg : Str → Option Value} {base : Heap} {a : Nat → Addr} {d : Nat → FuncData} (T : Txt w K mg a d) : FnOk P w K mg base CX0 8 (a 25) (d 25) ["_law_state", "_law_text_here"] spBent := by
  refine T.F_l_bent.ok sc_l_bent (fun vs H Q E h => ?_) (fun cdv A outer s0 H vs Q E hr h => ?_)
  · obtain ⟨s, x, n, rfl, hs, hx, hn, q⟩ := h
    rfl
  · obtain ⟨s, x, n, rfl, hs, hx, hn, q⟩ := h
    refine ⟨_, (pss_cons (ps_set (i := 2) sc_l_bent.nd rfl (Or.inl rfl) pe_str) (pss_cons (ps_set (i := 3) sc_l_bent.nd rfl (Or.inl rfl) (pe_call (ok_l_take T) (hr.mono (by decide)) (by rfl) T.g_l_take T.F_l_take.kp T.b_l_take .nil pass0 (pa_cons (pv 0) (pa_cons (pe_op op_add (pe_callB call_len_str (by rfl) T.z_len PySem.boot_len (pa_cons (pv 1) pa_nil)) pe_int) pa_nil)))) (pss_cons (ps_set (i := 4) sc_l_bent.nd rfl (Or.inl rfl) (pe_ix ix_str (pv 2) (pe_call (ok_l_take T) (hr.mono (by decide)) (by rfl) T.g_l_take T.F_l_take.kp T.b_l_take .nil pass0 (pa_cons (pv 0) (pa_cons (pe_callB call_len_str (by rfl) T.z_len PySem.boot_len (pa_cons (pv 2) pa_nil)) pa_nil))) (fun _ _ => rfl))) (pss_cons (ps_set (i := 5) sc_l_bent.nd rfl (Or.inl rfl) (pe_call (ok_l_take T) (hr.mono (by decide)) (by rfl) T.g_l_take T.F_l_take.kp T.b_l_take .nil pass0 (pa_cons (pv 0) (pa_cons pe_int pa_nil)))) (pss_cons (ps_if (pt_cmpR op_lt (pv 5) pe_int (nomark _)) (pss_one (ps_ret (pe_ix ix_list (pe_lst (pa_cons (pe_op op_add_str (pe_op op_add_str (pe_slice sl_str (pv 1) po_none (po_some (pv 3))) (pv 4)) (pe_slice sl_str (pv 1) (po_some (pv 3)) po_none)) (pa_cons (pe_op op_add_str (pe_op op_add_str (pe_slice sl_str (pv 1) po_none (po_some (pv 3))) (pv 4)) (pe_slice sl_str (pv 1) (po_some (pe_op op_add (pv 3) pe_int)) po_none)) (pa_cons (pe_op op_add_str (pe_slice sl_str (pv 1) po_none (po_some (pv 3))) (pe_slice sl_str (pv 1) (po_some (pe_op op_add (pv 3) pe_int)) po_none)) pa_nil)))) (pv 5) (fun _ _ => rfl)))) pss_nil) (pss_cons (ps_set (i := 6) sc_l_bent.nd rfl (Or.inl rfl) (pe_split (pv 1) pe_str)) (pss_cons (ps_set (i := 3) sc_l_bent.nd rfl (Or.inl rfl) (pe_call (ok_l_take T) (hr.mono (by decide)) (by rfl) T.g_l_take T.F_l_take.kp T.b_l_take .nil pass0 (pa_cons (pv 0) (pa_cons (pe_callB call_len_seq (by rfl) T.z_len PySem.boot_len (pa_cons (pv 6) pa_nil)) pa_nil)))) (pss_cons (ps_if (pt_cmpR op_eq (pv 5) pe_int (nomark _)) (pss_one (ps_ret (pe_join pe_str (pe_op op_cat (pe_slice sl_list (pv 6) po_none (po_some (pv 3))) (pe_slice sl_list (pv 6) (po_some (pe_op op_add (pv 3) pe_int)) po_none))))) pss_nil) (pss_cons (ps_if (pt_cmpR op_eq (pv 5) pe_int (nomark _)) (pss_one (ps_ret (pe_join pe_str (pe_op op_cat (pe_op op_cat (pe_slice sl_list (pv 6) po_none (po_some (pv 3))) (pe_lst (pa_cons (pe_ix ix_list (pv 6) (pv 3) (fun _ _ => rfl)) pa_nil))) (pe_slice sl_list (pv 6) (po_some (pv 3)) po_none))))) pss_nil) (pss_cons (ps_set (i := 7) sc_l_bent.nd rfl (Or.inl rfl) (pe_lst (pa_cons pe_str (pa_cons pe_str (pa_cons pe_str (pa_cons pe_str (pa_cons pe_str (pa_cons pe_str (pa_cons pe_str (pa_cons pe_str pa_nil)))))))))) (pss_one (ps_ret (pe_join pe_str (pe_op op_cat (pe_op op_cat (pe_slice sl_list (pv 6) po_none (po_some (pv 3))) (pe_lst (pa_cons (pe_ix ix_list (pv 7) (pe_call (ok_l_take T) (hr.mono (by decide)) (by rfl) T.g_l_take T.F_l_take.kp T.b_l_take .nil pass0 (pa_cons (pv 0) (pa_cons pe_int pa_nil))) (fun _ _ => rfl)) pa_nil))) (pe_slice sl_list (pv 6) (po_some (pe_op op_add (pv 3) pe_int)) po_none))))))))))))))), ?_⟩
    have lx : x.length ≤ sizeLine := Nat.le_trans hx.len (Nat.le_trans hn (by decide))
    refine ⟨_, rfl, _, rfl, x, rfl, lx, _, _, rfl, rfl, s, _, rfl, hs, ?_, ?_, fun r1 H1 r10 r11 k1 => ?_⟩
    · omega
    · have := Nat.le_trans hx.len hn
      omega
    refine ⟨_, rfl, _, rfl, _, rfl, _, rfl, (by decide +kernel), s, _, rfl, k1.2, ?_, ?_, fun r2 H2 r20 r21 k2 => ?_⟩
    · decide +kernel
    · decide +kernel
    obtain ⟨c, hc, hc2⟩ := sign_at r20 r21
    refine ⟨_, r2, c, rfl, rfl, (by decide +kernel), hc, ?_⟩
    refine ⟨_, rfl, s, 6, rfl, k2.2, (by decide), (by decide), fun r3 H3 r30 r31 k3 => ?_⟩
    have K3 := (k1.trans k2).trans k3
    obtain ⟨z, rfl⟩ : ∃ z, x = S z := ⟨_, (S_tl x).symm⟩
    have fit : ∀ {y z : Str} {m k : Nat}, Sh m y → Sh k z → m + k ≤ 6000 → y.length + z.length ≤ sizeLine := fun h1 h2 l => Nat.le_trans (Nat.add_le_add h1.len h2.len) (Nat.le_trans l (by decide))
    have hA := hx.cut none (some r1)
    have hB := hx.cut (some r1) none
    have hB1 := hx.cut (some (r1 + 1)) none
    have hZ := sh_one hc2
    refine ⟨_, rfl, _, _, rfl, rfl, _, rfl, ?_⟩
    by_cases c3 : r3 < 3
    · refine iteDT c3 ?_
      refine ⟨_, rfl, _, rfl, _, rfl, _, rfl, lx, _, rfl, _, _, rfl, rfl, fit hA hZ (by omega), ?_⟩
      refine ⟨_, rfl, _, rfl, _, rfl, _, rfl, lx, _, _, rfl, rfl, fit (hA.app hZ) hB (by omega), ?_⟩
      refine ⟨_, rfl, _, rfl, _, rfl, _, rfl, lx, _, rfl, _, _, rfl, rfl, fit hA hZ (by omega), ?_⟩
      refine ⟨_, rfl, _, rfl, _, _, rfl, rfl, _, rfl, _, rfl, lx, _, _, rfl, rfl, fit (hA.app hZ) hB1 (by omega), ?_⟩
      refine ⟨_, rfl, _, rfl, _, rfl, _, rfl, lx, ?_⟩
      refine ⟨_, rfl, _, rfl, _, _, rfl, rfl, _, rfl, _, rfl, lx, _, _, rfl, rfl, fit hA hB1 (by omega), ?_⟩
      refine ⟨len3, fun p np => ?_⟩
      have kN := fun o => K3.new (o := o) np
      have r3c : r3 = 0 ∨ r3 = 1 ∨ r3 = 2 := by omega
      rcases r3c with rfl | rfl | rfl
      · exact ⟨_, rfl, p, _, 0, _, rfl, rfl, SqL.of upd_same, rfl, q _ _ (kN _) (((hA.app hZ).app hB).up (by omega))⟩
      · exact ⟨_, rfl, p, _, 1, _, rfl, rfl, SqL.of upd_same, rfl, q _ _ (kN _) (((hA.app hZ).app hB1).up (by omega))⟩
      · exact ⟨_, rfl, p, _, 2, _, rfl, rfl, SqL.of upd_same, rfl, q _ _ (kN _) ((hA.app hB1).up (by omega))⟩
    · refine iteDF c3 ?_
      obtain ⟨p1, p2, p3⟩ := spl_sm (c := 32) (Nat.le_trans (Nat.le_trans hx.ln hn) (by decide) : SM z)
      have pa := spl_asc (c := 32) (show Asc z from hx.as)
      have pt := tot_spl 32 z []
      refine ⟨_, rfl, ⟨_, rfl⟩, _, _, rfl, rfl, rfl, (by show (S z).length + 2 ≤ sizeLine; exact Nat.le_trans (Nat.add_le_add_right (Nat.le_trans hx.len hn) 2) (by decide)), fun p np => ?_⟩
      have e : Txt.split (S z) " " = (TL.spl [32] 0 [] z).map S := by
        rw [blank_e]
        exact split_c (by decide) z
      rw [e]
      have hz' : z.length ≤ n := hx.ln
      generalize TL.spl [32] 0 [] z = ws at p1 p2 p3 pa pt ⊢
      have em : (ws.map S).map V.str = ws.map fun z => V.str (S z) := by rw [List.map_map]; rfl
      rw [em]
      have hlw : 0 < ws.length := List.length_pos_iff.mpr p3
      have nps := K3.2.ne_new np
      have kP : Kp s H (upd H3 p (.lst (ws.map fun z => V.str (S z)))) := K3.new np
      have hp : (upd H3 p (.lst (ws.map fun z => V.str (S z)))) p = some (.lst (ws.map fun z => V.str (S z))) := upd_same
      generalize (upd H3 p (.lst (ws.map fun z => V.str (S z)))) = H4 at kP hp ⊢
      refine ⟨_, rfl, _, rfl, p, _, rfl, .inl (SqL.of hp), s, _, rfl, kP.2, ?_, ?_, fun r4 H5 r40 r41 k4 => ?_⟩
      · rw [List.length_map]; omega
      · rw [List.length_map]; omega
      rw [List.length_map] at r41
      have K5 := kP.trans k4
      have hp5 := k4.1 p _ nps hp
      have pt2 : tot ws ≤ n + 1 := by simp only [List.length_nil] at pt; omega
      obtain ⟨m, rfl⟩ := Int.eq_ofNat_of_zero_le r40
      have ct : cutV (ws.map fun z => V.str (S z)) none (some ((m : Nat) : Int)) = (ws.take m).map fun z => V.str (S z) := by rw [cut_toI _ r40, ← List.map_take, Int.toNat_natCast]
      have cf : cutV (ws.map fun z => V.str (S z)) (some ((m : Nat) : Int)) none = (ws.drop m).map fun z => V.str (S z) := by rw [cut_fromI _ r40, ← List.map_drop, Int.toNat_natCast]
      have cg : cutV (ws.map fun z => V.str (S z)) (some (((m : Nat) : Int) + 1)) none = (ws.drop (m + 1)).map fun z => V.str (S z) := by rw [cut_fromI _ (by omega), ← List.map_drop]; rfl
      have tt := tot_take m ws
      have td := tot_drop m ws
      refine ⟨_, rfl, rfl, _, rfl, ?_⟩
      by_cases c4 : r3 = 3
      · subst c4
        refine iteDT rfl ?_
        refine ⟨⟨_, rfl⟩, _, rfl, _, rfl, _, rfl, p, _, rfl, SqL.of hp5, fun a1 n1 => ?_⟩
        rw [ct]
        have s6 : Same H5 (upd H5 a1 (.lst ((ws.take m).map fun z => V.str (S z)))) := same_new (Same.refl H5) n1
        have K6 : Kp s H (upd H5 a1 (.lst ((ws.take m).map fun z => V.str (S z)))) := K5.new n1
        have ha1 : (upd H5 a1 (.lst ((ws.take m).map fun z => V.str (S z)))) a1 = some (.lst ((ws.take m).map fun z => V.str (S z))) := upd_same
        have hp5 := s6 _ _ hp5
        generalize (upd H5 a1 (.lst ((ws.take m).map fun z => V.str (S z)))) = H6 at s6 K6 ha1 hp5 ⊢
        refine ⟨_, rfl, _, rfl, _, _, rfl, rfl, _, rfl, p, _, rfl, SqL.of hp5, fun a2 n2 => ?_⟩
        rw [cg]
        have s7 : Same H6 (upd H6 a2 (.lst ((ws.drop (m + 1)).map fun z => V.str (S z)))) := same_new (Same.refl H6) n2
        have K7 : Kp s H (upd H6 a2 (.lst ((ws.drop (m + 1)).map fun z => V.str (S z)))) := K6.new n2
        have ha2 : (upd H6 a2 (.lst ((ws.drop (m + 1)).map fun z => V.str (S z)))) a2 = some (.lst ((ws.drop (m + 1)).map fun z => V.str (S z))) := upd_same
        have ha1 := s7 _ _ ha1
        generalize (upd H6 a2 (.lst ((ws.drop (m + 1)).map fun z => V.str (S z)))) = H7 at s7 K7 ha2 ha1 ⊢
        refine ⟨a1, a2, _, _, rfl, rfl, ha1, ha2, (by simp only [List.length_append, List.length_map, List.length_take, List.length_drop, List.length_cons, List.length_nil]; exact Nat.le_trans (show _ ≤ 20100 by omega) (by decide)), fun a3 n3 => ?_⟩
        rw [← List.map_append]
        have s8 : Same H7 (upd H7 a3 (.lst ((ws.take m ++ ws.drop (m + 1)).map fun z => V.str (S z)))) := same_new (Same.refl H7) n3
        have K8 : Kp s H (upd H7 a3 (.lst ((ws.take m ++ ws.drop (m + 1)).map fun z => V.str (S z)))) := K7.new n3
        have ha3 : (upd H7 a3 (.lst ((ws.take m ++ ws.drop (m + 1)).map fun z => V.str (S z)))) a3 = some (.lst ((ws.take m ++ ws.drop (m + 1)).map fun z => V.str (S z))) := upd_same
        generalize (upd H7 a3 (.lst ((ws.take m ++ ws.drop (m + 1)).map fun z => V.str (S z)))) = H8 at s8 K8 ha3  ⊢
        have tl : tot (ws.take m ++ ws.drop (m + 1)) ≤ 2 * n + 60 := by rw [tot_app]; omega
        refine ⟨_, a3, (ws.take m ++ ws.drop (m + 1)).map S, rfl, rfl, .inl ?_, ?_, ?_⟩
        · rw [List.map_map]; exact SqL.of ha3
        · have ts := tot_sum (ws.take m ++ ws.drop (m + 1))
          show _ + _ * 1 ≤ _
          rw [ts]; omega
        · rw [blank_e, join_S]
          exact q _ _ K8 (sh_join (asc_app (asc_tk _ pa) (asc_dr _ pa)) tl)
      · refine iteDF (fun z => c4 (V.int.inj z)) ?_
        refine ⟨_, rfl, rfl, _, rfl, ?_⟩
        by_cases c5 : r3 = 4
        · subst c5
          refine iteDT rfl ?_
          obtain ⟨w0, hw0, hat⟩ := at_word (ws := ws) (m := m) (by omega)
          have tw := tot_mem hw0
          refine ⟨⟨_, rfl⟩, _, rfl, _, rfl, _, rfl, p, _, rfl, SqL.of hp5, fun a1 n1 => ?_⟩
          rw [ct]
          have s6 : Same H5 (upd H5 a1 (.lst ((ws.take m).map fun z => V.str (S z)))) := same_new (Same.refl H5) n1
          have K6 : Kp s H (upd H5 a1 (.lst ((ws.take m).map fun z => V.str (S z)))) := K5.new n1
          have ha1 : (upd H5 a1 (.lst ((ws.take m).map fun z => V.str (S z)))) a1 = some (.lst ((ws.take m).map fun z => V.str (S z))) := upd_same
          have hp5 := s6 _ _ hp5
          generalize (upd H5 a1 (.lst ((ws.take m).map fun z => V.str (S z)))) = H6 at s6 K6 ha1 hp5 ⊢
          refine ⟨_, rfl, _, rfl, p, _, _, _, rfl, rfl, SqL.of hp5, hat, len1, fun a2 n2 => ?_⟩
          have s7 : Same H6 (upd H6 a2 (.lst [V.str (S w0)])) := same_new (Same.refl H6) n2
          have K7 : Kp s H (upd H6 a2 (.lst [V.str (S w0)])) := K6.new n2
          have ha2 : (upd H6 a2 (.lst [V.str (S w0)])) a2 = some (.lst [V.str (S w0)]) := upd_same
          have ha1 := s7 _ _ ha1
          have hp5 := s7 _ _ hp5
          generalize (upd H6 a2 (.lst [V.str (S w0)])) = H7 at s7 K7 ha2 ha1 hp5 ⊢
          have ha2 : H7 a2 = some (.lst ([w0].map fun z => V.str (S z))) := ha2
          refine ⟨a1, a2, _, _, rfl, rfl, ha1, ha2, (by simp only [List.length_append, List.length_map, List.length_take, List.length_drop, List.length_cons, List.length_nil]; exact Nat.le_trans (show _ ≤ 20100 by omega) (by decide)), fun a3 n3 => ?_⟩
          rw [← List.map_append]
          have s8 : Same H7 (upd H7 a3 (.lst ((ws.take m ++ [w0]).map fun z => V.str (S z)))) := same_new (Same.refl H7) n3
          have K8 : Kp s H (upd H7 a3 (.lst ((ws.take m ++ [w0]).map fun z => V.str (S z)))) := K7.new n3
          have ha3 : (upd H7 a3 (.lst ((ws.take m ++ [w0]).map fun z => V.str (S z)))) a3 = some (.lst ((ws.take m ++ [w0]).map fun z => V.str (S z))) := upd_same
          have hp5 := s8 _ _ hp5
          generalize (upd H7 a3 (.lst ((ws.take m ++ [w0]).map fun z => V.str (S z)))) = H8 at s8 K8 ha3 hp5 ⊢
          refine ⟨_, rfl, _, rfl, _, rfl, p, _, rfl, SqL.of hp5, fun a4 n4 => ?_⟩
          rw [cf]
          have s9 : Same H8 (upd H8 a4 (.lst ((ws.drop m).map fun z => V.str (S z)))) := same_new (Same.refl H8) n4
          have K9 : Kp s H (upd H8 a4 (.lst ((ws.drop m).map fun z => V.str (S z)))) := K8.new n4
          have ha4 : (upd H8 a4 (.lst ((ws.drop m).map fun z => V.str (S z)))) a4 = some (.lst ((ws.drop m).map fun z => V.str (S z))) := upd_same
          have ha3 := s9 _ _ ha3
          generalize (upd H8 a4 (.lst ((ws.drop m).map fun z => V.str (S z)))) = H9 at s9 K9 ha4 ha3 ⊢
          refine ⟨a3, a4, _, _, rfl, rfl, ha3, ha4, (by simp only [List.length_append, List.length_map, List.length_take, List.length_drop, List.length_cons, List.length_nil]; exact Nat.le_trans (show _ ≤ 20100 by omega) (by decide)), fun a5 n5 => ?_⟩
          rw [← List.map_append]
          have s10 : Same H9 (upd H9 a5 (.lst ((ws.take m ++ [w0] ++ ws.drop m).map fun z => V.str (S z)))) := same_new (Same.refl H9) n5
          have K10 : Kp s H (upd H9 a5 (.lst ((ws.take m ++ [w0] ++ ws.drop m).map fun z => V.str (S z)))) := K9.new n5
          have ha5 : (upd H9 a5 (.lst ((ws.take m ++ [w0] ++ ws.drop m).map fun z => V.str (S z)))) a5 = some (.lst ((ws.take m ++ [w0] ++ ws.drop m).map fun z => V.str (S z))) := upd_same
          generalize (upd H9 a5 (.lst ((ws.take m ++ [w0] ++ ws.drop m).map fun z => V.str (S z)))) = H10 at s10 K10 ha5  ⊢
          have tl : tot (ws.take m ++ [w0] ++ ws.drop m) ≤ 2 * n + 60 := by rw [tot_app, tot_app]; simp only [tot]; omega
          refine ⟨_, a5, (ws.take m ++ [w0] ++ ws.drop m).map S, rfl, rfl, .inl ?_, ?_, ?_⟩
          · rw [List.map_map]; exact SqL.of ha5
          · have ts := tot_sum (ws.take m ++ [w0] ++ ws.drop m)
            show _ + _ * 1 ≤ _
            rw [ts]; omega
          · rw [blank_e, join_S]
            exact q _ _ K10 (sh_join (asc_app (asc_app (asc_tk _ pa) (asc_1 (pa _ hw0))) (asc_dr _ pa)) tl)
        · refine iteDF (fun z => c5 (V.int.inj z)) ?_
          refine ⟨(by decide : 8 ≤ sizeLine), fun po npo => ?_⟩
          have npos := K5.2.ne_new npo
          have nps5 := nps
          have s15 : Same H5 (upd H5 po (.lst [V.str (Str.ofString ""), V.str (Str.ofString "0"), V.str (Str.ofString "a"), V.str (Str.ofString "1,2"), V.str (Str.ofString "1/2"), V.str (Str.ofString "write"), V.str (Str.ofString "-0"), V.str (Str.ofString "a,b")])) := same_new (Same.refl H5) npo
          have K15 : Kp s H (upd H5 po (.lst [V.str (Str.ofString ""), V.str (Str.ofString "0"), V.str (Str.ofString "a"), V.str (Str.ofString "1,2"), V.str (Str.ofString "1/2"), V.str (Str.ofString "write"), V.str (Str.ofString "-0"), V.str (Str.ofString "a,b")])) := K5.new npo
          have hpo : (upd H5 po (.lst [V.str (Str.ofString ""), V.str (Str.ofString "0"), V.str (Str.ofString "a"), V.str (Str.ofString "1,2"), V.str (Str.ofString "1/2"), V.str (Str.ofString "write"), V.str (Str.ofString "-0"), V.str (Str.ofString "a,b")])) po = some (.lst [V.str (Str.ofString ""), V.str (Str.ofString "0"), V.str (Str.ofString "a"), V.str (Str.ofString "1,2"), V.str (Str.ofString "1/2"), V.str (Str.ofString "write"), V.str (Str.ofString "-0"), V.str (Str.ofString "a,b")]) := upd_same
          have hp5 := s15 _ _ hp5
          generalize (upd H5 po (.lst [V.str (Str.ofString ""), V.str (Str.ofString "0"), V.str (Str.ofString "a"), V.str (Str.ofString "1,2"), V.str (Str.ofString "1/2"), V.str (Str.ofString "write"), V.str (Str.ofString "-0"), V.str (Str.ofString "a,b")])) = H15 at s15 K15 hpo hp5 ⊢
          refine ⟨⟨_, rfl⟩, _, rfl, _, rfl, _, rfl, p, _, rfl, SqL.of hp5, fun a1 n1 => ?_⟩
          have n1s := K15.2.ne_new n1
          rw [ct]
          have s6 : Same H15 (upd H15 a1 (.lst ((ws.take m).map fun z => V.str (S z)))) := same_new (Same.refl H15) n1
          have K6 : Kp s H (upd H15 a1 (.lst ((ws.take m).map fun z => V.str (S z)))) := K15.new n1
          have ha1 : (upd H15 a1 (.lst ((ws.take m).map fun z => V.str (S z)))) a1 = some (.lst ((ws.take m).map fun z => V.str (S z))) := upd_same
          have hp5 := s6 _ _ hp5
          have hpo := s6 _ _ hpo
          generalize (upd H15 a1 (.lst ((ws.take m).map fun z => V.str (S z)))) = H6 at s6 K6 ha1 hp5 hpo ⊢
          refine ⟨_, rfl, _, rfl, s, 8, rfl, K6.2, (by decide), (by decide), fun r6 H7 r60 r61 k7 => ?_⟩
          have K7 := K6.trans k7
          have hp5 := k7.1 p _ nps5 hp5
          have hpo := k7.1 po _ npos hpo
          have ha1 := k7.1 a1 _ n1s ha1
          obtain ⟨w0, aw, lw, hat⟩ := odd_at r60 r61
          refine ⟨po, _, _, _, rfl, rfl, SqL.of hpo, hat, len1, fun a2 n2 => ?_⟩
          have s8 : Same H7 (upd H7 a2 (.lst [V.str (S w0)])) := same_new (Same.refl H7) n2
          have K8 : Kp s H (upd H7 a2 (.lst [V.str (S w0)])) := K7.new n2
          have ha2 : (upd H7 a2 (.lst [V.str (S w0)])) a2 = some (.lst [V.str (S w0)]) := upd_same
          have ha1 := s8 _ _ ha1
          have hp5 := s8 _ _ hp5
          generalize (upd H7 a2 (.lst [V.str (S w0)])) = H8 at s8 K8 ha2 ha1 hp5 ⊢
          have ha2 : H8 a2 = some (.lst ([w0].map fun z => V.str (S z))) := ha2
          refine ⟨a1, a2, _, _, rfl, rfl, ha1, ha2, (by simp only [List.length_append, List.length_map, List.length_take, List.length_drop, List.length_cons, List.length_nil]; exact Nat.le_trans (show _ ≤ 20100 by omega) (by decide)), fun a3 n3 => ?_⟩
          rw [← List.map_append]
          have s9 : Same H8 (upd H8 a3 (.lst ((ws.take m ++ [w0]).map fun z => V.str (S z)))) := same_new (Same.refl H8) n3
          have K9 : Kp s H (upd H8 a3 (.lst ((ws.take m ++ [w0]).map fun z => V.str (S z)))) := K8.new n3
          have ha3 : (upd H8 a3 (.lst ((ws.take m ++ [w0]).map fun z => V.str (S z)))) a3 = some (.lst ((ws.take m ++ [w0]).map fun z => V.str (S z))) := upd_same
          have hp5 := s9 _ _ hp5
          generalize (upd H8 a3 (.lst ((ws.take m ++ [w0]).map fun z => V.str (S z)))) = H9 at s9 K9 ha3 hp5 ⊢
          refine ⟨_, rfl, _, rfl, _, _, rfl, rfl, _, rfl, p, _, rfl, SqL.of hp5, fun a4 n4 => ?_⟩
          rw [cg]
          have s10 : Same H9 (upd H9 a4 (.lst ((ws.drop (m + 1)).map fun z => V.str (S z)))) := same_new (Same.refl H9) n4
          have K10 : Kp s H (upd H9 a4 (.lst ((ws.drop (m + 1)).map fun z => V.str (S z)))) := K9.new n4
          have ha4 : (upd H9 a4 (.lst ((ws.drop (m + 1)).map fun z => V.str (S z)))) a4 = some (.lst ((ws.drop (m + 1)).map fun z => V.str (S z))) := upd_same
          have ha3 := s10 _ _ ha3
          generalize (upd H9 a4 (.lst ((ws.drop (m + 1)).map fun z => V.str (S z)))) = H10 at s10 K10 ha4 ha3 ⊢
          refine ⟨a3, a4, _, _, rfl, rfl, ha3, ha4, (by simp only [List.length_append, List.length_map, List.length_take, List.length_drop, List.length_cons, List.length_nil]; exact Nat.le_trans (show _ ≤ 20100 by omega) (by decide)), fun a5 n5 => ?_⟩
          rw [← List.map_append]
          have s11 : Same H10 (upd H10 a5 (.lst ((ws.take m ++ [w0] ++ ws.drop (m + 1)).map fun z => V.str (S z)))) := same_new (Same.refl H10) n5
          have K11 : Kp s H (upd H10 a5 (.lst ((ws.take m ++ [w0] ++ ws.drop (m + 1)).map fun z => V.str (S z)))) := K10.new n5
          have ha5 : (upd H10 a5 (.lst ((ws.take m ++ [w0] ++ ws.drop (m + 1)).map fun z => V.str (S z)))) a5 = some (.lst ((ws.take m ++ [w0] ++ ws.drop (m + 1)).map fun z => V.str (S z))) := upd_same
          generalize (upd H10 a5 (.lst ((ws.take m ++ [w0] ++ ws.drop (m + 1)).map fun z => V.str (S z)))) = H11 at s11 K11 ha5  ⊢
          have tl : tot (ws.take m ++ [w0] ++ ws.drop (m + 1)) ≤ 2 * n + 60 := by rw [tot_app, tot_app]; simp only [tot]; omega
          refine ⟨_, a5, (ws.take m ++ [w0] ++ ws.drop (m + 1)).map S, rfl, rfl, .inl ?_, ?_, ?_⟩
          · rw [List.map_map]; exact SqL.of ha5
          · have ts := tot_sum (ws.take m ++ [w0] ++ ws.drop (m + 1))
            show _ + _ * 1 ≤ _
            rw [ts]; omega
          · rw [blank_e, join_S]
            exact q _ _ K11 (sh_join (asc_app (asc_app (asc_tk _ pa) (asc_1 aw)) (asc_dr _ pa)) tl)

open SX
theorem intL_asc (i : Int) : Asc (intL i) := fun c hc => Nat.lt_of_not_le fun h => intL_free i (c := c) (by omega) (.inr (by omega)) hc
theorem tx_asc {k : Kd} {t : Th} (h : Fit k t) : Asc (t.tx k) := by
  have k5 : ∀ z ∈ keys5, Asc z := by unfold Asc; decide +kernel
  have hs : ∃ c, k.sep = [c] ∧ c < 128 := by cases k <;> exact ⟨_, rfl, by decide⟩
  obtain ⟨c, ec, hc⟩ := hs
  cases t with
  | num i => exact intL_asc i
  | txt z =>
    have : z ∈ keys5 ∨ z = [119, 114, 105, 116, 101] := by
      cases k <;> first | exact absurd h id | exact .inl h | skip
      rcases h with h | h
      · exact .inl (by rw [h]; decide)
      · exact .inr h
    rcases this with h | rfl
    · exact k5 z h
    · show Asc [119, 114, 105, 116, 101]
      unfold Asc
      decide +kernel
  | row xs =>
    show Asc (TL.joinL k.sep (xs.map intL))
    rw [ec]
    exact asc_join hc fun z hz => by
      obtain ⟨x, _, rfl⟩ := List.mem_map.mp hz
      exact intL_asc x
  | keys zs =>
    have hx : ∀ z ∈ zs, z ∈ keys5 := by cases k <;> first | exact absurd h id | exact h.2.2
    show Asc (TL.joinL k.sep zs)
    rw [ec]
    exact asc_join hc fun z hz => k5 z (hx z hz)
theorem zip_asc : ∀ {ks : List Kd} {ts : List Th}, Fits ks ts → (∀ z ∈ List.zipWith Th.tx ks ts, Asc z) ∧ tot (List.zipWith Th.tx ks ts) ≤ 201 * ks.length
  | _, _, .nil => ⟨fun z h => by simp at h, by simp [tot]⟩
  | _, _, .cons f r => by
    obtain ⟨i1, i2⟩ := zip_asc r
    refine ⟨fun z hz => ?_, ?_⟩
    · rw [List.zipWith_cons_cons] at hz
      rcases List.mem_cons.mp hz with rfl | hz
      · exact tx_asc f
      · exact i1 z hz
    · have l := (th_len f).1
      simp only [List.zipWith_cons_cons, tot, List.length_cons]
      omega
theorem deed_sh (d : Deed) : Sh 820 (S d.tx) := by
  obtain ⟨f1, f2, f3, f4, f5⟩ := deed_facts _ d.mem
  have f1 : d.ks.length ≤ 4 := f1
  have f3 : (TL.tl d.w).length ≤ 8 := f3
  obtain ⟨i1, i2⟩ := zip_asc d.fit
  refine sh_join (l := TL.tl d.w :: List.zipWith Th.tx d.ks d.ts) (fun z hz => ?_) ?_
  · rcases List.mem_cons.mp hz with rfl | hz
    · exact fun c hc => by have := (f5 c hc).2; omega
    · exact i1 z hz
  · simp only [tot]
    omega
theorem right_S {x : Str} {n : Nat} (h : Sh n x) (hn : n ≤ 3500) : ∃ z, (V.str x) = .str (S z) ∧ z.length ≤ 3500 ∧ Asc z := ⟨TL.tl x, congrArg V.str (S_tl x).symm, Nat.le_trans h.ln hn, h.as⟩
def shB (x : Str) : Bool := decide (x.cps.toList.length ≤ 3500) && x.cps.toList.all fun c => decide (c < 128)
def isT : V → Bool
  | .str x => shB x
  | _ => false
theorem isT_ok {v : V} (h : isT v = true) : ∃ z, v = .str (S z) ∧ z.length ≤ 3500 ∧ Asc z := by
  cases v with
  | str x =>
    have h : shB x = true := h
    unfold shB at h
    simp only [Bool.and_eq_true, decide_eq_true_eq, List.all_eq_true] at h
    exact ⟨TL.tl x, congrArg V.str (S_tl x).symm, h.1, h.2⟩
  | _ => exact absurd h (by simp [isT])
def LA1 : List V := [V.str (Str.ofString ""), V.str (Str.ofString " "), V.str (Str.ofString "begin "), V.str (Str.ofString " begin"), V.str (Str.ofString "begin 1"), V.str (Str.ofString "Begin"), V.str (Str.ofString "tick"), V.str (Str.ofString "tick 01"), V.str (Str.ofString "tick -0"), V.str (Str.ofString "tick 1_0"), V.str (Str.ofString "tick +1")]
def LA2 : List V := [V.str (Str.ofString "tick " ++ PySem.Txt.mul (Str.ofString "9") 30), V.str (Str.ofString "tick " ++ PySem.Txt.mul (Str.ofString "9") 31), V.str (Str.ofString "pace 0 0 1"), V.str (Str.ofString "pace 0 0 1/2/3"), V.str (Str.ofString "pace 0 0 1/"), V.str (Str.ofString "at 1 a,")]
def LA3 : List V := [V.str (Str.ofString "at 1 a,b"), V.str (Str.ofString "at 1 ,a"), V.str (Str.ofString "at 1 A"), V.str (Str.ofString "write 0 a 1,"), V.str (Str.ofString "write 0 a 1,2,3,4,5"), V.str (Str.ofString "take 0 a Read"), V.str (Str.ofString "settle\n")]
theorem A_ok : (LA1 ++ LA2 ++ LA3).all isT = true := by decide +kernel

open SX
theorem ok_law {P : Program} {w : World} {K : PySem.W.Frag} {mg : Str → Option Value} {base : Heap} {a : Nat → Addr} {d : Nat → FuncData} (T : Txt w K mg a d) : FnG P w K mg base 11 (a 26) (d 26) ["_law_script"] (spLaw K) := by
  refine fnG_mk T.F_law sc_law (fun vs H Q E h => ?_) (fun cdv A outer s0 H vs Q E gd hr h => ?_)
  · obtain ⟨l, ns, rfl, hS, hl, q⟩ := h
    rfl
  · obtain ⟨l, ns, rfl, hS, hl, q⟩ := h
    refine ⟨_, (pss_cons (ps_for PassesOwn.never rfl (pi_range1 (by rfl) T.z_range (pa_cons (pe_callB (call_max2 rfl) (by rfl) T.z_max (by decide +kernel) (pa_cons pe_int (pa_cons (pe_callB (call_min2 rfl) (by rfl) T.z_min (by decide +kernel) (pa_cons pe_int (pa_cons (pe_callB call_len_seq (by rfl) T.z_len PySem.boot_len (pa_cons (pv 0) pa_nil)) pa_nil))) pa_nil))) pa_nil)) (pg_name (i := 1) sc_law.nd rfl (.inl rfl)) (pss_cons (ps_set (i := 2) sc_law.nd rfl (Or.inl rfl) (pe_call (ok_l_begun T) (hr.mono (by decide)) (by rfl) T.g_l_begun T.F_l_begun.kp T.b_l_begun .nil pass0 (pa_cons (pv 0) (pa_cons (pv 1) pa_nil)))) (pss_cons (ps_set (i := 3) sc_law.nd rfl (Or.inl rfl) (pe_call (ok_l_text T) (hr.mono (by decide)) (by rfl) T.g_l_text T.F_l_text.kp T.b_l_text .nil pass0 (pa_cons (pe_call (ok_l_drawn T) (hr.mono (by decide)) (by rfl) T.g_l_drawn T.F_l_drawn.kp T.b_l_drawn .nil pass0 (pa_cons (pv 2) pa_nil)) pa_nil))) (pss_one (ps_for PassesOwn.never rfl (pi_range1 (by rfl) T.z_range (pa_cons pe_int pa_nil)) (pg_name (i := 4) sc_law.nd rfl (.inl rfl)) (pss_cons (ps_set (i := 5) sc_law.nd rfl (Or.inl rfl) (pe_call (ok_l_bent T) (hr.mono (by decide)) (by rfl) T.g_l_bent T.F_l_bent.kp T.b_l_bent .nil pass0 (pa_cons (pv 2) (pa_cons (pv 3) pa_nil)))) (pss_one (ps_if (PW.pt (pw_or (pt_not (pt_truth (pe_callG (ok_right T) gd (hr.mono (by decide)) (by rfl) T.g_l_right T.F_l_right.kp T.b_l_right pass0 (pa_cons (pv 5) pa_nil)) (by intro _; rfl))) (pw_or1 (pt_not (pt_truth (pe_callG (ok_right T) gd (hr.mono (by decide)) (by rfl) T.g_l_right T.F_l_right.kp T.b_l_right pass0 (pa_cons (pe_call (ok_l_bent T) (hr.mono (by decide)) (by rfl) T.g_l_bent T.F_l_bent.kp T.b_l_bent .nil pass0 (pa_cons (pv 2) (pa_cons (pv 5) pa_nil))) pa_nil)) (by intro _; rfl)))))) (pss_one (ps_ret pe_bl)) pss_nil)))))))) (pss_cons (ps_set (i := 6) sc_law.nd rfl (Or.inl rfl) (pe_lst (pa_cons pe_str (pa_cons pe_str (pa_cons pe_str (pa_cons pe_str (pa_cons pe_str (pa_cons pe_str (pa_cons pe_str (pa_cons pe_str (pa_cons pe_str (pa_cons pe_str (pa_cons pe_str pa_nil))))))))))))) (pss_cons (ps_set (i := 6) sc_law.nd rfl (Or.inl rfl) (pe_op op_cat (pv 6) (pe_lst (pa_cons (pe_op op_add_str pe_str (pe_op TM.op_mulS pe_str pe_int)) (pa_cons (pe_op op_add_str pe_str (pe_op TM.op_mulS pe_str pe_int)) (pa_cons pe_str (pa_cons pe_str (pa_cons pe_str (pa_cons pe_str pa_nil))))))))) (pss_cons (ps_set (i := 6) sc_law.nd rfl (Or.inl rfl) (pe_op op_cat (pv 6) (pe_lst (pa_cons pe_str (pa_cons pe_str (pa_cons pe_str (pa_cons pe_str (pa_cons pe_str (pa_cons pe_str (pa_cons pe_str pa_nil)))))))))) (pss_cons (ps_for PassesOwn.never rfl (pi_list (pe_op op_cat (pv 6) (pe_lst (pa_cons pe_str (pa_cons pe_non (pa_cons pe_int (pa_cons pe_bl (pa_cons (pe_lst (pa_cons pe_str pa_nil)) (pa_cons (pe_tup (pa_cons pe_str pa_nil)) (pa_cons pe_dnewK (pa_cons (pe_tup (pa_cons pe_str (pa_cons pe_int pa_nil))) pa_nil))))))))))) (pg_name (i := 7) sc_law.nd rfl (.inl rfl)) (pss_one (ps_if (pt_not (pt_truth (pe_callG (ok_right T) gd (hr.mono (by decide)) (by rfl) T.g_l_right T.F_l_right.kp T.b_l_right pass0 (pa_cons (pv 7) pa_nil)) (by intro _; rfl))) (pss_one (ps_ret pe_bl)) pss_nil))) (pss_one (ps_ret pe_bl))))))), ?_⟩
    refine ⟨_, rfl, l, _, rfl, .inl hS, 30, _, rfl, 1, _, rfl, _, rfl, ?_, ?_, ?_⟩
    · rw [List.length_map]; (repeat' split) <;> omega
    · rw [List.length_map]; (repeat' split) <;> omega
    have hN : (if (if ((ns.map V.int).length : Int) < 30 then ((ns.map V.int).length : Int) else 30) > 1 then (if ((ns.map V.int).length : Int) < 30 then ((ns.map V.int).length : Int) else 30) else (1 : Int)).toNat ≤ 40 := by
      rw [List.length_map]; (repeat' split) <;> omega
    refine for_range (fun i σ H' => Same H H' ∧ ∃ v1 v2 v3 v4 v5 : Option V, σ = [some (.ref l), v1, v2, v3, v4, v5, none, none]) ⟨Same.refl H, none, none, none, none, none, rfl⟩ ?_ ?_
    · rintro i0 σ H1 hi ⟨S1, v1, v2, v3, v4, v5, rfl⟩
      refine ⟨_, rfl, _, rfl, l, ns, _, rfl, S1.seq hS, hl, by omega, by omega, fun s H2 ns0 s2 hs2 => ?_⟩
      refine ⟨_, rfl, s, rfl, hs2, fun p d H3 k3 hd => ⟨p, d, rfl, hd, fun H4 s4 => ?_⟩⟩
      have kA : Kp s H2 H4 := ⟨fun b o nb e => s4 _ _ (k3.1 b o nb e), by
        obtain ⟨a1, a2, a3, e, r⟩ := k3.2
        exact ⟨a1, a2, a3, s4 _ _ e, r⟩⟩
      have dx := deed_sh d
      refine ⟨_, rfl, by decide, by decide, ?_⟩
      refine for_range (fun i σ H' => Kp s H2 H' ∧ ∃ v1 v4 v5 : Option V, σ = [some (.ref l), v1, some (.ref s), some (.str (S d.tx)), v4, v5, none, none]) ⟨kA, _, v4, v5, rfl⟩ ?_ ?_
      · rintro j σ H5 hj ⟨k5, w1, w4, w5, rfl⟩
        refine ⟨_, rfl, _, rfl, s, S d.tx, 820, rfl, k5.2, dx, (by decide), fun y H6 k6 hy => ?_⟩
        have kS : ∀ {G G' : Hp}, Kp s H2 G → Same G G' → Kp s H2 G' := fun k sm => ⟨fun b o nb e => sm _ _ (k.1 b o nb e), by
          obtain ⟨a1, a2, a3, e, r⟩ := k.2
          exact ⟨a1, a2, a3, sm _ _ e, r⟩⟩
        refine ⟨_, rfl, .str y, rfl, .inl (right_S hy (by decide)), fun H7 s7 => ⟨_, rfl, ?_⟩⟩
        have k7 := kS (k5.trans k6) s7
        refine iteF ⟨_, rfl, _, rfl, s, y, 1700, rfl, k7.2, hy, (by decide), fun y2 H8 k8 hy2 => ?_⟩
        refine ⟨.str y2, rfl, .inl (right_S hy2 (by decide)), fun H9 s9 => ⟨_, rfl, iteF ?_⟩⟩
        exact ⟨kS (k7.trans k8) s9, _, _, _, rfl⟩
      · rintro σ H5 ⟨k5, w1, w4, w5, rfl⟩
        exact ⟨S1.trans (k5.same s2 ns0), _, _, _, _, _, rfl⟩
    rintro σ H1 ⟨S1, v1, v2, v3, v4, v5, rfl⟩
    refine ⟨(by decide : 11 ≤ sizeLine), fun p1 n1 => ?_⟩
    have s2 : Same H1 (upd H1 p1 (.lst [V.str (Str.ofString ""), V.str (Str.ofString " "), V.str (Str.ofString "begin "), V.str (Str.ofString " begin"), V.str (Str.ofString "begin 1"), V.str (Str.ofString "Begin"), V.str (Str.ofString "tick"), V.str (Str.ofString "tick 01"), V.str (Str.ofString "tick -0"), V.str (Str.ofString "tick 1_0"), V.str (Str.ofString "tick +1")])) := same_new (Same.refl H1) n1
    have S2 := S1.trans s2
    have hp1 : (upd H1 p1 (.lst [V.str (Str.ofString ""), V.str (Str.ofString " "), V.str (Str.ofString "begin "), V.str (Str.ofString " begin"), V.str (Str.ofString "begin 1"), V.str (Str.ofString "Begin"), V.str (Str.ofString "tick"), V.str (Str.ofString "tick 01"), V.str (Str.ofString "tick -0"), V.str (Str.ofString "tick 1_0"), V.str (Str.ofString "tick +1")])) p1 = some (.lst [V.str (Str.ofString ""), V.str (Str.ofString " "), V.str (Str.ofString "begin "), V.str (Str.ofString " begin"), V.str (Str.ofString "begin 1"), V.str (Str.ofString "Begin"), V.str (Str.ofString "tick"), V.str (Str.ofString "tick 01"), V.str (Str.ofString "tick -0"), V.str (Str.ofString "tick 1_0"), V.str (Str.ofString "tick +1")]) := upd_same
    generalize (upd H1 p1 (.lst [V.str (Str.ofString ""), V.str (Str.ofString " "), V.str (Str.ofString "begin "), V.str (Str.ofString " begin"), V.str (Str.ofString "begin 1"), V.str (Str.ofString "Begin"), V.str (Str.ofString "tick"), V.str (Str.ofString "tick 01"), V.str (Str.ofString "tick -0"), V.str (Str.ofString "tick 1_0"), V.str (Str.ofString "tick +1")])) = H2 at s2 S2 hp1  ⊢
    have hp1 : H2 p1 = some (.lst LA1) := hp1
    refine ⟨_, rfl, _, _, rfl, rfl, (by unfold PySem.MulOk; decide +kernel), _, _, rfl, rfl, (by decide +kernel), _, _, rfl, rfl, (by unfold PySem.MulOk; decide +kernel), _, _, rfl, rfl, (by decide +kernel), (by decide : 6 ≤ sizeLine), fun p2 n2 => ?_⟩
    have s3 : Same H2 (upd H2 p2 (.lst [V.str (Str.ofString "tick " ++ PySem.Txt.mul (Str.ofString "9") 30), V.str (Str.ofString "tick " ++ PySem.Txt.mul (Str.ofString "9") 31), V.str (Str.ofString "pace 0 0 1"), V.str (Str.ofString "pace 0 0 1/2/3"), V.str (Str.ofString "pace 0 0 1/"), V.str (Str.ofString "at 1 a,")])) := same_new (Same.refl H2) n2
    have S3 := S2.trans s3
    have hp2 : (upd H2 p2 (.lst [V.str (Str.ofString "tick " ++ PySem.Txt.mul (Str.ofString "9") 30), V.str (Str.ofString "tick " ++ PySem.Txt.mul (Str.ofString "9") 31), V.str (Str.ofString "pace 0 0 1"), V.str (Str.ofString "pace 0 0 1/2/3"), V.str (Str.ofString "pace 0 0 1/"), V.str (Str.ofString "at 1 a,")])) p2 = some (.lst [V.str (Str.ofString "tick " ++ PySem.Txt.mul (Str.ofString "9") 30), V.str (Str.ofString "tick " ++ PySem.Txt.mul (Str.ofString "9") 31), V.str (Str.ofString "pace 0 0 1"), V.str (Str.ofString "pace 0 0 1/2/3"), V.str (Str.ofString "pace 0 0 1/"), V.str (Str.ofString "at 1 a,")]) := upd_same
    have hp1 := s3 _ _ hp1
    generalize (upd H2 p2 (.lst [V.str (Str.ofString "tick " ++ PySem.Txt.mul (Str.ofString "9") 30), V.str (Str.ofString "tick " ++ PySem.Txt.mul (Str.ofString "9") 31), V.str (Str.ofString "pace 0 0 1"), V.str (Str.ofString "pace 0 0 1/2/3"), V.str (Str.ofString "pace 0 0 1/"), V.str (Str.ofString "at 1 a,")])) = H3 at s3 S3 hp2 hp1 ⊢
    have hp2 : H3 p2 = some (.lst LA2) := hp2
    refine ⟨p1, p2, _, _, rfl, rfl, hp1, hp2, (by simp only [LA1, LA2, LA3, List.length_append, List.length_cons, List.length_nil]; decide), fun p3 n3 => ?_⟩
    have s4 : Same H3 (upd H3 p3 (.lst (LA1 ++ LA2))) := same_new (Same.refl H3) n3
    have S4 := S3.trans s4
    have hp3 : (upd H3 p3 (.lst (LA1 ++ LA2))) p3 = some (.lst (LA1 ++ LA2)) := upd_same
    have hp1 := s4 _ _ hp1
    have hp2 := s4 _ _ hp2
    generalize (upd H3 p3 (.lst (LA1 ++ LA2))) = H4 at s4 S4 hp3 hp1 hp2 ⊢
    refine ⟨_, rfl, (by decide : 7 ≤ sizeLine), fun p4 n4 => ?_⟩
    have s5 : Same H4 (upd H4 p4 (.lst [V.str (Str.ofString "at 1 a,b"), V.str (Str.ofString "at 1 ,a"), V.str (Str.ofString "at 1 A"), V.str (Str.ofString "write 0 a 1,"), V.str (Str.ofString "write 0 a 1,2,3,4,5"), V.str (Str.ofString "take 0 a Read"), V.str (Str.ofString "settle\n")])) := same_new (Same.refl H4) n4
    have S5 := S4.trans s5
    have hp4 : (upd H4 p4 (.lst [V.str (Str.ofString "at 1 a,b"), V.str (Str.ofString "at 1 ,a"), V.str (Str.ofString "at 1 A"), V.str (Str.ofString "write 0 a 1,"), V.str (Str.ofString "write 0 a 1,2,3,4,5"), V.str (Str.ofString "take 0 a Read"), V.str (Str.ofString "settle\n")])) p4 = some (.lst [V.str (Str.ofString "at 1 a,b"), V.str (Str.ofString "at 1 ,a"), V.str (Str.ofString "at 1 A"), V.str (Str.ofString "write 0 a 1,"), V.str (Str.ofString "write 0 a 1,2,3,4,5"), V.str (Str.ofString "take 0 a Read"), V.str (Str.ofString "settle\n")]) := upd_same
    have hp1 := s5 _ _ hp1
    have hp2 := s5 _ _ hp2
    have hp3 := s5 _ _ hp3
    generalize (upd H4 p4 (.lst [V.str (Str.ofString "at 1 a,b"), V.str (Str.ofString "at 1 ,a"), V.str (Str.ofString "at 1 A"), V.str (Str.ofString "write 0 a 1,"), V.str (Str.ofString "write 0 a 1,2,3,4,5"), V.str (Str.ofString "take 0 a Read"), V.str (Str.ofString "settle\n")])) = H5 at s5 S5 hp4 hp1 hp2 hp3 ⊢
    have hp4 : H5 p4 = some (.lst LA3) := hp4
    refine ⟨p3, p4, _, _, rfl, rfl, hp3, hp4, (by simp only [LA1, LA2, LA3, List.length_append, List.length_cons, List.length_nil]; decide), fun p5 n5 => ?_⟩
    have s6 : Same H5 (upd H5 p5 (.lst (LA1 ++ LA2 ++ LA3))) := same_new (Same.refl H5) n5
    have S6 := S5.trans s6
    have hp5 : (upd H5 p5 (.lst (LA1 ++ LA2 ++ LA3))) p5 = some (.lst (LA1 ++ LA2 ++ LA3)) := upd_same
    have hp1 := s6 _ _ hp1
    have hp2 := s6 _ _ hp2
    have hp3 := s6 _ _ hp3
    have hp4 := s6 _ _ hp4
    generalize (upd H5 p5 (.lst (LA1 ++ LA2 ++ LA3))) = H6 at s6 S6 hp5 hp1 hp2 hp3 hp4 ⊢
    refine ⟨_, rfl, len1, fun q1 m1 => ?_⟩
    have s7 : Same H6 (upd H6 q1 (.lst [V.str (Str.ofString "begin")])) := same_new (Same.refl H6) m1
    have S7 := S6.trans s7
    have hq1 : (upd H6 q1 (.lst [V.str (Str.ofString "begin")])) q1 = some (.lst [V.str (Str.ofString "begin")]) := upd_same
    have hp1 := s7 _ _ hp1
    have hp2 := s7 _ _ hp2
    have hp3 := s7 _ _ hp3
    have hp4 := s7 _ _ hp4
    have hp5 := s7 _ _ hp5
    generalize (upd H6 q1 (.lst [V.str (Str.ofString "begin")])) = H7 at s7 S7 hq1 hp1 hp2 hp3 hp4 hp5 ⊢
    refine ⟨len1, fun q2 m2 => ?_⟩
    have s8 : Same H7 (upd H7 q2 (.tup [V.str (Str.ofString "begin")])) := same_new (Same.refl H7) m2
    have S8 := S7.trans s8
    have hq2 : (upd H7 q2 (.tup [V.str (Str.ofString "begin")])) q2 = some (.tup [V.str (Str.ofString "begin")]) := upd_same
    have hp1 := s8 _ _ hp1
    have hp2 := s8 _ _ hp2
    have hp3 := s8 _ _ hp3
    have hp4 := s8 _ _ hp4
    have hp5 := s8 _ _ hp5
    have hq1 := s8 _ _ hq1
    generalize (upd H7 q2 (.tup [V.str (Str.ofString "begin")])) = H8 at s8 S8 hq2 hp1 hp2 hp3 hp4 hp5 hq1 ⊢
    intro q3 m3
    have s9 : Same H8 (upd H8 q3 (.dK [])) := same_new (Same.refl H8) m3
    have S9 := S8.trans s9
    have hq3 : (upd H8 q3 (.dK [])) q3 = some (.dK []) := upd_same
    have hp1 := s9 _ _ hp1
    have hp2 := s9 _ _ hp2
    have hp3 := s9 _ _ hp3
    have hp4 := s9 _ _ hp4
    have hp5 := s9 _ _ hp5
    have hq1 := s9 _ _ hq1
    have hq2 := s9 _ _ hq2
    generalize (upd H8 q3 (.dK [])) = H9 at s9 S9 hq3 hp1 hp2 hp3 hp4 hp5 hq1 hq2 ⊢
    refine ⟨len2, fun q4 m4 => ?_⟩
    have s10 : Same H9 (upd H9 q4 (.tup [V.str (Str.ofString "tick"), V.int 1])) := same_new (Same.refl H9) m4
    have S10 := S9.trans s10
    have hq4 : (upd H9 q4 (.tup [V.str (Str.ofString "tick"), V.int 1])) q4 = some (.tup [V.str (Str.ofString "tick"), V.int 1]) := upd_same
    have hp1 := s10 _ _ hp1
    have hp2 := s10 _ _ hp2
    have hp3 := s10 _ _ hp3
    have hp4 := s10 _ _ hp4
    have hp5 := s10 _ _ hp5
    have hq1 := s10 _ _ hq1
    have hq2 := s10 _ _ hq2
    have hq3 := s10 _ _ hq3
    generalize (upd H9 q4 (.tup [V.str (Str.ofString "tick"), V.int 1])) = H10 at s10 S10 hq4 hp1 hp2 hp3 hp4 hp5 hq1 hq2 hq3 ⊢
    refine ⟨(by decide : 8 ≤ sizeLine), fun p6 n6 => ?_⟩
    have s11 : Same H10 (upd H10 p6 (.lst [V.str (Str.ofString "tick\t1"), V.non, V.int 5, V.bl true, V.ref q1, V.ref q2, V.ref q3, V.ref q4])) := same_new (Same.refl H10) n6
    have S11 := S10.trans s11
    have hp6 : (upd H10 p6 (.lst [V.str (Str.ofString "tick\t1"), V.non, V.int 5, V.bl true, V.ref q1, V.ref q2, V.ref q3, V.ref q4])) p6 = some (.lst [V.str (Str.ofString "tick\t1"), V.non, V.int 5, V.bl true, V.ref q1, V.ref q2, V.ref q3, V.ref q4]) := upd_same
    have hp1 := s11 _ _ hp1
    have hp2 := s11 _ _ hp2
    have hp3 := s11 _ _ hp3
    have hp4 := s11 _ _ hp4
    have hp5 := s11 _ _ hp5
    have hq1 := s11 _ _ hq1
    have hq2 := s11 _ _ hq2
    have hq3 := s11 _ _ hq3
    have hq4 := s11 _ _ hq4
    generalize (upd H10 p6 (.lst [V.str (Str.ofString "tick\t1"), V.non, V.int 5, V.bl true, V.ref q1, V.ref q2, V.ref q3, V.ref q4])) = H11 at s11 S11 hp6 hp1 hp2 hp3 hp4 hp5 hq1 hq2 hq3 hq4 ⊢
    refine ⟨p5, p6, _, _, rfl, rfl, hp5, hp6, (by simp only [LA1, LA2, LA3, List.length_append, List.length_cons, List.length_nil]; decide), fun p7 n7 => ?_⟩
    have s12 : Same H11 (upd H11 p7 (.lst (LA1 ++ LA2 ++ LA3 ++ [V.str (Str.ofString "tick\t1"), V.non, V.int 5, V.bl true, V.ref q1, V.ref q2, V.ref q3, V.ref q4]))) := same_new (Same.refl H11) n7
    have S12 := S11.trans s12
    have hp7 : (upd H11 p7 (.lst (LA1 ++ LA2 ++ LA3 ++ [V.str (Str.ofString "tick\t1"), V.non, V.int 5, V.bl true, V.ref q1, V.ref q2, V.ref q3, V.ref q4]))) p7 = some (.lst (LA1 ++ LA2 ++ LA3 ++ [V.str (Str.ofString "tick\t1"), V.non, V.int 5, V.bl true, V.ref q1, V.ref q2, V.ref q3, V.ref q4])) := upd_same
    have hp1 := s12 _ _ hp1
    have hp2 := s12 _ _ hp2
    have hp3 := s12 _ _ hp3
    have hp4 := s12 _ _ hp4
    have hp5 := s12 _ _ hp5
    have hq1 := s12 _ _ hq1
    have hq2 := s12 _ _ hq2
    have hq3 := s12 _ _ hq3
    have hq4 := s12 _ _ hq4
    have hp6 := s12 _ _ hp6
    generalize (upd H11 p7 (.lst (LA1 ++ LA2 ++ LA3 ++ [V.str (Str.ofString "tick\t1"), V.non, V.int 5, V.bl true, V.ref q1, V.ref q2, V.ref q3, V.ref q4]))) = H12 at s12 S12 hp7 hp1 hp2 hp3 hp4 hp5 hq1 hq2 hq3 hq4 hp6 ⊢
    refine ⟨p7, rfl, ⟨_, SqL.of hp7⟩, ?_⟩
    refine for_list (K := K) (a := p7) (xs := LA1 ++ LA2 ++ LA3 ++ [V.str (Str.ofString "tick\t1"), V.non, V.int 5, V.bl true, V.ref q1, V.ref q2, V.ref q3, V.ref q4]) (fun j σ H' => Same H12 H' ∧ ∃ v7 : Option V, σ = [some (.ref l), v1, v2, v3, v4, v5, some (.ref p5), v7]) ⟨Same.refl _, _, rfl⟩ (fun j σ H' _ z => SqL.of (z.1 _ _ hp7)) ?_ ?_
    · rintro j v σ HA hj ⟨sA, v7, rfl⟩
      have key : (∃ z, v = .str (S z) ∧ z.length ≤ 3500 ∧ Asc z) ∨ (∃ d, An K HA v d ∧ notStr d = true) := by
        rcases List.mem_append.mp (List.mem_of_getElem? hj) with hm | hm
        · exact .inl (isT_ok (List.all_eq_true.mp A_ok v hm))
        · simp only [List.mem_cons, List.not_mem_nil, or_false] at hm
          rcases hm with rfl | rfl | rfl | rfl | rfl | rfl | rfl | rfl
          · exact .inl (isT_ok (by decide +kernel))
          · exact .inr ⟨_, .dp .non, rfl⟩
          · exact .inr ⟨_, .dp (.int 5), rfl⟩
          · exact .inr ⟨_, .dp (.bl true), rfl⟩
          · exact .inr ⟨_, .dp (.lst (SqL.of (sA _ _ hq1)) (.cons (.str _) .nil)), rfl⟩
          · exact .inr ⟨_, .dp (.tup (SqT.of (sA _ _ hq2)) (.cons (.str _) .nil)), rfl⟩
          · exact .inr ⟨_, .dict (sA _ _ hq3), rfl⟩
          · exact .inr ⟨_, .dp (.tup (SqT.of (sA _ _ hq4)) (.cons (.str _) (.cons (.int _) .nil))), rfl⟩
      refine ⟨_, rfl, v, rfl, key, fun HB sB => ⟨_, rfl, iteF ?_⟩⟩
      exact ⟨sA.trans sB, _, rfl⟩
    · rintro σ HA ⟨sA, v7, rfl⟩
      exact q HA

theorem all_mk {l : PySem.W.OpenLaw} {w : World} {K : PySem.W.Frag} {h : Heap} {mg : Str → Option Value} {fa : Addr} {f0 f1 f2 f3 f4 f5 f6 f7 f8 f9 f10 f11 f12 f13 f14 f15 f16 f17 f18 f19 f20 f21 f22 f23 f24 f25 f26 : Addr} (X : K.In h) (G : h.Ns mainGlobals mg) (hfa : mg "law" = some (.ref fa))
    {od0 od1 od2 od3 od4 od5 od6 od7 od8 od9 od10 od11 od12 od13 od14 od15 od16 od17 od18 od19 od20 od21 od22 od23 od24 od25 od26 : Option Addr} {an0 an1 an2 an3 an4 an5 an6 an7 an8 an9 an10 an11 an12 an13 an14 an15 an16 an17 an18 an19 an20 an21 an22 an23 an24 an25 an26 : Option Addr} {sl0 sl1 sl2 sl3 sl4 sl5 sl6 sl7 sl8 sl9 sl10 sl11 sl12 sl13 sl14 sl15 sl16 sl17 sl18 sl19 sl20 sl21 sl22 sl23 sl24 sl25 sl26 : Array (Option Value)} {oc0 kV0 dc0 pm0 cd0 ct0 oc1 kV1 dc1 pm1 cd1 ct1 oc2 kV2 dc2 pm2 cd2 ct2 oc3 kV3 dc3 pm3 cd3 ct3 oc4 kV4 dc4 pm4 cd4 ct4 oc5 kV5 dc5 pm5 cd5 ct5 oc6 kV6 dc6 pm6 cd6 ct6 oc7 kV7 dc7 pm7 cd7 ct7 oc8 kV8 dc8 pm8 cd8 ct8 oc9 kV9 dc9 pm9 cd9 ct9 oc10 kV10 dc10 pm10 cd10 ct10 oc11 kV11 dc11 pm11 cd11 ct11 oc12 kV12 dc12 pm12 cd12 ct12 oc13 kV13 dc13 pm13 cd13 ct13 oc14 kV14 dc14 pm14 cd14 ct14 oc15 kV15 dc15 pm15 cd15 ct15 oc16 kV16 dc16 pm16 cd16 ct16 oc17 kV17 dc17 pm17 cd17 ct17 oc18 kV18 dc18 pm18 cd18 ct18 oc19 kV19 dc19 pm19 cd19 ct19 oc20 kV20 dc20 pm20 cd20 ct20 oc21 kV21 dc21 pm21 cd21 ct21 oc22 kV22 dc22 pm22 cd22 ct22 oc23 kV23 dc23 pm23 cd23 ct23 oc24 kV24 dc24 pm24 cd24 ct24 oc25 kV25 dc25 pm25 cd25 ct25 oc26 kV26 dc26 pm26 cd26 ct26 : Value}
    {fD fR : Addr} {esD esR : Array DictEntry} {nD nR : Nat} {fT0 : Addr} {od_T0 : Option Addr} {n_T0 : Nat} {sl_T0 : Array (Option Value)} {k_0_0 : Tok} {fT1 : Addr} {od_T1 : Option Addr} {n_T1 : Nat} {sl_T1 : Array (Option Value)} {k_1_0 k_1_1 k_1_2 k_1_3 : Tok} {fT2 : Addr} {od_T2 : Option Addr} {n_T2 : Nat} {sl_T2 : Array (Option Value)} {k_2_0 k_2_1 k_2_2 : Tok} {fT3 : Addr} {od_T3 : Option Addr} {n_T3 : Nat} {sl_T3 : Array (Option Value)} {k_3_0 k_3_1 : Tok} {fT4 : Addr} {od_T4 : Option Addr} {n_T4 : Nat} {sl_T4 : Array (Option Value)} {k_4_0 k_4_1 : Tok} {fT5 : Addr} {od_T5 : Option Addr} {n_T5 : Nat} {sl_T5 : Array (Option Value)} {k_5_0 k_5_1 : Tok} {fT6 : Addr} {od_T6 : Option Addr} {n_T6 : Nat} {sl_T6 : Array (Option Value)} {k_6_0 : Tok} {fT7 : Addr} {od_T7 : Option Addr} {n_T7 : Nat} {sl_T7 : Array (Option Value)} {k_7_0 k_7_1 : Tok} {fT8 : Addr} {od_T8 : Option Addr} {n_T8 : Nat} {sl_T8 : Array (Option Value)} {k_8_0 : Tok} {fT9 : Addr} {od_T9 : Option Addr} {n_T9 : Nat} {sl_T9 : Array (Option Value)} {k_9_0 k_9_1 : Tok} {fT10 : Addr} {od_T10 : Option Addr} {n_T10 : Nat} {sl_T10 : Array (Option Value)} {fT11 : Addr} {od_T11 : Option Addr} {n_T11 : Nat} {sl_T11 : Array (Option Value)} {k_11_0 : Tok} {fT12 : Addr} {od_T12 : Option Addr} {n_T12 : Nat} {sl_T12 : Array (Option Value)} {k_12_0 k_12_1 k_12_2 : Tok} {fT13 : Addr} {od_T13 : Option Addr} {n_T13 : Nat} {sl_T13 : Array (Option Value)} {k_13_0 k_13_1 : Tok} {fT14 : Addr} {od_T14 : Option Addr} {n_T14 : Nat} {sl_T14 : Array (Option Value)} {k_14_0 k_14_1 k_14_2 : Tok} {fT15 : Addr} {od_T15 : Option Addr} {n_T15 : Nat} {sl_T15 : Array (Option Value)} {k_15_0 : Tok} {fT16 : Addr} {od_T16 : Option Addr} {n_T16 : Nat} {sl_T16 : Array (Option Value)} {k_16_0 : Tok} {fT17 : Addr} {od_T17 : Option Addr} {n_T17 : Nat} {sl_T17 : Array (Option Value)} {k_17_0 : Tok} {fT18 : Addr} {od_T18 : Option Addr} {n_T18 : Nat} {sl_T18 : Array (Option Value)} {k_18_0 : Tok} {fT19 : Addr} {od_T19 : Option Addr} {n_T19 : Nat} {sl_T19 : Array (Option Value)} {k_19_0 : Tok} {fT20 : Addr} {od_T20 : Option Addr} {n_T20 : Nat} {sl_T20 : Array (Option Value)} {k_20_0 : Tok} {fT21 : Addr} {od_T21 : Option Addr} {n_T21 : Nat} {sl_T21 : Array (Option Value)} {k_21_0 k_21_1 : Tok} {fT22 : Addr} {od_T22 : Option Addr} {n_T22 : Nat} {sl_T22 : Array (Option Value)} {k_22_0 k_22_1 k_22_2 : Tok} {fT23 : Addr} {od_T23 : Option Addr} {n_T23 : Nat} {sl_T23 : Array (Option Value)} {k_23_0 k_23_1 : Tok} {fT24 : Addr} {od_T24 : Option Addr} {n_T24 : Nat} {sl_T24 : Array (Option Value)} {k_24_0 k_24_1 : Tok} {fT25 : Addr} {od_T25 : Option Addr} {n_T25 : Nat} {sl_T25 : Array (Option Value)} {k_25_0 k_25_1 : Tok} {fT26 : Addr} {od_T26 : Option Addr} {n_T26 : Nat} {sl_T26 : Array (Option Value)}
    {i150 : Addr} {e100 : Addr} {e101 : Addr} {e102 : Addr} {e103 : Addr} {nm101 q101 : Str} {N101 : Addr} {bs101 : List Value} {sn101 : List Str} {sub101 : List Value} {ab101 : Bool} {col101 : Option Bool} {dd101 : Option Addr} {x0101 x1101 x2101 x3101 x5101 : Option Value} {oc150 kV150 dc150 pm150 cd150 ct150 : Value} {od150 an150 : Option Addr} {sl150 : Array (Option Value)}
    {t27 : Tok}
    {t28 : Tok}
    {t29 : Tok}
    {t30 : Tok}
    {t31 : Tok}
    {t32 : Tok}
    {t33 : Tok}
    {t34 : Tok}
    {t35 : Tok}
    {t36 : Tok}
    (g27 : PySem.W.nsIn K mainGlobals "READ" = some (some (.str "read" t27)))
    (g28 : PySem.W.nsIn K mainGlobals "WRITE" = some (some (.str "write" t28)))
    (g29 : PySem.W.nsIn K mainGlobals "LETTERS" = some (some (.str "abcdefghijklmnopqrstuvwxyz" t29)))
    (g30 : PySem.W.nsIn K mainGlobals "MOST_LETTERS" = some (some (.int (6) t30)))
    (g31 : PySem.W.nsIn K mainGlobals "MOST_FIELDS" = some (some (.int (4) t31)))
    (g32 : PySem.W.nsIn K mainGlobals "FIGURES" = some (some (.str "0123456789" t32)))
    (g33 : PySem.W.nsIn K mainGlobals "MOST_FIGURES" = some (some (.int (30) t33)))
    (g34 : PySem.W.nsIn K mainGlobals "BLANK" = some (some (.str " " t34)))
    (g35 : PySem.W.nsIn K mainGlobals "COMMA" = some (some (.str "," t35)))
    (g36 : PySem.W.nsIn K mainGlobals "SLASH" = some (some (.str "/" t36)))
    (a0 : PySem.W.nsIn K mainGlobals "is_key" = some (some (.ref f0)))
    (l0 : K.lookup f0 = some ⟨oc0, od0, .func (PySem.W.fnOf "is_key" "is_key" (defArgs s_is_key) (defBody s_is_key) (defScope s_is_key) .none kV0 dc0 pm0 an0 cd0 ct0), sl0⟩) (c0 : PySem.W.codeIn K cd0 "is_key" = true) (k0 : PySem.W.keepIn K (.ref f0) = true)
    (a1 : PySem.W.nsIn K mainGlobals "is_number_text" = some (some (.ref f1)))
    (l1 : K.lookup f1 = some ⟨oc1, od1, .func (PySem.W.fnOf "is_number_text" "is_number_text" (defArgs s_is_number_text) (defBody s_is_number_text) (defScope s_is_number_text) .none kV1 dc1 pm1 an1 cd1 ct1), sl1⟩) (c1 : PySem.W.codeIn K cd1 "is_number_text" = true) (k1 : PySem.W.keepIn K (.ref f1) = true)
    (a2 : PySem.W.nsIn K mainGlobals "read_number" = some (some (.ref f2)))
    (l2 : K.lookup f2 = some ⟨oc2, od2, .func (PySem.W.fnOf "read_number" "read_number" (defArgs s_read_number) (defBody s_read_number) (defScope s_read_number) .none kV2 dc2 pm2 an2 cd2 ct2), sl2⟩) (c2 : PySem.W.codeIn K cd2 "read_number" = true) (k2 : PySem.W.keepIn K (.ref f2) = true)
    (a3 : PySem.W.nsIn K mainGlobals "read_numbers" = some (some (.ref f3)))
    (l3 : K.lookup f3 = some ⟨oc3, od3, .func (PySem.W.fnOf "read_numbers" "read_numbers" (defArgs s_read_numbers) (defBody s_read_numbers) (defScope s_read_numbers) .none kV3 dc3 pm3 an3 cd3 ct3), sl3⟩) (c3 : PySem.W.codeIn K cd3 "read_numbers" = true) (k3 : PySem.W.keepIn K (.ref f3) = true)
    (a4 : PySem.W.nsIn K mainGlobals "read_worth" = some (some (.ref f4)))
    (l4 : K.lookup f4 = some ⟨oc4, od4, .func (PySem.W.fnOf "read_worth" "read_worth" (defArgs s_read_worth) (defBody s_read_worth) (defScope s_read_worth) .none kV4 dc4 pm4 an4 cd4 ct4), sl4⟩) (c4 : PySem.W.codeIn K cd4 "read_worth" = true) (k4 : PySem.W.keepIn K (.ref f4) = true)
    (a5 : PySem.W.nsIn K mainGlobals "read_pace" = some (some (.ref f5)))
    (l5 : K.lookup f5 = some ⟨oc5, od5, .func (PySem.W.fnOf "read_pace" "read_pace" (defArgs s_read_pace) (defBody s_read_pace) (defScope s_read_pace) .none kV5 dc5 pm5 an5 cd5 ct5), sl5⟩) (c5 : PySem.W.codeIn K cd5 "read_pace" = true) (k5 : PySem.W.keepIn K (.ref f5) = true)
    (a6 : PySem.W.nsIn K mainGlobals "read_key" = some (some (.ref f6)))
    (l6 : K.lookup f6 = some ⟨oc6, od6, .func (PySem.W.fnOf "read_key" "read_key" (defArgs s_read_key) (defBody s_read_key) (defScope s_read_key) .none kV6 dc6 pm6 an6 cd6 ct6), sl6⟩) (c6 : PySem.W.codeIn K cd6 "read_key" = true) (k6 : PySem.W.keepIn K (.ref f6) = true)
    (a7 : PySem.W.nsIn K mainGlobals "read_keys" = some (some (.ref f7)))
    (l7 : K.lookup f7 = some ⟨oc7, od7, .func (PySem.W.fnOf "read_keys" "read_keys" (defArgs s_read_keys) (defBody s_read_keys) (defScope s_read_keys) .none kV7 dc7 pm7 an7 cd7 ct7), sl7⟩) (c7 : PySem.W.codeIn K cd7 "read_keys" = true) (k7 : PySem.W.keepIn K (.ref f7) = true)
    (a8 : PySem.W.nsIn K mainGlobals "read_way" = some (some (.ref f8)))
    (l8 : K.lookup f8 = some ⟨oc8, od8, .func (PySem.W.fnOf "read_way" "read_way" (defArgs s_read_way) (defBody s_read_way) (defScope s_read_way) .none kV8 dc8 pm8 an8 cd8 ct8), sl8⟩) (c8 : PySem.W.codeIn K cd8 "read_way" = true) (k8 : PySem.W.keepIn K (.ref f8) = true)
    (a9 : PySem.W.nsIn K mainGlobals "read_thing" = some (some (.ref f9)))
    (l9 : K.lookup f9 = some ⟨oc9, od9, .func (PySem.W.fnOf "read_thing" "read_thing" (defArgs s_read_thing) (defBody s_read_thing) (defScope s_read_thing) .none kV9 dc9 pm9 an9 cd9 ct9), sl9⟩) (c9 : PySem.W.codeIn K cd9 "read_thing" = true) (k9 : PySem.W.keepIn K (.ref f9) = true)
    (a10 : PySem.W.nsIn K mainGlobals "read_deed" = some (some (.ref f10)))
    (l10 : K.lookup f10 = some ⟨oc10, od10, .func (PySem.W.fnOf "read_deed" "read_deed" (defArgs s_read_deed) (defBody s_read_deed) (defScope s_read_deed) .none kV10 dc10 pm10 an10 cd10 ct10), sl10⟩) (c10 : PySem.W.codeIn K cd10 "read_deed" = true) (k10 : PySem.W.keepIn K (.ref f10) = true)
    (a11 : PySem.W.nsIn K mainGlobals "read_deed_words" = some (some (.ref f11)))
    (l11 : K.lookup f11 = some ⟨oc11, od11, .func (PySem.W.fnOf "read_deed_words" "read_deed_words" (defArgs s_read_deed_words) (defBody s_read_deed_words) (defScope s_read_deed_words) .none kV11 dc11 pm11 an11 cd11 ct11), sl11⟩) (c11 : PySem.W.codeIn K cd11 "read_deed_words" = true) (k11 : PySem.W.keepIn K (.ref f11) = true)
    (a12 : PySem.W.nsIn K mainGlobals "_law_begun" = some (some (.ref f12)))
    (l12 : K.lookup f12 = some ⟨oc12, od12, .func (PySem.W.fnOf "_law_begun" "_law_begun" (defArgs s_l_begun) (defBody s_l_begun) (defScope s_l_begun) .none kV12 dc12 pm12 an12 cd12 ct12), sl12⟩) (c12 : PySem.W.codeIn K cd12 "_law_begun" = true) (k12 : PySem.W.keepIn K (.ref f12) = true)
    (a13 : PySem.W.nsIn K mainGlobals "_law_take" = some (some (.ref f13)))
    (l13 : K.lookup f13 = some ⟨oc13, od13, .func (PySem.W.fnOf "_law_take" "_law_take" (defArgs s_l_take) (defBody s_l_take) (defScope s_l_take) .none kV13 dc13 pm13 an13 cd13 ct13), sl13⟩) (c13 : PySem.W.codeIn K cd13 "_law_take" = true) (k13 : PySem.W.keepIn K (.ref f13) = true)
    (a14 : PySem.W.nsIn K mainGlobals "_law_a_key" = some (some (.ref f14)))
    (l14 : K.lookup f14 = some ⟨oc14, od14, .func (PySem.W.fnOf "_law_a_key" "_law_a_key" (defArgs s_l_a_key) (defBody s_l_a_key) (defScope s_l_a_key) .none kV14 dc14 pm14 an14 cd14 ct14), sl14⟩) (c14 : PySem.W.codeIn K cd14 "_law_a_key" = true) (k14 : PySem.W.keepIn K (.ref f14) = true)
    (a15 : PySem.W.nsIn K mainGlobals "_law_number" = some (some (.ref f15)))
    (l15 : K.lookup f15 = some ⟨oc15, od15, .func (PySem.W.fnOf "_law_number" "_law_number" (defArgs s_l_number) (defBody s_l_number) (defScope s_l_number) .none kV15 dc15 pm15 an15 cd15 ct15), sl15⟩) (c15 : PySem.W.codeIn K cd15 "_law_number" = true) (k15 : PySem.W.keepIn K (.ref f15) = true)
    (a16 : PySem.W.nsIn K mainGlobals "_law_things" = some (some (.ref f16)))
    (l16 : K.lookup f16 = some ⟨oc16, od16, .func (PySem.W.fnOf "_law_things" "_law_things" (defArgs s_l_things) (defBody s_l_things) (defScope s_l_things) .none kV16 dc16 pm16 an16 cd16 ct16), sl16⟩) (c16 : PySem.W.codeIn K cd16 "_law_things" = true) (k16 : PySem.W.keepIn K (.ref f16) = true)
    (a17 : PySem.W.nsIn K mainGlobals "_law_kinds" = some (some (.ref f17)))
    (l17 : K.lookup f17 = some ⟨oc17, od17, .func (PySem.W.fnOf "_law_kinds" "_law_kinds" (defArgs s_l_kinds) (defBody s_l_kinds) (defScope s_l_kinds) .none kV17 dc17 pm17 an17 cd17 ct17), sl17⟩) (c17 : PySem.W.codeIn K cd17 "_law_kinds" = true) (k17 : PySem.W.keepIn K (.ref f17) = true)
    (a18 : PySem.W.nsIn K mainGlobals "_law_text" = some (some (.ref f18)))
    (l18 : K.lookup f18 = some ⟨oc18, od18, .func (PySem.W.fnOf "_law_text" "_law_text" (defArgs s_l_text) (defBody s_l_text) (defScope s_l_text) .none kV18 dc18 pm18 an18 cd18 ct18), sl18⟩) (c18 : PySem.W.codeIn K cd18 "_law_text" = true) (k18 : PySem.W.keepIn K (.ref f18) = true)
    (a19 : PySem.W.nsIn K mainGlobals "_law_drawn" = some (some (.ref f19)))
    (l19 : K.lookup f19 = some ⟨oc19, od19, .func (PySem.W.fnOf "_law_drawn" "_law_drawn" (defArgs s_l_drawn) (defBody s_l_drawn) (defScope s_l_drawn) .none kV19 dc19 pm19 an19 cd19 ct19), sl19⟩) (c19 : PySem.W.codeIn K cd19 "_law_drawn" = true) (k19 : PySem.W.keepIn K (.ref f19) = true)
    (a20 : PySem.W.nsIn K mainGlobals "_law_is_number" = some (some (.ref f20)))
    (l20 : K.lookup f20 = some ⟨oc20, od20, .func (PySem.W.fnOf "_law_is_number" "_law_is_number" (defArgs s_l_is_number) (defBody s_l_is_number) (defScope s_l_is_number) .none kV20 dc20 pm20 an20 cd20 ct20), sl20⟩) (c20 : PySem.W.codeIn K cd20 "_law_is_number" = true) (k20 : PySem.W.keepIn K (.ref f20) = true)
    (a21 : PySem.W.nsIn K mainGlobals "_law_is_key" = some (some (.ref f21)))
    (l21 : K.lookup f21 = some ⟨oc21, od21, .func (PySem.W.fnOf "_law_is_key" "_law_is_key" (defArgs s_l_is_key) (defBody s_l_is_key) (defScope s_l_is_key) .none kV21 dc21 pm21 an21 cd21 ct21), sl21⟩) (c21 : PySem.W.codeIn K cd21 "_law_is_key" = true) (k21 : PySem.W.keepIn K (.ref f21) = true)
    (a22 : PySem.W.nsIn K mainGlobals "_law_read_thing" = some (some (.ref f22)))
    (l22 : K.lookup f22 = some ⟨oc22, od22, .func (PySem.W.fnOf "_law_read_thing" "_law_read_thing" (defArgs s_l_read_thing) (defBody s_l_read_thing) (defScope s_l_read_thing) .none kV22 dc22 pm22 an22 cd22 ct22), sl22⟩) (c22 : PySem.W.codeIn K cd22 "_law_read_thing" = true) (k22 : PySem.W.keepIn K (.ref f22) = true)
    (a23 : PySem.W.nsIn K mainGlobals "_law_due" = some (some (.ref f23)))
    (l23 : K.lookup f23 = some ⟨oc23, od23, .func (PySem.W.fnOf "_law_due" "_law_due" (defArgs s_l_due) (defBody s_l_due) (defScope s_l_due) .none kV23 dc23 pm23 an23 cd23 ct23), sl23⟩) (c23 : PySem.W.codeIn K cd23 "_law_due" = true) (k23 : PySem.W.keepIn K (.ref f23) = true)
    (a24 : PySem.W.nsIn K mainGlobals "_law_right" = some (some (.ref f24)))
    (l24 : K.lookup f24 = some ⟨oc24, od24, .func (PySem.W.fnOf "_law_right" "_law_right" (defArgs s_l_right) (defBody s_l_right) (defScope s_l_right) .none kV24 dc24 pm24 an24 cd24 ct24), sl24⟩) (c24 : PySem.W.codeIn K cd24 "_law_right" = true) (k24 : PySem.W.keepIn K (.ref f24) = true)
    (a25 : PySem.W.nsIn K mainGlobals "_law_bent" = some (some (.ref f25)))
    (l25 : K.lookup f25 = some ⟨oc25, od25, .func (PySem.W.fnOf "_law_bent" "_law_bent" (defArgs s_l_bent) (defBody s_l_bent) (defScope s_l_bent) .none kV25 dc25 pm25 an25 cd25 ct25), sl25⟩) (c25 : PySem.W.codeIn K cd25 "_law_bent" = true) (k25 : PySem.W.keepIn K (.ref f25) = true)
    (a26 : PySem.W.nsIn K mainGlobals "law" = some (some (.ref f26)))
    (l26 : K.lookup f26 = some ⟨oc26, od26, .func (PySem.W.fnOf "law" "law" (defArgs s_law) (defBody s_law) (defScope s_law) .none kV26 dc26 pm26 an26 cd26 ct26), sl26⟩) (c26 : PySem.W.codeIn K cd26 "law" = true) (k26 : PySem.W.keepIn K (.ref f26) = true)
    (z_max : PySem.W.nsIn K mainGlobals "max" = some none)
    (z_min : PySem.W.nsIn K mainGlobals "min" = some none)
    (z_len : PySem.W.nsIn K mainGlobals "len" = some none)
    (z_int : PySem.W.nsIn K mainGlobals "int" = some none)
    (z_range : PySem.W.nsIn K mainGlobals "range" = some none)
    (z_isinstance : PySem.W.nsIn K mainGlobals "isinstance" = some none)
    (z_tuple : PySem.W.nsIn K mainGlobals "tuple" = some none)
    (z_repr : PySem.W.nsIn K mainGlobals "repr" = some none)
    (z_list : PySem.W.nsIn K mainGlobals "list" = some none)
    (z_str : PySem.W.nsIn K mainGlobals "str" = some none)
    (z_sorted : PySem.W.nsIn K mainGlobals "sorted" = some none)
    (z_zip : PySem.W.nsIn K mainGlobals "zip" = some none)
    (gD : PySem.W.nsIn K mainGlobals "DEED_THINGS" = some (some (.ref fD))) (lD : K.lookup fD = some ⟨.type "dict", none, .dict esD nD, #[]⟩) (kD1 : PySem.W.KeysLit w.params esD.toList) (kD2 : (fD == sysModules) = false) (kD3 : KeysIn DNAMES esD.toList)
    (hD0 : PySem.W.nsIn K fD "tick" = some (some (.ref fT0))) (lTT0 : K.lookup fT0 = some ⟨.type "tuple", od_T0, .seq #[.str "number" k_0_0] n_T0, sl_T0⟩)
    (hD1 : PySem.W.nsIn K fD "set" = some (some (.ref fT1))) (lTT1 : K.lookup fT1 = some ⟨.type "tuple", od_T1, .seq #[.str "number" k_1_0, .str "number" k_1_1, .str "number" k_1_2, .str "number" k_1_3] n_T1, sl_T1⟩)
    (hD2 : PySem.W.nsIn K fD "pace" = some (some (.ref fT2))) (lTT2 : K.lookup fT2 = some ⟨.type "tuple", od_T2, .seq #[.str "number" k_2_0, .str "number" k_2_1, .str "pace" k_2_2] n_T2, sl_T2⟩)
    (hD3 : PySem.W.nsIn K fD "stop" = some (some (.ref fT3))) (lTT3 : K.lookup fT3 = some ⟨.type "tuple", od_T3, .seq #[.str "number" k_3_0, .str "number" k_3_1] n_T3, sl_T3⟩)
    (hD4 : PySem.W.nsIn K fD "back" = some (some (.ref fT4))) (lTT4 : K.lookup fT4 = some ⟨.type "tuple", od_T4, .seq #[.str "number" k_4_0, .str "number" k_4_1] n_T4, sl_T4⟩)
    (hD5 : PySem.W.nsIn K fD "choose" = some (some (.ref fT5))) (lTT5 : K.lookup fT5 = some ⟨.type "tuple", od_T5, .seq #[.str "number" k_5_0, .str "number" k_5_1] n_T5, sl_T5⟩)
    (hD6 : PySem.W.nsIn K fD "renew" = some (some (.ref fT6))) (lTT6 : K.lookup fT6 = some ⟨.type "tuple", od_T6, .seq #[.str "number" k_6_0] n_T6, sl_T6⟩)
    (hD7 : PySem.W.nsIn K fD "catch" = some (some (.ref fT7))) (lTT7 : K.lookup fT7 = some ⟨.type "tuple", od_T7, .seq #[.str "number" k_7_0, .str "number" k_7_1] n_T7, sl_T7⟩)
    (hD8 : PySem.W.nsIn K fD "mark" = some (some (.ref fT8))) (lTT8 : K.lookup fT8 = some ⟨.type "tuple", od_T8, .seq #[.str "number" k_8_0] n_T8, sl_T8⟩)
    (hD9 : PySem.W.nsIn K fD "gone" = some (some (.ref fT9))) (lTT9 : K.lookup fT9 = some ⟨.type "tuple", od_T9, .seq #[.str "number" k_9_0, .str "number" k_9_1] n_T9, sl_T9⟩)
    (hD10 : PySem.W.nsIn K fD "begin" = some (some (.ref fT10))) (lTT10 : K.lookup fT10 = some ⟨.type "tuple", od_T10, .seq #[] n_T10, sl_T10⟩)
    (hD11 : PySem.W.nsIn K fD "again" = some (some (.ref fT11))) (lTT11 : K.lookup fT11 = some ⟨.type "tuple", od_T11, .seq #[.str "number" k_11_0] n_T11, sl_T11⟩)
    (hD12 : PySem.W.nsIn K fD "take" = some (some (.ref fT12))) (lTT12 : K.lookup fT12 = some ⟨.type "tuple", od_T12, .seq #[.str "number" k_12_0, .str "key" k_12_1, .str "way" k_12_2] n_T12, sl_T12⟩)
    (hD13 : PySem.W.nsIn K fD "read" = some (some (.ref fT13))) (lTT13 : K.lookup fT13 = some ⟨.type "tuple", od_T13, .seq #[.str "number" k_13_0, .str "key" k_13_1] n_T13, sl_T13⟩)
    (hD14 : PySem.W.nsIn K fD "write" = some (some (.ref fT14))) (lTT14 : K.lookup fT14 = some ⟨.type "tuple", od_T14, .seq #[.str "number" k_14_0, .str "key" k_14_1, .str "worth" k_14_2] n_T14, sl_T14⟩)
    (hD15 : PySem.W.nsIn K fD "finish" = some (some (.ref fT15))) (lTT15 : K.lookup fT15 = some ⟨.type "tuple", od_T15, .seq #[.str "number" k_15_0] n_T15, sl_T15⟩)
    (hD16 : PySem.W.nsIn K fD "tell" = some (some (.ref fT16))) (lTT16 : K.lookup fT16 = some ⟨.type "tuple", od_T16, .seq #[.str "number" k_16_0] n_T16, sl_T16⟩)
    (hD17 : PySem.W.nsIn K fD "stay" = some (some (.ref fT17))) (lTT17 : K.lookup fT17 = some ⟨.type "tuple", od_T17, .seq #[.str "number" k_17_0] n_T17, sl_T17⟩)
    (hD18 : PySem.W.nsIn K fD "deliver" = some (some (.ref fT18))) (lTT18 : K.lookup fT18 = some ⟨.type "tuple", od_T18, .seq #[.str "number" k_18_0] n_T18, sl_T18⟩)
    (hD19 : PySem.W.nsIn K fD "lose" = some (some (.ref fT19))) (lTT19 : K.lookup fT19 = some ⟨.type "tuple", od_T19, .seq #[.str "number" k_19_0] n_T19, sl_T19⟩)
    (hD20 : PySem.W.nsIn K fD "question" = some (some (.ref fT20))) (lTT20 : K.lookup fT20 = some ⟨.type "tuple", od_T20, .seq #[.str "number" k_20_0] n_T20, sl_T20⟩)
    (hD21 : PySem.W.nsIn K fD "at" = some (some (.ref fT21))) (lTT21 : K.lookup fT21 = some ⟨.type "tuple", od_T21, .seq #[.str "number" k_21_0, .str "keys" k_21_1] n_T21, sl_T21⟩)
    (hD22 : PySem.W.nsIn K fD "copy" = some (some (.ref fT22))) (lTT22 : K.lookup fT22 = some ⟨.type "tuple", od_T22, .seq #[.str "number" k_22_0, .str "number" k_22_1, .str "keys" k_22_2] n_T22, sl_T22⟩)
    (hD23 : PySem.W.nsIn K fD "now" = some (some (.ref fT23))) (lTT23 : K.lookup fT23 = some ⟨.type "tuple", od_T23, .seq #[.str "number" k_23_0, .str "keys" k_23_1] n_T23, sl_T23⟩)
    (hD24 : PySem.W.nsIn K fD "move" = some (some (.ref fT24))) (lTT24 : K.lookup fT24 = some ⟨.type "tuple", od_T24, .seq #[.str "key" k_24_0, .str "number" k_24_1] n_T24, sl_T24⟩)
    (hD25 : PySem.W.nsIn K fD "form" = some (some (.ref fT25))) (lTT25 : K.lookup fT25 = some ⟨.type "tuple", od_T25, .seq #[.str "number" k_25_0, .str "number" k_25_1] n_T25, sl_T25⟩)
    (hD26 : PySem.W.nsIn K fD "settle" = some (some (.ref fT26))) (lTT26 : K.lookup fT26 = some ⟨.type "tuple", od_T26, .seq #[] n_T26, sl_T26⟩)
    (gR : PySem.W.nsIn K mainGlobals "READERS" = some (some (.ref fR))) (lR : K.lookup fR = some ⟨.type "dict", none, .dict esR nR, #[]⟩) (kR1 : PySem.W.KeysLit w.params esR.toList) (kR2 : (fR == sysModules) = false)
    (hR0 : PySem.W.nsIn K fR "number" = some (some (.ref f2)))
    (hR1 : PySem.W.nsIn K fR "pace" = some (some (.ref f5)))
    (hR2 : PySem.W.nsIn K fR "key" = some (some (.ref f6)))
    (hR3 : PySem.W.nsIn K fR "way" = some (some (.ref f8)))
    (hR4 : PySem.W.nsIn K fR "worth" = some (some (.ref f4)))
    (hR5 : PySem.W.nsIn K fR "keys" = some (some (.ref f7)))
    (aE100 : PySem.W.nsIn K mainGlobals "WaitError" = some (some (.ref e100)))
    (aE101 : PySem.W.nsIn K mainGlobals "NoText" = some (some (.ref e101)))
    (aE102 : PySem.W.nsIn K mainGlobals "NoDeed" = some (some (.ref e102)))
    (aE103 : PySem.W.nsIn K mainGlobals "NoRow" = some (some (.ref e103)))
    (tb100 : PySem.W.subIn K (.ref e100) (.type "BaseException") = some true)
    (tc100 : PySem.W.isClsIn K e100 = true)
    (tt100 : PySem.W.typeIn K (.ref e100) = some (.type "type"))
    (ts100 : PySem.W.subIn K (.ref e100) (.ref e100) = some true)
    (tb101 : PySem.W.subIn K (.ref e101) (.type "BaseException") = some true)
    (tc101 : PySem.W.isClsIn K e101 = true)
    (tt101 : PySem.W.typeIn K (.ref e101) = some (.type "type"))
    (ts101 : PySem.W.subIn K (.ref e101) (.ref e101) = some true)
    (tb102 : PySem.W.subIn K (.ref e102) (.type "BaseException") = some true)
    (tc102 : PySem.W.isClsIn K e102 = true)
    (tt102 : PySem.W.typeIn K (.ref e102) = some (.type "type"))
    (ts102 : PySem.W.subIn K (.ref e102) (.ref e102) = some true)
    (tb103 : PySem.W.subIn K (.ref e103) (.type "BaseException") = some true)
    (tc103 : PySem.W.isClsIn K e103 = true)
    (tt103 : PySem.W.typeIn K (.ref e103) = some (.type "type"))
    (ts103 : PySem.W.subIn K (.ref e103) (.ref e103) = some true)
    (j2 : PySem.W.specialIn K (.builtin "object.__class__") "__get__" = some (some (.builtin "getset_descriptor.__get__")))
    (j3 : PySem.W.takesIn K (.builtin "object.__class__") = some true)
    (x101 : K.lookup e101 = some (excClassObj nm101 q101 e101 N101 bs101 [.ref e100, .type "ValueError", .type "Exception", .type "BaseException", .type "object"] true sn101 sub101 ab101 col101 dd101 x0101 x1101 x2101 x3101 x5101 "ValueError.__new__"))
    (sa101 : PySem.W.findIn K (.ref e101) "__setattr__" = some (some (.builtin "object.__setattr__")))
    (xb101 : PySem.W.subIn K (.ref e101) (.type "BaseException") = some true)
    (ty101 : PySem.W.typeIn K (.ref e101) = some (.type "type"))
    (kp101 : PySem.W.keepIn K (.ref e101) = true)
    (in101 : PySem.W.findIn K (.ref e101) "__init__" = some (some (.ref i150)))
    (ga101 : PySem.W.findIn K (.ref e101) "__getattribute__" = some (some (.builtin "BaseException.__getattribute__")))
    (gg101 : PySem.W.findIn K (.ref e101) "__getattr__" = some none)
    (hd101 : PySem.W.hasDictIn K e101 = true)
    (jc101 : PySem.W.findIn K (.ref e101) "__class__" = some (some (.builtin "object.__class__")))
    (jm101 : PySem.W.mroIn K e101 (.type "object") = some true)
    (n0_101 : PySem.W.findIn K (.ref e101) "row" = some none)
    (ti150 : PySem.W.typeIn K (.ref i150) = some (.type "function"))
    (li150 : K.lookup i150 = some ⟨oc150, od150, .func (PySem.W.fnOf "__init__" "NoText.__init__" (defArgs s_INoText) (defBody s_INoText) (defScope s_INoText) .none kV150 dc150 pm150 an150 cd150 ct150), sl150⟩)
    (cc150 : PySem.W.codeIn K cd150 "NoText.__init__" = true)
    (kk150 : PySem.W.keepIn K (.ref i150) = true)
    (su0 : PySem.W.subIn K (.ref e101) (.ref e100) = some true)
    (su1 : PySem.W.subIn K (.ref e101) (.ref e101) = some true)
    (su2 : PySem.W.subIn K (.ref e101) (.ref e102) = some false)
    (su3 : PySem.W.subIn K (.ref e101) (.ref e103) = some false)
    : ∃ fd : FuncData, (∀ (s : Shared) (v : Value), BindsTo s fd ⟨[v], []⟩ [("_law_script", v)]) ∧ ∀ base : Heap, K.In base → base.Ns mainGlobals mg → FnG l.prog w K mg base 11 fa fd ["_law_script"] (spLaw K) := by
  have e := hfa.symm.trans (PySem.W.mg_of X G a26)
  cases e
  have F0 := fun_mk (st := s_is_key) l0 c0 k0
  have b0 := F0.binds (ps := ["thing"]) fun _ _ _ _ _ _ us hl => match us, hl with | [_], _ => rfl
  have F1 := fun_mk (st := s_is_number_text) l1 c1 k1
  have b1 := F1.binds (ps := ["text"]) fun _ _ _ _ _ _ us hl => match us, hl with | [_], _ => rfl
  have F2 := fun_mk (st := s_read_number) l2 c2 k2
  have b2 := F2.binds (ps := ["text"]) fun _ _ _ _ _ _ us hl => match us, hl with | [_], _ => rfl
  have F3 := fun_mk (st := s_read_numbers) l3 c3 k3
  have b3 := F3.binds (ps := ["text", "sign", "least", "most"]) fun _ _ _ _ _ _ us hl => match us, hl with | [_, _, _, _], _ => rfl
  have F4 := fun_mk (st := s_read_worth) l4 c4 k4
  have b4 := F4.binds (ps := ["text"]) fun _ _ _ _ _ _ us hl => match us, hl with | [_], _ => rfl
  have F5 := fun_mk (st := s_read_pace) l5 c5 k5
  have b5 := F5.binds (ps := ["text"]) fun _ _ _ _ _ _ us hl => match us, hl with | [_], _ => rfl
  have F6 := fun_mk (st := s_read_key) l6 c6 k6
  have b6 := F6.binds (ps := ["text"]) fun _ _ _ _ _ _ us hl => match us, hl with | [_], _ => rfl
  have F7 := fun_mk (st := s_read_keys) l7 c7 k7
  have b7 := F7.binds (ps := ["text"]) fun _ _ _ _ _ _ us hl => match us, hl with | [_], _ => rfl
  have F8 := fun_mk (st := s_read_way) l8 c8 k8
  have b8 := F8.binds (ps := ["text"]) fun _ _ _ _ _ _ us hl => match us, hl with | [_], _ => rfl
  have F9 := fun_mk (st := s_read_thing) l9 c9 k9
  have b9 := F9.binds (ps := ["text", "kind"]) fun _ _ _ _ _ _ us hl => match us, hl with | [_, _], _ => rfl
  have F10 := fun_mk (st := s_read_deed) l10 c10 k10
  have b10 := F10.binds (ps := ["text"]) fun _ _ _ _ _ _ us hl => match us, hl with | [_], _ => rfl
  have F11 := fun_mk (st := s_read_deed_words) l11 c11 k11
  have b11 := F11.binds (ps := ["words"]) fun _ _ _ _ _ _ us hl => match us, hl with | [_], _ => rfl
  have F12 := fun_mk (st := s_l_begun) l12 c12 k12
  have b12 := F12.binds (ps := ["_law_script", "_law_k"]) fun _ _ _ _ _ _ us hl => match us, hl with | [_, _], _ => rfl
  have F13 := fun_mk (st := s_l_take) l13 c13 k13
  have b13 := F13.binds (ps := ["_law_state", "_law_many"]) fun _ _ _ _ _ _ us hl => match us, hl with | [_, _], _ => rfl
  have F14 := fun_mk (st := s_l_a_key) l14 c14 k14
  have b14 := F14.binds (ps := ["_law_state"]) fun _ _ _ _ _ _ us hl => match us, hl with | [_], _ => rfl
  have F15 := fun_mk (st := s_l_number) l15 c15 k15
  have b15 := F15.binds (ps := ["_law_state"]) fun _ _ _ _ _ _ us hl => match us, hl with | [_], _ => rfl
  have F16 := fun_mk (st := s_l_things) l16 c16 k16
  have b16 := F16.binds (ps := ["_law_state", "_law_kinds_here"]) fun _ _ _ _ _ _ us hl => match us, hl with | [_, _], _ => rfl
  have F17 := fun_mk (st := s_l_kinds) l17 c17 k17
  have b17 := F17.binds (ps := []) fun _ _ _ _ _ _ us hl => match us, hl with | [], _ => rfl
  have F18 := fun_mk (st := s_l_text) l18 c18 k18
  have b18 := F18.binds (ps := ["_law_deed"]) fun _ _ _ _ _ _ us hl => match us, hl with | [_], _ => rfl
  have F19 := fun_mk (st := s_l_drawn) l19 c19 k19
  have b19 := F19.binds (ps := ["_law_state"]) fun _ _ _ _ _ _ us hl => match us, hl with | [_], _ => rfl
  have F20 := fun_mk (st := s_l_is_number) l20 c20 k20
  have b20 := F20.binds (ps := ["_law_word"]) fun _ _ _ _ _ _ us hl => match us, hl with | [_], _ => rfl
  have F21 := fun_mk (st := s_l_is_key) l21 c21 k21
  have b21 := F21.binds (ps := ["_law_word"]) fun _ _ _ _ _ _ us hl => match us, hl with | [_], _ => rfl
  have F22 := fun_mk (st := s_l_read_thing) l22 c22 k22
  have b22 := F22.binds (ps := ["_law_kind", "_law_word"]) fun _ _ _ _ _ _ us hl => match us, hl with | [_, _], _ => rfl
  have F23 := fun_mk (st := s_l_due) l23 c23 k23
  have b23 := F23.binds (ps := ["_law_text_here"]) fun _ _ _ _ _ _ us hl => match us, hl with | [_], _ => rfl
  have F24 := fun_mk (st := s_l_right) l24 c24 k24
  have b24 := F24.binds (ps := ["_law_text_here"]) fun _ _ _ _ _ _ us hl => match us, hl with | [_], _ => rfl
  have F25 := fun_mk (st := s_l_bent) l25 c25 k25
  have b25 := F25.binds (ps := ["_law_state", "_law_text_here"]) fun _ _ _ _ _ _ us hl => match us, hl with | [_, _], _ => rfl
  have F26 := fun_mk (st := s_law) l26 c26 k26
  have b26 := F26.binds (ps := ["_law_script"]) fun _ _ _ _ _ _ us hl => match us, hl with | [_], _ => rfl
  have FI150 := fun_mk (st := s_INoText) li150 cc150 kk150
  have bI150 := FI150.binds (ps := ["self", "row"]) fun _ _ _ _ _ _ us hl => match us, hl with | [_, _], _ => rfl
  let a : Nat → Addr := fun i => match i with | 0 => f0 | 1 => f1 | 2 => f2 | 3 => f3 | 4 => f4 | 5 => f5 | 6 => f6 | 7 => f7 | 8 => f8 | 9 => f9 | 10 => f10 | 11 => f11 | 12 => f12 | 13 => f13 | 14 => f14 | 15 => f15 | 16 => f16 | 17 => f17 | 18 => f18 | 19 => f19 | 20 => f20 | 21 => f21 | 22 => f22 | 23 => f23 | 24 => f24 | 25 => f25 | 26 => fa | 59 => fR | 60 => fD | 61 => fT0 | 62 => fT1 | 63 => fT2 | 64 => fT3 | 65 => fT4 | 66 => fT5 | 67 => fT6 | 68 => fT7 | 69 => fT8 | 70 => fT9 | 71 => fT10 | 72 => fT11 | 73 => fT12 | 74 => fT13 | 75 => fT14 | 76 => fT15 | 77 => fT16 | 78 => fT17 | 79 => fT18 | 80 => fT19 | 81 => fT20 | 82 => fT21 | 83 => fT22 | 84 => fT23 | 85 => fT24 | 86 => fT25 | 87 => fT26 | 100 => e100 | 101 => e101 | 102 => e102 | 103 => e103 | 150 => i150 | _ => 0
  let d : Nat → FuncData := fun i => match i with | 0 => (PySem.W.fnOf "is_key" "is_key" (defArgs s_is_key) (defBody s_is_key) (defScope s_is_key) .none kV0 dc0 pm0 an0 cd0 ct0) | 1 => (PySem.W.fnOf "is_number_text" "is_number_text" (defArgs s_is_number_text) (defBody s_is_number_text) (defScope s_is_number_text) .none kV1 dc1 pm1 an1 cd1 ct1) | 2 => (PySem.W.fnOf "read_number" "read_number" (defArgs s_read_number) (defBody s_read_number) (defScope s_read_number) .none kV2 dc2 pm2 an2 cd2 ct2) | 3 => (PySem.W.fnOf "read_numbers" "read_numbers" (defArgs s_read_numbers) (defBody s_read_numbers) (defScope s_read_numbers) .none kV3 dc3 pm3 an3 cd3 ct3) | 4 => (PySem.W.fnOf "read_worth" "read_worth" (defArgs s_read_worth) (defBody s_read_worth) (defScope s_read_worth) .none kV4 dc4 pm4 an4 cd4 ct4) | 5 => (PySem.W.fnOf "read_pace" "read_pace" (defArgs s_read_pace) (defBody s_read_pace) (defScope s_read_pace) .none kV5 dc5 pm5 an5 cd5 ct5) | 6 => (PySem.W.fnOf "read_key" "read_key" (defArgs s_read_key) (defBody s_read_key) (defScope s_read_key) .none kV6 dc6 pm6 an6 cd6 ct6) | 7 => (PySem.W.fnOf "read_keys" "read_keys" (defArgs s_read_keys) (defBody s_read_keys) (defScope s_read_keys) .none kV7 dc7 pm7 an7 cd7 ct7) | 8 => (PySem.W.fnOf "read_way" "read_way" (defArgs s_read_way) (defBody s_read_way) (defScope s_read_way) .none kV8 dc8 pm8 an8 cd8 ct8) | 9 => (PySem.W.fnOf "read_thing" "read_thing" (defArgs s_read_thing) (defBody s_read_thing) (defScope s_read_thing) .none kV9 dc9 pm9 an9 cd9 ct9) | 10 => (PySem.W.fnOf "read_deed" "read_deed" (defArgs s_read_deed) (defBody s_read_deed) (defScope s_read_deed) .none kV10 dc10 pm10 an10 cd10 ct10) | 11 => (PySem.W.fnOf "read_deed_words" "read_deed_words" (defArgs s_read_deed_words) (defBody s_read_deed_words) (defScope s_read_deed_words) .none kV11 dc11 pm11 an11 cd11 ct11) | 12 => (PySem.W.fnOf "_law_begun" "_law_begun" (defArgs s_l_begun) (defBody s_l_begun) (defScope s_l_begun) .none kV12 dc12 pm12 an12 cd12 ct12) | 13 => (PySem.W.fnOf "_law_take" "_law_take" (defArgs s_l_take) (defBody s_l_take) (defScope s_l_take) .none kV13 dc13 pm13 an13 cd13 ct13) | 14 => (PySem.W.fnOf "_law_a_key" "_law_a_key" (defArgs s_l_a_key) (defBody s_l_a_key) (defScope s_l_a_key) .none kV14 dc14 pm14 an14 cd14 ct14) | 15 => (PySem.W.fnOf "_law_number" "_law_number" (defArgs s_l_number) (defBody s_l_number) (defScope s_l_number) .none kV15 dc15 pm15 an15 cd15 ct15) | 16 => (PySem.W.fnOf "_law_things" "_law_things" (defArgs s_l_things) (defBody s_l_things) (defScope s_l_things) .none kV16 dc16 pm16 an16 cd16 ct16) | 17 => (PySem.W.fnOf "_law_kinds" "_law_kinds" (defArgs s_l_kinds) (defBody s_l_kinds) (defScope s_l_kinds) .none kV17 dc17 pm17 an17 cd17 ct17) | 18 => (PySem.W.fnOf "_law_text" "_law_text" (defArgs s_l_text) (defBody s_l_text) (defScope s_l_text) .none kV18 dc18 pm18 an18 cd18 ct18) | 19 => (PySem.W.fnOf "_law_drawn" "_law_drawn" (defArgs s_l_drawn) (defBody s_l_drawn) (defScope s_l_drawn) .none kV19 dc19 pm19 an19 cd19 ct19) | 20 => (PySem.W.fnOf "_law_is_number" "_law_is_number" (defArgs s_l_is_number) (defBody s_l_is_number) (defScope s_l_is_number) .none kV20 dc20 pm20 an20 cd20 ct20) | 21 => (PySem.W.fnOf "_law_is_key" "_law_is_key" (defArgs s_l_is_key) (defBody s_l_is_key) (defScope s_l_is_key) .none kV21 dc21 pm21 an21 cd21 ct21) | 22 => (PySem.W.fnOf "_law_read_thing" "_law_read_thing" (defArgs s_l_read_thing) (defBody s_l_read_thing) (defScope s_l_read_thing) .none kV22 dc22 pm22 an22 cd22 ct22) | 23 => (PySem.W.fnOf "_law_due" "_law_due" (defArgs s_l_due) (defBody s_l_due) (defScope s_l_due) .none kV23 dc23 pm23 an23 cd23 ct23) | 24 => (PySem.W.fnOf "_law_right" "_law_right" (defArgs s_l_right) (defBody s_l_right) (defScope s_l_right) .none kV24 dc24 pm24 an24 cd24 ct24) | 25 => (PySem.W.fnOf "_law_bent" "_law_bent" (defArgs s_l_bent) (defBody s_l_bent) (defScope s_l_bent) .none kV25 dc25 pm25 an25 cd25 ct25) | 26 => (PySem.W.fnOf "law" "law" (defArgs s_law) (defBody s_law) (defScope s_law) .none kV26 dc26 pm26 an26 cd26 ct26) | 150 => (PySem.W.fnOf "__init__" "NoText.__init__" (defArgs s_INoText) (defBody s_INoText) (defScope s_INoText) .none kV150 dc150 pm150 an150 cd150 ct150) | _ => (PySem.W.fnOf "law" "law" (defArgs s_law) (defBody s_law) (defScope s_law) .none kV26 dc26 pm26 an26 cd26 ct26)
  have T : Txt w K mg a d := ⟨PySem.W.mg_of X G a0, F0, b0, PySem.W.mg_of X G a1, F1, b1, PySem.W.mg_of X G a2, F2, b2, PySem.W.mg_of X G a3, F3, b3, PySem.W.mg_of X G a4, F4, b4, PySem.W.mg_of X G a5, F5, b5, PySem.W.mg_of X G a6, F6, b6, PySem.W.mg_of X G a7, F7, b7, PySem.W.mg_of X G a8, F8, b8, PySem.W.mg_of X G a9, F9, b9, PySem.W.mg_of X G a10, F10, b10, PySem.W.mg_of X G a11, F11, b11, PySem.W.mg_of X G a12, F12, b12, PySem.W.mg_of X G a13, F13, b13, PySem.W.mg_of X G a14, F14, b14, PySem.W.mg_of X G a15, F15, b15, PySem.W.mg_of X G a16, F16, b16, PySem.W.mg_of X G a17, F17, b17, PySem.W.mg_of X G a18, F18, b18, PySem.W.mg_of X G a19, F19, b19, PySem.W.mg_of X G a20, F20, b20, PySem.W.mg_of X G a21, F21, b21, PySem.W.mg_of X G a22, F22, b22, PySem.W.mg_of X G a23, F23, b23, PySem.W.mg_of X G a24, F24, b24, PySem.W.mg_of X G a25, F25, b25, PySem.W.mg_of X G a26, F26, b26, ⟨_, PySem.W.mg_of X G g27⟩, ⟨_, PySem.W.mg_of X G g28⟩, ⟨_, PySem.W.mg_of X G g29⟩, ⟨_, PySem.W.mg_of X G g30⟩, ⟨_, PySem.W.mg_of X G g31⟩, ⟨_, PySem.W.mg_of X G g32⟩, ⟨_, PySem.W.mg_of X G g33⟩, ⟨_, PySem.W.mg_of X G g34⟩, ⟨_, PySem.W.mg_of X G g35⟩, ⟨_, PySem.W.mg_of X G g36⟩, PySem.W.mg_none_of X G z_max, PySem.W.mg_none_of X G z_min, PySem.W.mg_none_of X G z_len, PySem.W.mg_none_of X G z_int, PySem.W.mg_none_of X G z_range, PySem.W.mg_none_of X G z_isinstance, PySem.W.mg_none_of X G z_tuple, PySem.W.mg_none_of X G z_repr, PySem.W.mg_none_of X G z_list, PySem.W.mg_none_of X G z_str, PySem.W.mg_none_of X G z_sorted, PySem.W.mg_none_of X G z_zip, PySem.W.mg_of X G gD, ⟨_, _, lD, kD1, kD2⟩, hD0, fun H => .inr ⟨_, _, _, lTT0, rfl, rfl, (by show 1 ≤ sizeLine; decide), (.cons ⟨_, rfl⟩ .nil)⟩, hD1, fun H => .inr ⟨_, _, _, lTT1, rfl, rfl, (by show 4 ≤ sizeLine; decide), (.cons ⟨_, rfl⟩ (.cons ⟨_, rfl⟩ (.cons ⟨_, rfl⟩ (.cons ⟨_, rfl⟩ .nil))))⟩, hD2, fun H => .inr ⟨_, _, _, lTT2, rfl, rfl, (by show 3 ≤ sizeLine; decide), (.cons ⟨_, rfl⟩ (.cons ⟨_, rfl⟩ (.cons ⟨_, rfl⟩ .nil)))⟩, hD3, fun H => .inr ⟨_, _, _, lTT3, rfl, rfl, (by show 2 ≤ sizeLine; decide), (.cons ⟨_, rfl⟩ (.cons ⟨_, rfl⟩ .nil))⟩, hD4, fun H => .inr ⟨_, _, _, lTT4, rfl, rfl, (by show 2 ≤ sizeLine; decide), (.cons ⟨_, rfl⟩ (.cons ⟨_, rfl⟩ .nil))⟩, hD5, fun H => .inr ⟨_, _, _, lTT5, rfl, rfl, (by show 2 ≤ sizeLine; decide), (.cons ⟨_, rfl⟩ (.cons ⟨_, rfl⟩ .nil))⟩, hD6, fun H => .inr ⟨_, _, _, lTT6, rfl, rfl, (by show 1 ≤ sizeLine; decide), (.cons ⟨_, rfl⟩ .nil)⟩, hD7, fun H => .inr ⟨_, _, _, lTT7, rfl, rfl, (by show 2 ≤ sizeLine; decide), (.cons ⟨_, rfl⟩ (.cons ⟨_, rfl⟩ .nil))⟩, hD8, fun H => .inr ⟨_, _, _, lTT8, rfl, rfl, (by show 1 ≤ sizeLine; decide), (.cons ⟨_, rfl⟩ .nil)⟩, hD9, fun H => .inr ⟨_, _, _, lTT9, rfl, rfl, (by show 2 ≤ sizeLine; decide), (.cons ⟨_, rfl⟩ (.cons ⟨_, rfl⟩ .nil))⟩, hD10, fun H => .inr ⟨_, _, _, lTT10, rfl, rfl, (by show 0 ≤ sizeLine; decide), .nil⟩, hD11, fun H => .inr ⟨_, _, _, lTT11, rfl, rfl, (by show 1 ≤ sizeLine; decide), (.cons ⟨_, rfl⟩ .nil)⟩, hD12, fun H => .inr ⟨_, _, _, lTT12, rfl, rfl, (by show 3 ≤ sizeLine; decide), (.cons ⟨_, rfl⟩ (.cons ⟨_, rfl⟩ (.cons ⟨_, rfl⟩ .nil)))⟩, hD13, fun H => .inr ⟨_, _, _, lTT13, rfl, rfl, (by show 2 ≤ sizeLine; decide), (.cons ⟨_, rfl⟩ (.cons ⟨_, rfl⟩ .nil))⟩, hD14, fun H => .inr ⟨_, _, _, lTT14, rfl, rfl, (by show 3 ≤ sizeLine; decide), (.cons ⟨_, rfl⟩ (.cons ⟨_, rfl⟩ (.cons ⟨_, rfl⟩ .nil)))⟩, hD15, fun H => .inr ⟨_, _, _, lTT15, rfl, rfl, (by show 1 ≤ sizeLine; decide), (.cons ⟨_, rfl⟩ .nil)⟩, hD16, fun H => .inr ⟨_, _, _, lTT16, rfl, rfl, (by show 1 ≤ sizeLine; decide), (.cons ⟨_, rfl⟩ .nil)⟩, hD17, fun H => .inr ⟨_, _, _, lTT17, rfl, rfl, (by show 1 ≤ sizeLine; decide), (.cons ⟨_, rfl⟩ .nil)⟩, hD18, fun H => .inr ⟨_, _, _, lTT18, rfl, rfl, (by show 1 ≤ sizeLine; decide), (.cons ⟨_, rfl⟩ .nil)⟩, hD19, fun H => .inr ⟨_, _, _, lTT19, rfl, rfl, (by show 1 ≤ sizeLine; decide), (.cons ⟨_, rfl⟩ .nil)⟩, hD20, fun H => .inr ⟨_, _, _, lTT20, rfl, rfl, (by show 1 ≤ sizeLine; decide), (.cons ⟨_, rfl⟩ .nil)⟩, hD21, fun H => .inr ⟨_, _, _, lTT21, rfl, rfl, (by show 2 ≤ sizeLine; decide), (.cons ⟨_, rfl⟩ (.cons ⟨_, rfl⟩ .nil))⟩, hD22, fun H => .inr ⟨_, _, _, lTT22, rfl, rfl, (by show 3 ≤ sizeLine; decide), (.cons ⟨_, rfl⟩ (.cons ⟨_, rfl⟩ (.cons ⟨_, rfl⟩ .nil)))⟩, hD23, fun H => .inr ⟨_, _, _, lTT23, rfl, rfl, (by show 2 ≤ sizeLine; decide), (.cons ⟨_, rfl⟩ (.cons ⟨_, rfl⟩ .nil))⟩, hD24, fun H => .inr ⟨_, _, _, lTT24, rfl, rfl, (by show 2 ≤ sizeLine; decide), (.cons ⟨_, rfl⟩ (.cons ⟨_, rfl⟩ .nil))⟩, hD25, fun H => .inr ⟨_, _, _, lTT25, rfl, rfl, (by show 2 ≤ sizeLine; decide), (.cons ⟨_, rfl⟩ (.cons ⟨_, rfl⟩ .nil))⟩, hD26, fun H => .inr ⟨_, _, _, lTT26, rfl, rfl, (by show 0 ≤ sizeLine; decide), .nil⟩, PySem.W.mg_of X G gR, ⟨_, _, lR, kR1, kR2⟩, hR0, hR1, hR2, hR3, hR4, hR5, ⟨_, _, lD, kD3⟩, (PySem.W.mg_of X G aE100), (PySem.W.mg_of X G aE101), (PySem.W.mg_of X G aE102), (PySem.W.mg_of X G aE103), (⟨(XB.Facts.under XB.valueError), ⟨nm101, q101, N101, bs101, sn101, sub101, ab101, col101, dd101, x0101, x1101, x2101, x3101, x5101, x101⟩, sa101, xb101, ty101, kp101⟩), (in101), (n0_101), (⟨ga101, gg101, xb101, hd101⟩), (⟨ga101, gg101, xb101, hd101, jc101, j2, j3, jm101⟩), (ti150), (FI150), (bI150), (exm_of tb100 tc100 tt100 su0), (kit_of ts101 tc101 tt101 su1), (kit_of ts102 tc102 tt102 su2), (kit_of ts103 tc103 tt103 su3)⟩
  exact ⟨(PySem.W.fnOf "law" "law" (defArgs s_law) (defBody s_law) (defScope s_law) .none kV26 dc26 pm26 an26 cd26 ct26), fun s v => .of_eq rfl, fun base _ _ => ok_law T⟩
theorem walk {l : PySem.W.OpenLaw} {q : Program} {loose : List Str} {XP : (Str → Option Value) → Heap → Prop} {YP : World → Heap → Prop} {d : DefRec} {K : Params → PySem.W.Frag} (hn : l.most = some 63) (hdf : d.params.defaults = [])
    (hY : ∀ (w : World) (h : Heap), YP w h → (K w.params).In h)
    (F : ∀ (w : World) (mg : Str → Option Value) (fa : Addr) (h : Heap), (K w.params).In h → h.Ns mainGlobals mg → mg d.name = some (.ref fa) →
      ∃ fd : FuncData, (∀ (s : Shared) (u : Value), BindsTo s fd ⟨[u], []⟩ [("_law_script", u)]) ∧ ∀ base : Heap, (K w.params).In base → base.Ns mainGlobals mg → FnG l.prog w (K w.params) mg base 11 fa fd ["_law_script"] (spLaw (K w.params))) :
    PySem.W.WalkO q loose XP YP l.row.toRowW d [] (fun f vs => PySem.call f vs) :=
  walkG (n := 63) (k := 11) (x := "_law_script") (sp := fun w => (spLaw (K w.params))) hn (by decide) hdf ⟨rfl, by decide, by decide⟩ hY F (fun _ _ a ns hl _ _ hS => ⟨a, ns, rfl, hS, hl, fun _ => rfl⟩)
end M

open PySem PySem.W PyProof.Rows in
set_option maxRecDepth 100000 in
set_option maxHeartbeats 0 in
theorem PySem.Challenge.cw_stampedwait_k80_texts_of_no_deed_holds : PySem.Challenge.rw_stampedwait_k80_texts_of_no_deed.Holds := by
  w_on; o_law; k_head; (case hw => w_witness2)
  k_fill
  refine M.walk (l := PySem.Challenge.rw_stampedwait_k80_texts_of_no_deed) rfl rfl (fun w h Y => PySem.W.kIn_of Y) ?F
  case F =>
    intro w mg fa h KX G hmg
    refine' M.all_mk KX G hmg ?g27 ?g28 ?g29 ?g30 ?g31 ?g32 ?g33 ?g34 ?g35 ?g36 ?a0 ?l0 ?c0 ?k0 ?a1 ?l1 ?c1 ?k1 ?a2 ?l2 ?c2 ?k2 ?a3 ?l3 ?c3 ?k3 ?a4 ?l4 ?c4 ?k4 ?a5 ?l5 ?c5 ?k5 ?a6 ?l6 ?c6 ?k6 ?a7 ?l7 ?c7 ?k7 ?a8 ?l8 ?c8 ?k8 ?a9 ?l9 ?c9 ?k9 ?a10 ?l10 ?c10 ?k10 ?a11 ?l11 ?c11 ?k11 ?a12 ?l12 ?c12 ?k12 ?a13 ?l13 ?c13 ?k13 ?a14 ?l14 ?c14 ?k14 ?a15 ?l15 ?c15 ?k15 ?a16 ?l16 ?c16 ?k16 ?a17 ?l17 ?c17 ?k17 ?a18 ?l18 ?c18 ?k18 ?a19 ?l19 ?c19 ?k19 ?a20 ?l20 ?c20 ?k20 ?a21 ?l21 ?c21 ?k21 ?a22 ?l22 ?c22 ?k22 ?a23 ?l23 ?c23 ?k23 ?a24 ?l24 ?c24 ?k24 ?a25 ?l25 ?c25 ?k25 ?a26 ?l26 ?c26 ?k26 ?z_max ?z_min ?z_len ?z_int ?z_range ?z_isinstance ?z_tuple ?z_repr ?z_list ?z_str ?z_sorted ?z_zip ?gD ?lD ?kD1 ?kD2 ?kD3 ?hD0 ?lTT0 ?hD1 ?lTT1 ?hD2 ?lTT2 ?hD3 ?lTT3 ?hD4 ?lTT4 ?hD5 ?lTT5 ?hD6 ?lTT6 ?hD7 ?lTT7 ?hD8 ?lTT8 ?hD9 ?lTT9 ?hD10 ?lTT10 ?hD11 ?lTT11 ?hD12 ?lTT12 ?hD13 ?lTT13 ?hD14 ?lTT14 ?hD15 ?lTT15 ?hD16 ?lTT16 ?hD17 ?lTT17 ?hD18 ?lTT18 ?hD19 ?lTT19 ?hD20 ?lTT20 ?hD21 ?lTT21 ?hD22 ?lTT22 ?hD23 ?lTT23 ?hD24 ?lTT24 ?hD25 ?lTT25 ?hD26 ?lTT26 ?gR ?lR ?kR1 ?kR2 ?hR0 ?hR1 ?hR2 ?hR3 ?hR4 ?hR5 ?aE100 ?aE101 ?aE102 ?aE103 ?tb100 ?tc100 ?tt100 ?ts100 ?tb101 ?tc101 ?tt101 ?ts101 ?tb102 ?tc102 ?tt102 ?ts102 ?tb103 ?tc103 ?tt103 ?ts103 ?j2 ?j3 ?x101 ?sa101 ?xb101 ?ty101 ?kp101 ?in101 ?ga101 ?gg101 ?hd101 ?jc101 ?jm101 ?n0_101 ?ti150 ?li150 ?cc150 ?kk150 ?su0 ?su1 ?su2 ?su3
    (case g27 => k_is)
    (case g28 => k_is)
    (case g29 => k_is)
    (case g30 => k_is)
    (case g31 => k_is)
    (case g32 => k_is)
    (case g33 => k_is)
    (case g34 => k_is)
    (case g35 => k_is)
    (case g36 => k_is)
    (case a0 => k_is)
    (case l0 => k_is)
    (case c0 => k_is)
    (case k0 => k_is)
    (case a1 => k_is)
    (case l1 => k_is)
    (case c1 => k_is)
    (case k1 => k_is)
    (case a2 => k_is)
    (case l2 => k_is)
    (case c2 => k_is)
    (case k2 => k_is)
    (case a3 => k_is)
    (case l3 => k_is)
    (case c3 => k_is)
    (case k3 => k_is)
    (case a4 => k_is)
    (case l4 => k_is)
    (case c4 => k_is)
    (case k4 => k_is)
    (case a5 => k_is)
    (case l5 => k_is)
    (case c5 => k_is)
    (case k5 => k_is)
    (case a6 => k_is)
    (case l6 => k_is)
    (case c6 => k_is)
    (case k6 => k_is)
    (case a7 => k_is)
    (case l7 => k_is)
    (case c7 => k_is)
    (case k7 => k_is)
    (case a8 => k_is)
    (case l8 => k_is)
    (case c8 => k_is)
    (case k8 => k_is)
    (case a9 => k_is)
    (case l9 => k_is)
    (case c9 => k_is)
    (case k9 => k_is)
    (case a10 => k_is)
    (case l10 => k_is)
    (case c10 => k_is)
    (case k10 => k_is)
    (case a11 => k_is)
    (case l11 => k_is)
    (case c11 => k_is)
    (case k11 => k_is)
    (case a12 => k_is)
    (case l12 => k_is)
    (case c12 => k_is)
    (case k12 => k_is)
    (case a13 => k_is)
    (case l13 => k_is)
    (case c13 => k_is)
    (case k13 => k_is)
    (case a14 => k_is)
    (case l14 => k_is)
    (case c14 => k_is)
    (case k14 => k_is)
    (case a15 => k_is)
    (case l15 => k_is)
    (case c15 => k_is)
    (case k15 => k_is)
    (case a16 => k_is)
    (case l16 => k_is)
    (case c16 => k_is)
    (case k16 => k_is)
    (case a17 => k_is)
    (case l17 => k_is)
    (case c17 => k_is)
    (case k17 => k_is)
    (case a18 => k_is)
    (case l18 => k_is)
    (case c18 => k_is)
    (case k18 => k_is)
    (case a19 => k_is)
    (case l19 => k_is)
    (case c19 => k_is)
    (case k19 => k_is)
    (case a20 => k_is)
    (case l20 => k_is)
    (case c20 => k_is)
    (case k20 => k_is)
    (case a21 => k_is)
    (case l21 => k_is)
    (case c21 => k_is)
    (case k21 => k_is)
    (case a22 => k_is)
    (case l22 => k_is)
    (case c22 => k_is)
    (case k22 => k_is)
    (case a23 => k_is)
    (case l23 => k_is)
    (case c23 => k_is)
    (case k23 => k_is)
    (case a24 => k_is)
    (case l24 => k_is)
    (case c24 => k_is)
    (case k24 => k_is)
    (case a25 => k_is)
    (case l25 => k_is)
    (case c25 => k_is)
    (case k25 => k_is)
    (case a26 => k_is)
    (case l26 => k_is)
    (case c26 => k_is)
    (case k26 => k_is)
    (case z_max => k_is)
    (case z_min => k_is)
    (case z_len => k_is)
    (case z_int => k_is)
    (case z_range => k_is)
    (case z_isinstance => k_is)
    (case z_tuple => k_is)
    (case z_repr => k_is)
    (case z_list => k_is)
    (case z_str => k_is)
    (case z_sorted => k_is)
    (case z_zip => k_is)
    (case gD => k_is)
    (case lD => k_is)
    (case kD1 => repeat (first | exact trivial | refine ⟨⟨_, _, rfl, rfl⟩, ?_⟩))
    (case kD2 => first | rfl | k_is)
    (case kD3 => repeat (first | exact trivial | refine ⟨⟨_, _, rfl, by decide +kernel⟩, ?_⟩))
    (case hD0 => k_is)
    (case lTT0 => k_is)
    (case hD1 => k_is)
    (case lTT1 => k_is)
    (case hD2 => k_is)
    (case lTT2 => k_is)
    (case hD3 => k_is)
    (case lTT3 => k_is)
    (case hD4 => k_is)
    (case lTT4 => k_is)
    (case hD5 => k_is)
    (case lTT5 => k_is)
    (case hD6 => k_is)
    (case lTT6 => k_is)
    (case hD7 => k_is)
    (case lTT7 => k_is)
    (case hD8 => k_is)
    (case lTT8 => k_is)
    (case hD9 => k_is)
    (case lTT9 => k_is)
    (case hD10 => k_is)
    (case lTT10 => k_is)
    (case hD11 => k_is)
    (case lTT11 => k_is)
    (case hD12 => k_is)
    (case lTT12 => k_is)
    (case hD13 => k_is)
    (case lTT13 => k_is)
    (case hD14 => k_is)
    (case lTT14 => k_is)
    (case hD15 => k_is)
    (case lTT15 => k_is)
    (case hD16 => k_is)
    (case lTT16 => k_is)
    (case hD17 => k_is)
    (case lTT17 => k_is)
    (case hD18 => k_is)
    (case lTT18 => k_is)
    (case hD19 => k_is)
    (case lTT19 => k_is)
    (case hD20 => k_is)
    (case lTT20 => k_is)
    (case hD21 => k_is)
    (case lTT21 => k_is)
    (case hD22 => k_is)
    (case lTT22 => k_is)
    (case hD23 => k_is)
    (case lTT23 => k_is)
    (case hD24 => k_is)
    (case lTT24 => k_is)
    (case hD25 => k_is)
    (case lTT25 => k_is)
    (case hD26 => k_is)
    (case lTT26 => k_is)
    (case gR => k_is)
    (case lR => k_is)
    (case kR1 => repeat (first | exact trivial | refine ⟨⟨_, _, rfl, rfl⟩, ?_⟩))
    (case kR2 => first | rfl | k_is)
    (case hR0 => k_is)
    (case hR1 => k_is)
    (case hR2 => k_is)
    (case hR3 => k_is)
    (case hR4 => k_is)
    (case hR5 => k_is)
    (case aE100 => k_is)
    (case aE101 => k_is)
    (case aE102 => k_is)
    (case aE103 => k_is)
    (case tb100 => k_is)
    (case tc100 => k_is)
    (case tt100 => k_is)
    (case ts100 => first | rfl | k_is)
    (case tb101 => k_is)
    (case tc101 => k_is)
    (case tt101 => k_is)
    (case ts101 => first | rfl | k_is)
    (case tb102 => k_is)
    (case tc102 => k_is)
    (case tt102 => k_is)
    (case ts102 => first | rfl | k_is)
    (case tb103 => k_is)
    (case tc103 => k_is)
    (case tt103 => k_is)
    (case ts103 => first | rfl | k_is)
    (case j2 => k_is)
    (case j3 => k_is)
    (case x101 => k_is)
    (case sa101 => k_is)
    (case xb101 => k_is)
    (case ty101 => k_is)
    (case kp101 => k_is)
    (case in101 => k_is)
    (case ga101 => k_is)
    (case gg101 => k_is)
    (case hd101 => k_is)
    (case jc101 => k_is)
    (case jm101 => k_is)
    (case n0_101 => k_is)
    (case ti150 => k_is)
    (case li150 => k_is)
    (case cc150 => k_is)
    (case kk150 => k_is)
    (case su0 => first | rfl | k_is)
    (case su1 => first | rfl | k_is)
    (case su2 => first | rfl | k_is)
    (case su3 => first | rfl | k_is)
