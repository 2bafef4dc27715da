import PyProof.Rows.All
import Wide.All
import OpenK.AllK
import Wide.FinOn
import HandS.StrMore
import HandS.ForMost
import HandS.Wide
import HandS.IsInst
import HandS.Defaults
import HandS.EndBits
import HandS.RaiseMore
import HandS.Walk
import PyProof.ReprRoads
import PyProof.WalksMore
import PyProof.ReprLen
import PySem.Challenge.RW_stampedwait_k16_keys_and_worths_or_none
set_option Elab.async false
set_option linter.all false
set_option maxRecDepth 100000
set_option maxHeartbeats 4000000
namespace M
open PySem L2


section
open PySem PySem.Spec PyProof.Rows L2
/-- the promise of a def that is only called where no object is being shown -/
structure FnG (P : Program) (w : World) (K : PySem.W.Frag) (mg : Str → Option Value) (base : Heap) (k : Nat) (f : Addr) (fd : FuncData) (ps : List Str) (sp : Sp) : Prop where
  size : ∀ vs H Q E, sp vs H Q E → vs.length = ps.length
  go : ∀ (A : Around) (outer : List Env) (s : Shared) (H : Hp) (us : List Value) (vs : List V) (Q : VK) (E : XK) (args : Args), A.guards = some [] → Room k A → Env0 P w K mg base A outer s H →
    BindsTo s fd args (ps.zip us) → Vals vs us → sp vs H Q E → codeAny (model P w) A (.call (.ref f) args) (CR CX0 outer P w H s Q E) s
theorem room66 {A : Around} {k : Nat} (hr : Room k A) : A.units + 66 < cLine := by
  have := hr.un
  omega
theorem guards_deeper (A : Around) (e : Env) : (A.deeper e).guards = A.guards := rfl
section
variable {P : Program} {w : World} {K : PySem.W.Frag} {mg : Str → Option Value} {base : Heap} {x qual : Str} {st : Stmt} {f : Addr} {fd : FuncData} {N ps : List Str} {k : Nat} {sp : Sp}
theorem fnG_mk (F : Fun K x qual st f fd) (S : FnScope N ps (defScope st)) (size : ∀ vs H Q E, sp vs H Q E → vs.length = ps.length)
    (body : ∀ (cdv : Value) (A : Around) (outer : List Env) (s : Shared) (H : Hp) (vs : List V) (Q : VK) (E : XK), (A.deeper (envOfC qual (defScope st) s.heap.objs.size f cdv)).guards = some [] →
      Room k (A.deeper (envOfC qual (defScope st) s.heap.objs.size f cdv)) → sp vs H Q E →
      ∃ t, PSs (cxOf CX0 P w K mg base N qual (defScope st) f cdv A outer s H E).nox (defBody st) t ∧ t { nx := fun _ H' => Q .non H', rt := Q } (start N vs) H) :
    FnG P w K mg base (k + 1) f fd ps sp := by
  obtain ⟨oc, od, kV, doc, pm, an, cdv, ct, osl, rfl, lk, hcd⟩ := F.ex
  refine ⟨size, ?_⟩
  intro A outer s H us vs Q E args gd hr e0 hb r hsp
  have old : ∀ b o, base.get? b = some o → s.heap.get? b = some o := fun b o z => (e0.bs b o z).1
  have kin := e0.mod.kin.keeps old
  have hkind : ∀ y ∈ ps.zip us, (defScope st).names.lookup y.1 = some .local ∨ ((defScope st).names.lookup y.1 = some .cell ∧ ((cellsFrom (s.heap.objs.size + 1) (defScope st).names []).lookup y.1).isSome = true) := by
    rintro ⟨n, v⟩ hy
    have := S.par n (List.of_mem_zip hy).1
    rcases this with z | z
    · exact .inl z
    · exact .inr ⟨z, PySem.W.cellsFrom_some _ _ _ (.inl z)⟩
  obtain ⟨t, ht, hq⟩ := body cdv A outer s H vs Q E gd (hr.deeper _) hsp
  refine codeAny_call_function hr.depth (kin _ _ lk) rfl S.co S.gen rfl (PySem.W.codeRec_of kin hcd) ?_
  refine hb _ _ _ _ (wpAny_newFunctionEnv_cells S.kind hkind ?_)
  rintro env rfl s1 y
  refine ⟨(e0.mod.nolimit.keeps old).keeps y.toInCall.keep, codeAny_func ?_⟩
  have I0 := inv_start (CX := CX0) (E := E) (cd := cdv) (f := f) (qual := qual) S hr.hd e0 (size _ _ _ _ hsp) r y
  refine wpAny_mono (ht.nox.run [] s1 _ H _ I0 hq) ?_ (fun _ _ z => z)
  intro fl s' hs
  cases fl with
  | ret u =>
    obtain ⟨v, σ', H', J, rv, z⟩ := hs
    exact ⟨v, H', J.os, J.bare, J.base, J.hok, rv, z⟩
  | next =>
    obtain ⟨σ', H', J, z⟩ := hs
    exact ⟨V.non, H', J.os, J.bare, J.base, J.hok, rfl, z⟩
  | brk => exact hs.elim fun _ h => h.elim fun _ h => h.2.elim
  | cont => exact hs.elim fun _ h => h.elim fun _ h => h.2.elim
end
section
variable {X : Cx} {k : Nat} {f : Addr} {fd : FuncData} {ps : List Str} {sp : Sp} {x : Str} {p pos : Pos} {e : Expr} {es : List Expr} {t : TA}
theorem pe_callG (F : FnG X.prog X.w X.K X.mg X.base k f fd ps sp) (gd : X.A.guards = some []) (hr : Room k X.A) (hg : Gl X x) (hm : X.mg x = some (.ref f)) (hk : PySem.W.keepIn X.K (.ref f) = true) (hb : Binds X.K fd ps [])
    (hx : Passes CX0 X E0) (ha : PA X (e :: es) t) (hdb : (x == ("__debug__" : Str)) = false := by decide) (he : starEach (e :: es) X.env = (false, eval e X.env) :: starEach es X.env := by rfl) (hpl : (backTo pos (starEach es X.env)).any (·.1) = false := by rfl) :
    PE X (.Call (.Name x p) (e :: es) [] pos) (tCall sp [] E0 t) := by
  constructor
  intro pins s σ H Q I h
  apply wpAny_Call_Name_kw
  refine ld_glob I hg hm ?_ hdb
  refine PySem.W.callWith_K (h₀ := X.base) I.ok.mod.kin hk (thn (ha.run pos pins s σ H _ I h) ?_) he hpl
  rintro us s1 ⟨vs, H1, I1, r, q⟩
  refine ⟨I1.kIn, ?_⟩
  rw [List.append_nil] at q
  have hl : us.length = ps.length := r.length.symm.trans (F.size _ _ _ _ q)
  have b := hb s1 us I1.kIn (by rw [List.append_nil]; exact hl)
  rw [List.append_nil] at b
  refine wpAny_call (codeAny_mono (F.go X.A X.stack s1 H1 us vs Q E0 ⟨us, []⟩ gd hr I1.env0 b r q) ?_)
  intro res s' hq
  cases res with
  | error e => exact hx pins σ H1 s1 e s' I1 hq
  | ok fl => cases fl <;> first | exact I1.after hq | exact False.elim hq
/-- repr of data -/
theorem call_reprD (gd : X.A.guards = some []) (hu : X.A.units + 66 < cLine) : CallR X (.builtin "repr") (fun xs H Q => ∃ (a : Addr) (d : PyData), xs = [.ref a] ∧ Dp X.K H (.ref a) d ∧ d.showable = true ∧ d.hasDict = false ∧ d.depth ≤ 64 ∧ d.shown.length ≤ sizeLine ∧ Q (.str d.shown) H) := by
  intro pins s σ H xs us Q I r h
  obtain ⟨a, d, rfl, hd, sh, nd, dp, sz, q⟩ := h
  cases r with
  | cons r1 r2 =>
    cases r2
    obtain ⟨as, rd⟩ := Dp.reads I d _ _ hd r1
    cases r1
    exact repr_of_reads' rd sh (fun z => by rw [nd] at z; cases z) gd (by omega) (fun _ _ z => z) (fun h' u tk z => ⟨.str d.shown, H, I.kept z, ⟨_, rfl⟩, q⟩) sz
end
/-- the law's call -/
theorem law_callG {P : Program} {w : World} {K : PySem.W.Frag} {mg mb : Str → Option Value} {k : Nat} {fa sa : Addr} {fd : FuncData} {x : Str} {sp : Sp} {s₁ : Shared} {vs : List Value} {ns : List Int}
    (KX : K.In s₁.heap) (hns : s₁.heap.Ns mainGlobals mg) (hb : s₁.heap.Ns builtinsNs mb) (hbb : ∀ x : Str, x ≠ "__name__" → mb x = bootBuiltins x) (hlim : s₁.heap.NoLimit) (hg : s₁.gens = #[])
    (ho : s₁.heap.get? sa = some { cls := .type "list", data := .seq vs.toArray }) (hi : IntsAre vs ns) (hl : ns.length ≤ sizeLine) (hr : Room k callerA)
    (F : ∀ base : Heap, K.In base → base.Ns mainGlobals mg → FnG P w K mg base k fa fd [x] sp) (hbind : ∀ (s : Shared) (u : Value), BindsTo s fd ⟨[u], []⟩ [(x, u)])
    (hsp : ∀ H : Hp, Only H → SqL K H sa (ns.map V.int) → sp [.ref sa] H (fun v _ => v = .bl true) fun _ _ _ => False) :
    codeAny (model P w) callerA (.call (.ref fa) ⟨[.ref sa], []⟩) (fun r s' => r = .ok (.ret (.bool true)) ∧ OldK s₁.heap s'.heap ∧ s'.os = s₁.os ∧ AllBare s'.gens) s₁ := by
  -- H tracks the script or nothing
  suffices main : ∀ H : Hp, Only H → SqL K H sa (ns.map V.int) → HOk P w H s₁.heap → (∀ b, H b ≠ none → b = sa) → (H sa ≠ none → K.lookup sa = none) →
      codeAny (model P w) callerA (.call (.ref fa) ⟨[.ref sa], []⟩) (fun r s' => r = .ok (.ret (.bool true)) ∧ OldK s₁.heap s'.heap ∧ s'.os = s₁.os ∧ AllBare s'.gens) s₁ by
    have rv := vals_ints hi
    cases hk : K.lookup sa with
    | none =>
      let H : Hp := fun b => if b = sa then some (.frz { cls := .type "list", data := .seq vs.toArray } (.lst (ns.map V.int))) else none
      have hH : H sa = some (.frz { cls := .type "list", data := .seq vs.toArray } (.lst (ns.map V.int))) := if_pos rfl
      have hN : ∀ b, b ≠ sa → H b = none := fun b z => if_neg z
      refine main H (fun b => ?_) (.inl (.inr ⟨_, hH⟩)) (fun b u z => ?_) (fun b z => ?_) fun _ => hk
      · by_cases c : b = sa
        · exact .inr ⟨_, _, by rw [c]; exact hH⟩
        · exact .inl (hN b c)
      · by_cases c : b = sa
        · subst c
          rw [hH] at z
          cases z
          exact ⟨ho, by rw [List.length_map]; exact hl, vs, _, rv, ho⟩
        · rw [hN b c] at z
          cases z
      · by_cases c : b = sa
        · exact c
        · exact absurd (hN b c) z
    | some o =>
      have z := KX sa o hk
      rw [ho] at z
      cases z
      exact main (fun _ => none) (fun _ => .inl rfl) (.inr ⟨_, vs.toArray, _, hk, rfl, rfl, rfl, by rw [List.size_toArray, hi.length]; exact hl, by simpa using rv⟩) (fun b u y => by cases y) (fun b y => absurd rfl y) fun y => absurd rfl y
  intro H hO hS hok hA hK
  have free : ∀ {b : Addr}, b ≠ sa → H b = none := fun {b} c => by
    cases z : H b with
    | none => rfl
    | some u => exact absurd (hA b (by rw [z]; simp)) c
  have dictFree : ∀ {b : Addr} {o : Obj} {es : Array DictEntry} {ep : Nat}, s₁.heap.get? b = some o → o.data = .dict es ep → H b = none := fun {b o es ep} e d => free fun c => by
    subst c
    rw [ho] at e
    cases e
    cases d
  have ns2 : ∀ {b : Addr} {m : Str → Option Value}, s₁.heap.Ns b m → (hidT s₁.heap H).Ns b m := by
    rintro b m ⟨o, es, ep, e, d, r⟩
    exact ⟨o, es, ep, hidT_get e (dictFree e d), d, r⟩
  have kin2 : K.In (hidT s₁.heap H) := by
    intro b o e
    refine hidT_get (KX b o e) ?_
    by_cases c : b = sa
    · subst c
      cases z : H b with
      | none => rfl
      | some u =>
        rw [hK (by rw [z]; simp)] at e
        cases e
    · exact free c
  have lim2 : (hidT s₁.heap H).NoLimit := by
    obtain ⟨mc, h1, h2⟩ := hlim
    exact ⟨mc, ns2 h1, h2⟩
  have env : Env0 P w K mg (hidT s₁.heap H) callerA [] s₁ H :=
    { frames := rfl, mod := ⟨kin2, ns2 hns, ⟨mb, ns2 hb, hbb⟩, lim2⟩, bs := fun b o e => of_hidT e, bsz := Nat.le_of_eq (hidT_size _ _), funs := trivial, frf := fun b z => by simp [frs] at z, hok := hok, bare := .of_eq hg }
  refine codeAny_mono ((F _ kin2 (ns2 hns)).go callerA [] s₁ H [.ref sa] [.ref sa] _ _ ⟨[.ref sa], []⟩ rfl hr env (hbind s₁ (.ref sa)) (.cons rfl .nil) (hsp H hO hS)) ?_
  intro res s' hres
  cases res with
  | error e => exact hres.elim
  | ok fl =>
    cases fl with
    | ret u =>
      obtain ⟨v, H', os, bare, un, hok', rv, qv⟩ := hres
      cases (show v = .bl true from qv)
      cases (show u = Value.bool true from rv)
      refine ⟨rfl, OldK.of_keep fun b o e => ?_, os, bare⟩
      rcases hO b with z | ⟨ob, xs, z⟩
      · exact un.keep b o e z (by simp [frs]) (by simp)
      · have z2 := un.frzs b ob _ z
        have e1 := (hok b _ z).1
        have e2 := (hok' b _ z2).1
        rw [e] at e1
        cases e1
        exact e2
    | next => exact hres.elim
    | brk => exact hres.elim
    | cont => exact hres.elim
theorem walkG {l : PySem.W.OpenLaw} {n k : Nat} {q : Program} {loose : List Str} {XP : (Str → Option Value) → Heap → Prop} {YP : World → Heap → Prop} {d : DefRec} {K : Params → PySem.W.Frag} {sp : World → Sp} {x : Str}
    (hn : l.most = some n) (hn2 : n ≤ sizeLine) (hdf : d.params.defaults = []) (hr : Room k callerA) (hY : ∀ (w : World) (h : Heap), YP w h → (K w.params).In h)
    (F : ∀ (w : World) (mg : Str → Option Value) (fa : Addr) (h : Heap), (K w.params).In h → h.Ns mainGlobals mg → mg d.name = some (.ref fa) →
      ∃ fd : FuncData, (∀ (s : Shared) (u : Value), BindsTo s fd ⟨[u], []⟩ [(x, u)]) ∧ ∀ base : Heap, (K w.params).In base → base.Ns mainGlobals mg → FnG l.prog w (K w.params) mg base k fa fd [x] (sp w))
    (hsp : ∀ (w : World) (H : Hp) (a : Addr) (ns : List Int), ns.length ≤ n → (∀ z ∈ ns, Builtin.Int.intBits z ≤ 1048576) → Only H → SqL (K w.params) H a (ns.map V.int) → sp w [.ref a] H (fun v _ => v = .bl true) fun _ _ _ => False) :
    PySem.W.WalkO q loose XP YP l.row.toRowW d [] (fun f vs => PySem.call f vs) := by
  apply Att.attach_callB hn hdf
  intro w s₀ s₁ mg mb fa o pm cd doc sa vs ns G Y ho hd hcd hmg hobj hints hlen hbits hg
  obtain ⟨fd, hb, hF⟩ := F w mg fa _ (hY w _ Y) G.T.g hmg
  exact law_callG (hY w _ Y) G.T.g G.T.b G.T.builtins G.T.nolimit hg hobj hints (Nat.le_trans hlen hn2) hr hF hb (fun H hO hS => hsp w H sa ns hlen hbits hO hS)
end

section
open PySem PySem.Spec PyProof.Rows L2
/-- data, or an empty dict -/
inductive An (K : PySem.W.Frag) (H : Hp) : V → PyData → Prop
  | dp {v : V} {d : PyData} (h : Dp K H v d) : An K H v d
  | dict {p : Addr} (e : H p = some (.dK [])) : An K H (.ref p) (.dict [])
mutual
theorem dp_up {K : PySem.W.Frag} {H H' : Hp} (k : Same H H') : ∀ {v : V} {d : PyData}, Dp K H v d → Dp K H' v d
  | _, _, .non => .non
  | _, _, .bl b => .bl b
  | _, _, .int i => .int i
  | _, _, .str x => .str x
  | _, _, .lst h hs => .lst (k.seq h) (dpall_up k hs)
  | _, _, .tup h hs => .tup (by
      rcases h with (h | ⟨u, h⟩) | h
      · exact .inl (.inl (k _ _ h))
      · exact .inl (.inr ⟨u, k _ _ h⟩)
      · exact .inr h) (dpall_up k hs)
theorem dpall_up {K : PySem.W.Frag} {H H' : Hp} (k : Same H H') : ∀ {vs : List V} {ds : List PyData}, DpAll K H vs ds → DpAll K H' vs ds
  | _, _, .nil => .nil
  | _, _, .cons h hs => .cons (dp_up k h) (dpall_up k hs)
end
mutual
theorem dp_nodict {K : PySem.W.Frag} {H : Hp} : ∀ {v : V} {d : PyData}, Dp K H v d → d.hasDict = false
  | _, _, .non => rfl
  | _, _, .bl b => rfl
  | _, _, .int i => rfl
  | _, _, .str x => rfl
  | _, _, .lst _ hs => by simp only [PyData.hasDict]; exact dpall_nodict hs
  | _, _, .tup _ hs => by simp only [PyData.hasDict]; exact dpall_nodict hs
theorem dpall_nodict {K : PySem.W.Frag} {H : Hp} : ∀ {vs : List V} {ds : List PyData}, DpAll K H vs ds → PyData.hasDictAll ds = false
  | _, _, .nil => rfl
  | _, _, .cons h hs => by simp only [PyData.hasDictAll, dp_nodict h, dpall_nodict hs, Bool.or_self]
end
theorem dpall_len {K : PySem.W.Frag} {H : Hp} : ∀ {vs : List V} {ds : List PyData}, DpAll K H vs ds → vs.length = ds.length
  | _, _, .nil => rfl
  | _, _, .cons _ hs => congrArg Nat.succ (dpall_len hs)
theorem dpall_get {K : PySem.W.Frag} {H : Hp} : ∀ {vs : List V} {ds : List PyData}, DpAll K H vs ds → ∀ {i : Nat} {v : V}, vs[i]? = some v → ∃ d, ds[i]? = some d ∧ Dp K H v d
  | _, _, .nil, i, v, e => by simp at e
  | _, _, .cons h hs, 0, v, e => by
    simp at e
    subst e
    exact ⟨_, rfl, h⟩
  | _, _, .cons h hs, i + 1, v, e => dpall_get hs (i := i) (by simpa using e)
theorem An.up {K : PySem.W.Frag} {H H' : Hp} (k : Same H H') {v : V} {d : PyData} (h : An K H v d) : An K H' v d := by
  cases h with
  | dp h => exact .dp (dp_up k h)
  | dict e => exact .dict (k _ _ e)
def wholeD : PyData → Bool
  | .int _ => true
  | _ => false
def isTup : PyData → Bool
  | .tuple _ => true
  | _ => false
theorem sql_ty {K : PySem.W.Frag} {H : Hp} {p : Addr} {xs : List V} (h : SqL K H p xs) : TyX K H (.ref p) (.type "list") := by
  rcases h with (h | ⟨u, h⟩) | ⟨o, its, n, h1, h2, _⟩
  · exact .base (.lst h)
  · exact .base (.frz h)
  · exact .kList h1 h2
theorem sqt_tyA {K : PySem.W.Frag} {H : Hp} {p : Addr} {xs : List V} (h : SqT K H p xs) : TyX K H (.ref p) (.type "tuple") := by
  rcases h with (h | ⟨u, h⟩) | ⟨o, its, n, h1, h2, _⟩
  · exact .base (.tup h)
  · exact .fTuple h
  · exact .kTuple h1 h2
/-- what isinstance says -/
theorem An.is {K : PySem.W.Frag} {H : Hp} {v : V} {d : PyData} (h : An K H v d) : ∃ (t : Value) (i b c : Bool), TyX K H v t ∧ PySem.W.kitOne K t (.type "int") = some i ∧ PySem.W.kitOne K t (.type "bool") = some b ∧ PySem.W.kitOne K t (.type "tuple") = some c ∧ (i && !b) = wholeD d ∧ c = isTup d := by
  cases h with
  | dict e => exact ⟨_, false, false, false, .base (.dK e), kit_ty (by decide +kernel), kit_ty (by decide +kernel), kit_ty (by decide +kernel), rfl, rfl⟩
  | dp h =>
    cases h with
    | non => exact ⟨_, false, false, false, .base .non, kit_ty (by decide +kernel), kit_ty (by decide +kernel), kit_ty (by decide +kernel), rfl, rfl⟩
    | bl b => exact ⟨_, true, true, false, .base (.bl b), kit_ty (by decide +kernel), kit_ty (by decide +kernel), kit_ty (by decide +kernel), rfl, rfl⟩
    | int i => exact ⟨_, true, false, false, .base (.int i), kit_ty (by decide +kernel), kit_ty (by decide +kernel), kit_ty (by decide +kernel), rfl, rfl⟩
    | str x => exact ⟨_, false, false, false, .base (.str x), kit_ty (by decide +kernel), kit_ty (by decide +kernel), kit_ty (by decide +kernel), rfl, rfl⟩
    | lst h _ => exact ⟨_, false, false, false, sql_ty h, kit_ty (by decide +kernel), kit_ty (by decide +kernel), kit_ty (by decide +kernel), rfl, rfl⟩
    | tup h _ => exact ⟨_, false, false, true, sqt_tyA h, kit_ty (by decide +kernel), kit_ty (by decide +kernel), kit_ty (by decide +kernel), rfl, rfl⟩
/-- a tuple of data -/
theorem An.tup {K : PySem.W.Frag} {H : Hp} {v : V} {ds : List PyData} (h : An K H v (.tuple ds)) : ∃ p xs, v = .ref p ∧ SqT K H p xs ∧ DpAll K H xs ds := by
  cases h with
  | dp h =>
    cases h with
    | tup h hs => exact ⟨_, _, rfl, h, hs⟩
section
variable {X : Cx}
/-- repr of any of these -/
theorem call_reprA (gd : X.A.guards = some []) (hu : X.A.units + 66 < cLine) : CallR X (.builtin "repr") (fun xs H Q => ∃ (x : V) (d : PyData), xs = [x] ∧ An X.K H x d ∧ d.showable = true ∧ d.depth ≤ 64 ∧ d.shown.length ≤ sizeLine ∧ Q (.str d.shown) H) := by
  intro pins s σ H xs us Q I r h
  obtain ⟨x, d, rfl, ha, sh, dp, sz, q⟩ := h
  cases r with
  | cons r1 r2 =>
    cases r2
    cases ha with
    | dict e =>
      cases r1
      obtain ⟨hz, hS, vs, r, o, es, ep, h1, h2, h3, h4⟩ := (show ObjOk X.prog X.w H s.heap _ (.dK []) from I.hok _ _ e)
      cases r
      have hes : es.toList = [] := by
        have z := h4.2.1
        generalize es.toList = l at z
        cases z
        rfl
      have rd : Reads s.heap (.ref _) (.dict []) (_ :: [] ++ []) := Reads.dict (kvs := []) (as := []) (bs := []) h1 h2.1 h3 (by rw [hes]; exact .nil) (by rw [hes]; exact .nil)
      refine repr_of_reads' rd rfl (fun _ z => ?_) gd (by show X.A.units + (1 + 1) < cLine; omega) (fun _ _ z => z) (fun h' u tk z => ⟨.str _, H, I.kept z, ⟨_, rfl⟩, q⟩) sz
      simp at z
      simp [z] at hS
    | dp hd =>
      cases hd with
      | non =>
        cases r1
        exact PySem.P.repr_of_none ⟨.str _, H, I.tok _, ⟨_, rfl⟩, q⟩
      | bl b =>
        cases r1
        exact PySem.P.repr_of_bool ⟨.str _, H, I.tok _, ⟨_, rfl⟩, q⟩
      | int i =>
        obtain ⟨t, rfl⟩ := r1
        exact PySem.P.repr_of_int (of_decide_eq_true sh) ⟨.str _, H, I.tok _, ⟨_, rfl⟩, q⟩
      | str z =>
        obtain ⟨t, rfl⟩ := r1
        exact PySem.P.repr_of_str ⟨.str _, H, I.tok _, ⟨_, rfl⟩, q⟩ sz
      | lst h hs =>
        obtain ⟨as, rd⟩ := Dp.reads I _ _ _ (.lst h hs) r1
        cases r1
        exact repr_of_reads' rd sh (fun z => by rw [dp_nodict (.lst h hs)] at z; cases z) gd (by omega) (fun _ _ z => z) (fun h' u tk z => ⟨.str _, H, I.kept z, ⟨_, rfl⟩, q⟩) sz
      | tup h hs =>
        obtain ⟨as, rd⟩ := Dp.reads I _ _ _ (.tup h hs) r1
        cases r1
        exact repr_of_reads' rd sh (fun z => by rw [dp_nodict (.tup h hs)] at z; cases z) gd (by omega) (fun _ _ z => z) (fun h' u tk z => ⟨.str _, H, I.kept z, ⟨_, rfl⟩, q⟩) sz
/-- min of a tuple of ints -/
theorem cr_minT (hc : X.calm = true) : CallR X (.builtin "min") (fun vs H Q => ∃ (a : Addr) (ns : List Int), vs = [V.ref a] ∧ SqT X.K H a (ns.map V.int) ∧ 0 < ns.length ∧ ∀ m, m ∈ ns → (∀ y, y ∈ ns → m ≤ y) → Q (.int m) H) := by
  intro pins s σ H vs us Q I r h
  obtain ⟨a, ns, rfl, hs, hne, q⟩ := h
  obtain ⟨its, rv, ht, _⟩ := I.tuple hs
  rw [Vals.ref1 r]
  have hi : IntsAre its ns := rv.ints
  obtain ⟨xs, e⟩ := hi.allInts.items
  have hn : numsOf (intItems xs).toList = ns := by rw [← e]; exact hi.numsOf
  rw [nums_intItems] at hn
  subst hn
  rw [e] at ht
  have hsz : 0 < xs.size := by simpa using hne
  have ht' : s.heap.IsTuple a (intItems xs) := ht
  have hlt : a < s.heap.objs.size := by
    obtain ⟨_, z, _⟩ := ht'
    exact Heap.lt_size z
  have hsz1 : ∀ o, (s.heap.push o).objs.size = s.heap.objs.size + 1 := fun o => Heap.size_push ..
  refine call_min_walk (wpAny_pyIter_tuple ht' ⟨_, _, _, _, _, _, _, rfl, Walks.tuple (A := X.A.in1) (I.ok.hd hc) _ a (Nat.ne_of_lt hlt) (intItems xs), ⟨⟨_, Heap.get?_push_size _ rfl, rfl, rfl⟩, ?_⟩, ?_, by simpa [intItems] using hsz, CmpOf.ints_lt (numAt xs) (fun _ _ => intItems_at), ?_⟩)
  · obtain ⟨o, z1, z2⟩ := ht'
    exact ⟨o, Heap.get?_push_of_some _ z1, z2⟩
  · intro b hb
    show b < (s.heap.push _).objs.size
    rw [hsz1]
    rcases List.mem_cons.mp hb with rfl | hb
    · exact Nat.lt_succ_self _
    · rcases List.mem_cons.mp hb with rfl | hb
      · exact Nat.lt_succ_of_lt hlt
      · cases hb
  · intro v h' tk hP hk
    have hv : (intItems xs)[argBest (fun i j => decide (numAt xs i < numAt xs j)) (xs.size - 1)]? = some v := by simpa [intItems] using hP
    obtain ⟨t, rfl⟩ := intItems_at hv
    obtain ⟨h1, h2⟩ := argBest_lt (numAt xs) (xs.size - 1)
    have kept : ∀ b o, s.heap.get? b = some o → h'.get? b = some o := fun b o z => hk b o (by simpa using Nat.ne_of_lt (Heap.lt_size z)) (Heap.get?_push_of_some _ z)
    refine ⟨.int _, H, I.kept kept, ⟨_, rfl⟩, q _ ?_ ?_⟩
    · rw [numAt_eq]; exact PySem.getD_mem (by rw [List.length_map, Array.length_toList]; omega)
    · intro z hz
      obtain ⟨j, hj, rfl⟩ := mem_getD hz
      rw [List.length_map, Array.length_toList] at hj
      rw [← numAt_eq]; exact h2 j (by omega)
end
end

section
open PySem PySem.Spec PyProof.Rows L2
def gK1 {α : Type} : List α → List α → List α
  | [], [x] => [x]
  | _, _ => []
variable {X : Cx} {CX : CXT} {k : Nat} {f : Addr} {fd : FuncData} {ps ks : List Str} {sp : Sp} {E : XK} {x : Str} {p pos : Pos} {kws : List Keyword} {tk : TA} {g : List Value → List Value → List Value} {gV : List V → List V → List V}
/-- a call by keywords alone -/
theorem pe_callK0 (F : FnOk X.prog X.w X.K X.mg X.base CX k f fd ps sp) (hr : Room k X.A) (hg : Gl X x) (hm : X.mg x = some (.ref f)) (hk : PySem.W.keepIn X.K (.ref f) = true) (hb : KBinds X.K fd ps ks g gV) (hx : Passes CX X E)
    (hkw : PK X kws tk) (hall : (backToKw pos (keywordEach kws X.env)).all (·.1.isSome) = true := by rfl) (hks : (backToKw pos (keywordEach kws X.env)).filterMap (·.1) = ks := by rfl)
    (hdb : (x == ("__debug__" : Str)) = false := by decide) (hpl : ((backTo pos (starEach [] X.env)).any (·.1) || (backToKw pos (keywordEach kws X.env)).any (·.1.isNone)) = false := by rfl) :
    PE X (.Call (.Name x p) [] kws pos) (tCallK sp gV E tNil tk) := by
  constructor
  intro pins s σ H Q I h
  apply wpAny_Call_Name_kw
  refine ld_glob I hg hm ?_ hdb
  refine PySem.W.callWith_KW0 (h₀ := X.base) I.ok.mod.kin hk hall (thn (hkw.run pos pins s σ H _ I h) ?_) hpl
  rintro ws s2 ⟨zs, H2, I2, rz, q2⟩
  refine ⟨I2.kIn, ?_⟩
  rw [hks]
  exact run_fnk (us := []) (vs := []) F hr hb hx I2 .nil rz q2
theorem kb_one {K : PySem.W.Frag} {x qual p1 : Str} {st : Stmt} {f : Addr} {fd : FuncData} (F : Fun K x qual st f fd)
    (h : ∀ (kV doc pm : Value) (an : Option Addr) (cdv ct u : Value), bindArgs (PySem.W.fnOf x qual (defArgs st) (defBody st) (defScope st) .none kV doc pm an cdv ct) ⟨[], [(p1, u)]⟩ = pure [(p1, u)]) : KBinds K fd [p1] [p1] gK1 gK1 := by
  obtain ⟨oc, od, kV, doc, pm, an, cdv, ct, osl, rfl, _, _⟩ := F.ex
  constructor
  · intro s us ws _ hl
    match us, ws, hl with
    | [], [u], _ => exact .of_eq (h kV doc pm an cdv ct u)
  · intro vs us zs ws r1 r2
    cases r1 with
    | nil =>
      cases r2 with
      | nil => exact .nil
      | cons a r =>
        cases r with
        | nil => exact .cons a .nil
        | cons b r => exact .nil
    | cons a r => exact .nil

def isStr : PyData → Bool
  | .str _ => true
  | _ => false
theorem An.isS {K : PySem.W.Frag} {H : Hp} {v : V} {d : PyData} (h : An K H v d) : ∃ (t : Value) (b : Bool), TyX K H v t ∧ PySem.W.kitOne K t (.type "str") = some b ∧ b = isStr d := by
  cases h with
  | dict e => exact ⟨_, false, .base (.dK e), kit_ty (by decide +kernel), rfl⟩
  | dp h =>
    cases h with
    | non => exact ⟨_, false, .base .non, kit_ty (by decide +kernel), rfl⟩
    | bl b => exact ⟨_, false, .base (.bl b), kit_ty (by decide +kernel), rfl⟩
    | int i => exact ⟨_, false, .base (.int i), kit_ty (by decide +kernel), rfl⟩
    | str x => exact ⟨_, true, .base (.str x), kit_ty (by decide +kernel), rfl⟩
    | lst h _ => exact ⟨_, false, sql_ty h, kit_ty (by decide +kernel), rfl⟩
    | tup h _ => exact ⟨_, false, sqt_tyA h, kit_ty (by decide +kernel), rfl⟩
theorem An.str {K : PySem.W.Frag} {H : Hp} {v : V} {z : Str} (h : An K H v (.str z)) : v = .str z := by
  cases h with
  | dp h =>
    cases h with
    | str x => rfl
theorem nostr {d : PyData} (h : isStr d = false) : ∀ z, d ≠ .str z := fun z e => by
  subst e
  cases h
theorem isstr {d : PyData} (h : isStr d = true) : ∃ z, d = .str z := by
  cases d <;> first | exact ⟨_, rfl⟩ | (exact absurd h (by simp [isStr]))
end

def top (i : Nat) : Stmt := PySem.Challenge.pw_stampedwait_k16_keys_and_worths_or_none.main.body.getD i (.Pass ⟨0, 0, 0, 0⟩)
abbrev s_is_row_of_whole : Stmt := top 1
abbrev s_is_key : Stmt := top 6
abbrev s_is_worth : Stmt := top 7
abbrev s_l_begun : Stmt := top 9
abbrev s_l_take : Stmt := top 10
abbrev s_l_worth : Stmt := top 12
abbrev s_l_is_key : Stmt := top 13
abbrev s_l_is_worth : Stmt := top 14
abbrev s_l_right : Stmt := top 15
abbrev s_law : Stmt := top 16
theorem sc_is_row_of_whole : FnScope ["thing", "least", "most", "part"] ["thing", "least", "most"] (defScope s_is_row_of_whole) := ⟨rfl, rfl, rfl, by decide +kernel, rfl, by decide +kernel, by decide +kernel⟩
theorem sc_is_key : FnScope ["thing"] ["thing"] (defScope s_is_key) := ⟨rfl, rfl, rfl, by decide +kernel, rfl, by decide +kernel, by decide +kernel⟩
theorem sc_is_worth : FnScope ["thing"] ["thing"] (defScope s_is_worth) := ⟨rfl, rfl, rfl, by decide +kernel, rfl, by decide +kernel, by decide +kernel⟩
theorem sc_l_begun : FnScope ["_law_script", "_law_k", "_law_cell", "_law_number", "_law_mixed"] ["_law_script", "_law_k"] (defScope s_l_begun) := ⟨rfl, rfl, rfl, by decide +kernel, rfl, by decide +kernel, by decide +kernel⟩
theorem sc_l_take : FnScope ["_law_state", "_law_many", "_law_digit", "_law_made", "_law_turn"] ["_law_state", "_law_many"] (defScope s_l_take) := ⟨rfl, rfl, rfl, by decide +kernel, rfl, by decide +kernel, by decide +kernel⟩
theorem sc_l_worth : FnScope ["_law_state", "_law_sizes", "_law_found", "_law_turn"] ["_law_state"] (defScope s_l_worth) := ⟨rfl, rfl, rfl, by decide +kernel, rfl, by decide +kernel, by decide +kernel⟩
theorem sc_l_is_key : FnScope ["_law_item", "_law_sign"] ["_law_item"] (defScope s_l_is_key) := ⟨rfl, rfl, rfl, by decide +kernel, rfl, by decide +kernel, by decide +kernel⟩
theorem sc_l_is_worth : FnScope ["_law_item", "_law_one"] ["_law_item"] (defScope s_l_is_worth) := ⟨rfl, rfl, rfl, by decide +kernel, rfl, by decide +kernel, by decide +kernel⟩
theorem sc_l_right : FnScope ["_law_item", "_law_kept"] ["_law_item"] (defScope s_l_right) := ⟨rfl, rfl, rfl, by decide +kernel, rfl, by decide +kernel, by decide +kernel⟩
theorem sc_law : FnScope ["_law_script", "_law_k", "_law_state", "_law_signs", "_law_word", "_law_at", "_law_sign", "_law_worth_here", "_law_things", "_law_turn", "_law_item"] ["_law_script"] (defScope s_law) := ⟨rfl, rfl, rfl, by decide +kernel, rfl, by decide +kernel, by decide +kernel⟩
/-- what the top has written -/
structure Txt (K : PySem.W.Frag) (mg : Str → Option Value) (a : Nat → Addr) (d : Nat → FuncData) : Prop where
  g_is_row_of_whole : mg "is_row_of_whole" = some (.ref (a 0))
  F_is_row_of_whole : Fun K "is_row_of_whole" "is_row_of_whole" s_is_row_of_whole (a 0) (d 0)
  b_is_row_of_whole : Binds K (d 0) ["thing", "least", "most"] []
  g_is_key : mg "is_key" = some (.ref (a 1))
  F_is_key : Fun K "is_key" "is_key" s_is_key (a 1) (d 1)
  b_is_key : Binds K (d 1) ["thing"] []
  g_is_worth : mg "is_worth" = some (.ref (a 2))
  F_is_worth : Fun K "is_worth" "is_worth" s_is_worth (a 2) (d 2)
  b_is_worth : Binds K (d 2) ["thing"] []
  g_l_begun : mg "_law_begun" = some (.ref (a 3))
  F_l_begun : Fun K "_law_begun" "_law_begun" s_l_begun (a 3) (d 3)
  b_l_begun : Binds K (d 3) ["_law_script", "_law_k"] []
  g_l_take : mg "_law_take" = some (.ref (a 4))
  F_l_take : Fun K "_law_take" "_law_take" s_l_take (a 4) (d 4)
  b_l_take : Binds K (d 4) ["_law_state", "_law_many"] []
  g_l_worth : mg "_law_worth" = some (.ref (a 5))
  F_l_worth : Fun K "_law_worth" "_law_worth" s_l_worth (a 5) (d 5)
  b_l_worth : Binds K (d 5) ["_law_state"] []
  g_l_is_key : mg "_law_is_key" = some (.ref (a 6))
  F_l_is_key : Fun K "_law_is_key" "_law_is_key" s_l_is_key (a 6) (d 6)
  b_l_is_key : Binds K (d 6) ["_law_item"] []
  g_l_is_worth : mg "_law_is_worth" = some (.ref (a 7))
  F_l_is_worth : Fun K "_law_is_worth" "_law_is_worth" s_l_is_worth (a 7) (d 7)
  b_l_is_worth : Binds K (d 7) ["_law_item"] []
  g_l_right : mg "_law_right" = some (.ref (a 8))
  F_l_right : Fun K "_law_right" "_law_right" s_l_right (a 8) (d 8)
  b_l_right : Binds K (d 8) ["_law_item"] []
  g_law : mg "law" = some (.ref (a 9))
  F_law : Fun K "law" "law" s_law (a 9) (d 9)
  b_law : Binds K (d 9) ["_law_script"] []
  g_LETTERS : ∃ t, mg "LETTERS" = some (.str "abcdefghijklmnopqrstuvwxyz" t)
  g_MOST_LETTERS : ∃ t, mg "MOST_LETTERS" = some (.int 6 t)
  g_MOST_FIELDS : ∃ t, mg "MOST_FIELDS" = some (.int 4 t)
  z_max : mg "max" = none
  z_min : mg "min" = none
  z_abs : mg "abs" = none
  z_len : mg "len" = none
  z_int : mg "int" = none
  z_range : mg "range" = none
  z_isinstance : mg "isinstance" = none
  z_bool : mg "bool" = none
  z_tuple : mg "tuple" = none
  z_all : mg "all" = none
  z_repr : mg "repr" = none
  z_list : mg "list" = none
  z_str : mg "str" = none

/-- a state of draws stands at s -/
def StAt (H : Hp) (s : Addr) : Prop := ∃ (a b : Int) (c : Bool), H s = some (.lst [.int a, .int b, .bl c]) ∧ 0 ≤ b ∧ b < 2147483647
/-- all else that was tracked stands; at s a state -/
def Kp (s : Addr) (H H' : Hp) : Prop := (∀ b o, b ≠ s → H b = some o → H' b = some o) ∧ StAt H' s
theorem StAt.kp {H : Hp} {s : Addr} (h : StAt H s) : Kp s H H := ⟨fun _ _ _ e => e, h⟩
theorem Kp.trans {s : Addr} {H H1 H2 : Hp} (a : Kp s H H1) (b : Kp s H1 H2) : Kp s H H2 := ⟨fun c o n e => b.1 c o n (a.1 c o n e), b.2⟩
theorem StAt.ne_new {H : Hp} {s p : Addr} (h : StAt H s) (hp : H p = none) : p ≠ s := by
  obtain ⟨a, b, c, e, _⟩ := h
  exact (ne_of_none e hp).symm
theorem StAt.new {H : Hp} {s p : Addr} {o : HO} (h : StAt H s) (hp : H p = none) : StAt (upd H p o) s := by
  obtain ⟨a, b, c, e, r⟩ := h
  exact ⟨a, b, c, by rw [upd_ne (ne_of_none e hp)]; exact e, r⟩
theorem Kp.new {s p : Addr} {H H1 : Hp} {o : HO} (k : Kp s H H1) (hp : H1 p = none) : Kp s H (upd H1 p o) :=
  ⟨fun b u n e => by rw [upd_ne (ne_of_none (k.1 b u n e) hp)]; exact k.1 b u n e, k.2.new hp⟩
theorem StAt.ne_tup {H : Hp} {s p : Addr} {xs : List V} (h : StAt H s) (hp : H p = some (.tup xs)) : p ≠ s := by
  obtain ⟨a, b, c, e, _⟩ := h
  exact ne_of hp e (by intro q; cases q)
theorem Kp.tup {s p : Addr} {H H1 : Hp} {xs : List V} (k : Kp s H H1) (h0 : StAt H s) (hp : H p = some (.tup xs)) : H1 p = some (.tup xs) := k.1 p _ (h0.ne_tup hp) hp
theorem Kp.free {s p : Addr} {H H1 : Hp} (k : Kp s H H1) (h0 : StAt H s) (hp : H1 p = none) : H p = none := by
  cases e : H p with
  | none => rfl
  | some o =>
    have z := k.1 p o (k.2.ne_new hp) e
    rw [hp] at z
    cases z
theorem Kp.same {s : Addr} {H0 H H1 : Hp} (a : Same H0 H) (hs : H0 s = none) (k : Kp s H H1) : Same H0 H1 := fun b o e => k.1 b o (ne_of_none e hs) (a b o e)
theorem same_new {H0 H : Hp} {p : Addr} {o : HO} (a : Same H0 H) (hp : H p = none) : Same H0 (upd H p o) := fun b u e => by
  rw [upd_ne (ne_of_none (a b u e) hp)]
  exact a b u e
theorem m64 {i : Int} (a : -18446744073709551616 < i) (b : i < 18446744073709551616) : -(2 ^ 64) < i ∧ i < 2 ^ 64 := by
  have e : (2 : Int) ^ 64 = 18446744073709551616 := by decide
  rw [e]
  exact ⟨a, b⟩
theorem divW {i j : Int} (h : 0 < j) (hb : j < 2 ^ 2000) : CDivW i j := wide_div (b := 2000) h (by
  have e : (j.natAbs : Int) = j := by omega
  have q : (j.natAbs : Int) < ((2 ^ 2000 : Nat) : Int) := by rw [e]; exact hb
  exact Int.ofNat_lt.mp q) (by decide) (by decide)
theorem p2000 {j : Int} (h : j ≤ 1000000000000000000000000000000) : j < 2 ^ 2000 := Int.lt_of_le_of_lt h (by decide)
theorem cell_at (ns : List Int) (lo hi : Option Int) : ∃ c : Int, atI (cutV (ns.map V.int) lo hi ++ [V.int 0]) 0 = some (V.int c) := by
  unfold cutV
  rw [← List.map_drop, ← List.map_take]
  generalize ((List.drop _ ns).take _) = l
  cases l with
  | nil => exact ⟨0, rfl⟩
  | cons x xs => exact ⟨x, atI_nat (j := 0) rfl⟩
theorem cut_len (xs : List V) (lo hi : Option Int) : (cutV xs lo hi).length ≤ xs.length := by
  unfold cutV
  rw [List.length_take, List.length_drop]
  omega
theorem bl_of {Q : VK} {H : Hp} {c : Prop} [Decidable c] (h : c) (q : Q (.bl true) H) : Q (.bl (decide c)) H := by
  rw [decide_eq_true h]
  exact q
theorem iteDT {c A B : Prop} [Decidable c] (h : c) (a : A) : if decide c = true then A else B := by
  rw [if_pos (decide_eq_true h)]
  exact a
theorem iteDF {c A B : Prop} [Decidable c] (h : ¬ c) (b : B) : if decide c = true then A else B := by
  rw [decide_eq_false h]
  exact iteF b
theorem iteND {c A B : Prop} [Decidable c] (h : ¬ c) (a : A) : if (!decide c) = true then A else B := by
  rw [decide_eq_false h]
  exact iteT a
theorem len3 : 3 ≤ sizeLine := by decide
theorem len2 : 2 ≤ sizeLine := by decide
theorem len1 : 1 ≤ sizeLine := by decide
def spBegun (K : PySem.W.Frag) : Sp := fun vs H Q _ => ∃ (l : Addr) (ns : List Int) (k : Int), vs = [.ref l, .int k] ∧ SqL K H l (ns.map V.int) ∧ ns.length ≤ 63 ∧ 0 ≤ k ∧ k ≤ 100 ∧ ∀ (p : Addr) (H' : Hp), H p = none → Same H H' → StAt H' p → Q (.ref p) H'
def spTake : Sp := fun vs H Q _ => ∃ (s : Addr) (m : Int), vs = [.ref s, .int m] ∧ StAt H s ∧ 0 < m ∧ m ≤ 1000000000000000000000000000000 ∧ ∀ (r : Int) (H' : Hp), 0 ≤ r → r < m → Kp s H H' → Q (.int r) H'

theorem bl_no {Q : VK} {H : Hp} {c : Prop} [Decidable c] (h : ¬ c) (q : Q (.bl false) H) : Q (.bl (decide c)) H := by
  rw [decide_eq_false h]
  exact q
theorem iteBT {c : Bool} {A B : Prop} (h : c = true) (a : A) : if c = true then A else B := by
  rw [if_pos h]
  exact a
theorem iteBF {c : Bool} {A B : Prop} (h : c = false) (b : B) : if c = true then A else B := by
  rw [h]
  exact iteF b
theorem bq {Q : VK} {H : Hp} {b c : Bool} (e : b = c) (q : Q (.bl b) H) : Q (.bl c) H := e ▸ q
def spLaw (K : PySem.W.Frag) : Sp := fun vs H Q _ => ∃ (a : Addr) (ns : List Int), vs = [.ref a] ∧ SqL K H a (ns.map V.int) ∧ ns.length ≤ 63 ∧ ∀ H', Q (.bl true) H'
theorem istup {d : PyData} (h : isTup d = true) : ∃ ds, d = .tuple ds := by
  cases d <;> first | exact ⟨_, rfl⟩ | (exact absurd h (by simp [isTup]))
/-! ### texts -/
/-- a short text of plain signs -/
structure Sh (n : Nat) (z : Str) : Prop where
  ln : z.cps.toList.length ≤ n
  as : ∀ c ∈ z.cps.toList, c < 128
def ltr (c : Nat) : Bool := decide (97 ≤ c) && decide (c ≤ 122)
theorem Sh.up {n m : Nat} {z : Str} (h : Sh n z) (e : n ≤ m) : Sh m z := ⟨Nat.le_trans h.ln e, h.as⟩
theorem Sh.len {n : Nat} {z : Str} (h : Sh n z) : z.length ≤ n := by
  have z := h.ln
  rw [Array.length_toList] at z
  exact z
theorem app_tl (x y : Str) : (x ++ y).cps.toList = x.cps.toList ++ y.cps.toList := TL.tl_append x y
theorem Sh.app {n m : Nat} {x y : Str} (a : Sh n x) (b : Sh m y) : Sh (n + m) (x ++ y) := by
  refine ⟨?_, ?_⟩
  · rw [app_tl, List.length_append]
    exact Nat.add_le_add a.ln b.ln
  · intro c hc
    rw [app_tl] at hc
    exact (List.mem_append.mp hc).elim (a.as c) (b.as c)
theorem Sh.cut {n : Nat} {z : Str} (a : Sh n z) (lo hi : Option Int) : Sh n (cutS z lo hi) := by
  refine ⟨?_, ?_⟩
  · have := a.ln
    show ((List.take _ (List.drop _ z.cps.toList)).toArray.toList).length ≤ n
    rw [List.length_take, List.length_drop]
    omega
  · intro c hc
    exact a.as c (List.mem_of_mem_drop (List.mem_of_mem_take hc))
/-- a text of small letters -/
def Lw (z : Str) : Prop := ∀ c ∈ z.cps.toList, ltr c = true
theorem Lw.sh {z : Str} {n : Nat} (h : Lw z) (l : z.cps.toList.length ≤ n) : Sh n z := ⟨l, fun c hc => by
  have z := h c hc
  simp only [ltr, Bool.and_eq_true, decide_eq_true_eq] at z
  omega⟩
theorem joined : ∀ (cs : List Nat), (Str.join "" (cs.map fun c => (⟨#[c]⟩ : Str))).cps.toList = cs
  | [] => rfl
  | [c] => rfl
  | c :: d :: r => by
    have ih := joined (d :: r)
    show ((⟨#[c]⟩ : Str) ++ ("" : Str) ++ Str.join "" ((d :: r).map fun c => (⟨#[c]⟩ : Str))).cps.toList = _
    rw [app_tl, app_tl, ih]
    rfl
theorem up_one : ∀ c : Fin 123, ltr c.val = true → (Unicode.upperOf c.val).length = 1 ∧ ∀ x ∈ Unicode.upperOf c.val, x < 128 := by decide +kernel
theorem up_ltr {c : Nat} (h : ltr c = true) : (Unicode.upperOf c).length = 1 ∧ ∀ x ∈ Unicode.upperOf c, x < 128 := by
  have z := h
  simp only [ltr, Bool.and_eq_true, decide_eq_true_eq] at z
  exact up_one ⟨c, by omega⟩ h
theorem placed_tl (x : Str) (f : Nat → List Nat) : (placed x fun _ c => f c).toList = (x.cps.toList.map f).flatten := by
  unfold placed
  rw [Array.toList_flatten, Array.toList_mapIdx]
  congr 1
  apply List.ext_getElem?
  intro i
  simp [List.getElem?_mapIdx, Function.comp_def]
theorem flat_len : ∀ (l : List Nat), (∀ c ∈ l, ltr c = true) → ((l.map Unicode.upperOf).flatten).length = l.length
  | [], _ => rfl
  | c :: r, h => by
    rw [List.map_cons, List.flatten_cons, List.length_append, flat_len r fun x hx => h x (List.mem_cons_of_mem _ hx), (up_ltr (h c (List.mem_cons_self ..))).1, List.length_cons]
    omega
theorem Lw.upper {z : Str} {n : Nat} (h : Lw z) (l : z.cps.toList.length ≤ n) : Sh n (Txt.upper z) := by
  have e : (Txt.upper z).cps.toList = (z.cps.toList.map Unicode.upperOf).flatten := placed_tl z Unicode.upperOf
  refine ⟨?_, ?_⟩
  · rw [e, flat_len _ h]
    exact l
  · intro c hc
    rw [e] at hc
    obtain ⟨l', hl, hc⟩ := List.mem_flatten.mp hc
    obtain ⟨x, hx, rfl⟩ := List.mem_map.mp hl
    exact (up_ltr (h x hx)).2 c hc
theorem letters_eq : (Str.ofString "abcdefghijklmnopqrstuvwxyz").cps.toList = List.range' 97 26 := by decide +kernel
theorem letters_in (c : Nat) : decide (c ∈ (Str.ofString "abcdefghijklmnopqrstuvwxyz").cps.toList) = ltr c := by
  rw [letters_eq]
  unfold ltr
  rw [← Bool.decide_and]
  exact decide_eq_decide.mpr ⟨fun h => by have := List.mem_range'_1.mp h; omega, fun h => List.mem_range'_1.mpr (by omega)⟩
theorem lt_one (a b : Nat) : ([a] < [b]) ↔ a < b := by
  rw [List.cons_lt_cons_iff]
  simp
theorem a_le (c : Nat) : (!decide ((⟨#[c]⟩ : Str).cps.toList < (Str.ofString "a").cps.toList)) = decide (97 ≤ c) := by
  have e : (Str.ofString "a").cps.toList = [97] := by decide +kernel
  rw [e]
  show (!decide ([c] < [97])) = _
  rw [← decide_not]
  exact decide_eq_decide.mpr (by rw [lt_one]; omega)
theorem le_z (c : Nat) : (!decide ((Str.ofString "z").cps.toList < (⟨#[c]⟩ : Str).cps.toList)) = decide (c ≤ 122) := by
  have e : (Str.ofString "z").cps.toList = [122] := by decide +kernel
  rw [e]
  show (!decide ([122] < [c])) = _
  rw [← decide_not]
  exact decide_eq_decide.mpr (by rw [lt_one]; omega)
/-! ### what the looks say of data -/
def keyD : PyData → Bool
  | .str z => decide (1 ≤ z.cps.toList.length) && decide (z.cps.toList.length ≤ 6) && z.cps.toList.all ltr
  | _ => false
def worthD : PyData → Bool
  | .tuple ds => decide (1 ≤ ds.length) && decide (ds.length ≤ 4) && ds.all wholeD
  | _ => false
theorem key_no {d : PyData} (h : isStr d = false) : keyD d = false := by
  cases d <;> first | rfl | (exact absurd h (by simp [isStr]))
theorem worth_no {d : PyData} (h : isTup d = false) : worthD d = false := by
  cases d <;> first | rfl | (exact absurd h (by simp [isTup]))
/-- what can be shown -/
structure Shw (d : PyData) : Prop where
  sh : d.showable = true
  dp : d.depth ≤ 64
  sz : d.shown.length ≤ sizeLine
structure Fl (d : PyData) : Prop where
  tp : ∀ ds, d = .tuple ds → PyData.canLayAll0 ds = true ∧ PyData.depthAll ds ≤ 10 ∧ ds.length ≤ 10
  st : ∀ z, d = .str z → Sh 20 z
def Good (K : PySem.W.Frag) (H : Hp) (v : V) : Prop := ∃ d, An K H v d ∧ Shw d ∧ Fl d
theorem Good.up {K : PySem.W.Frag} {H H' : Hp} {v : V} (h : Good K H v) (k : Same H H') : Good K H' v := by
  obtain ⟨d, a, s, f⟩ := h
  exact ⟨d, a.up k, s, f⟩
theorem gnil {K : PySem.W.Frag} {H : Hp} : ∀ v ∈ ([] : List V), Good K H v := fun v h => by cases h
theorem gcons {K : PySem.W.Frag} {H : Hp} {x : V} {xs : List V} (a : Good K H x) (b : ∀ v ∈ xs, Good K H v) : ∀ v ∈ x :: xs, Good K H v := fun v h => by
  rcases List.mem_cons.mp h with e | e
  · rw [e]
    exact a
  · exact b v e
theorem gapp {K : PySem.W.Frag} {H : Hp} {xs ys : List V} (a : ∀ v ∈ xs, Good K H v) (b : ∀ v ∈ ys, Good K H v) : ∀ v ∈ xs ++ ys, Good K H v := fun v h => (List.mem_append.mp h).elim (a v) (b v)
/-- small leaves -/
def lf (d : PyData) : Bool := d.showable && decide (d.depth = 0) && d.leavesShort 200 && decide (d.weight ≤ 200) && d.canLay0
theorem int_len {i : Int} (h : i.natAbs < 2 ^ 110) : (Str.ofString (toString i)).length ≤ 200 := by
  have z := PySem.int_text_length_le (k := 110) (by decide) (PySem.Flt.log2_lt_of (by decide) h)
  rw [ofString_length]
  omega
theorem int_leaf {i : Int} (h : i.natAbs < 2 ^ 110) : lf (.int i) = true := by
  have hl : i.natAbs.log2 < 110 := PySem.Flt.log2_lt_of (by decide) h
  have e1 : (PyData.int i).showable = true := decide_eq_true (by omega)
  have e3 : (PyData.int i).weight ≤ 200 := by
    show Builtin.Int.intBits i ≤ 200
    unfold Builtin.Int.intBits
    split <;> omega
  have e4 : (PyData.int i).leavesShort 200 = true := by
    refine decide_eq_true ?_
    show (Str.ofString (toString i)).length ≤ 200
    exact int_len h
  unfold lf
  rw [e1, e4, decide_eq_true e3]
  rfl
theorem int_leaf2 {i : Int} (h : -1000000000000000000000000000000 ≤ i) (h2 : i ≤ 1000000000000000000000000000000) : lf (.int i) = true := by
  refine int_leaf ?_
  have e : (2 : Nat) ^ 110 = 1298074214633706907132624082305024 := by decide
  rw [e]
  omega
theorem str_leaf {z : Str} {n : Nat} (h : Sh n z) (hn : n ≤ 200) : lf (.str z) = true := by
  have e1 : (PyData.str z).showable = true := rfl
  have e2 : (PyData.str z).depth = 0 := rfl
  have e3 : (PyData.str z).leavesShort 200 = true := by
    show (z.cps.toList.all fun c => decide (c < 16 ^ 8)) = true
    refine List.all_eq_true.mpr fun c hc => decide_eq_true ?_
    have := h.as c hc
    omega
  have e4 : (PyData.str z).weight ≤ 200 := by
    show z.cps.size ≤ 200
    have := h.ln
    rw [Array.length_toList] at this
    omega
  have e5 : (PyData.str z).canLay0 = true := by
    show z.cps.all (· < 0x110000) = true
    rw [← Array.all_toList]
    refine List.all_eq_true.mpr fun c hc => decide_eq_true ?_
    have := h.as c hc
    omega
  unfold lf
  rw [e1, e2, e3, e5, decide_eq_true e4]
  rfl
theorem lf_all : ∀ {ds : List PyData}, ds.all lf = true → PyData.showableAll ds = true ∧ PyData.depthAll ds = 0 ∧ PyData.leavesShortAll 200 ds = true ∧ PyData.weightAll ds ≤ 201 * ds.length ∧ PyData.canLayAll0 ds = true
  | [], _ => ⟨rfl, rfl, rfl, by decide, rfl⟩
  | d :: ds, h => by
    simp only [List.all_cons, Bool.and_eq_true] at h
    obtain ⟨h1, h2, h3, h4, h5⟩ := lf_all h.2
    have h0 := h.1
    simp only [lf, Bool.and_eq_true, decide_eq_true_eq] at h0
    obtain ⟨⟨⟨⟨a1, a2⟩, a3⟩, a4⟩, a5⟩ := h0
    refine ⟨?_, ?_, ?_, ?_, ?_⟩
    · simp only [PyData.showableAll, a1, h1, Bool.and_self]
    · simp only [PyData.depthAll, a2, h2, Nat.max_self]
    · simp only [PyData.leavesShortAll, a3, h3, Bool.and_self]
    · simp only [PyData.weightAll, List.length_cons]
      omega
    · simp only [PyData.canLayAll0, a5, h5, Bool.and_self]
theorem shw_tup {ds : List PyData} (h : ds.all lf = true) (hl : ds.length ≤ 10) : Shw (.tuple ds) := by
  obtain ⟨h1, h2, h3, h4, _⟩ := lf_all h
  refine ⟨by simp only [PyData.showable]; exact h1, by simp only [PyData.depth, h2]; decide, ?_⟩
  have z := PyData.shown_le 200 (by decide) (.tuple ds) (by simp only [PyData.leavesShort]; exact h3)
  have w : (PyData.tuple ds).weight ≤ 2100 := by
    simp only [PyData.weight]
    omega
  rw [sizeLine_eq]
  omega
theorem shw_lst {ds : List PyData} (h : ds.all lf = true) (hl : ds.length ≤ 10) : Shw (.list ds) := by
  obtain ⟨h1, h2, h3, h4, _⟩ := lf_all h
  refine ⟨by simp only [PyData.showable]; exact h1, by simp only [PyData.depth, h2]; decide, ?_⟩
  have z := PyData.shown_le 200 (by decide) (.list ds) (by simp only [PyData.leavesShort]; exact h3)
  have w : (PyData.list ds).weight ≤ 2100 := by
    simp only [PyData.weight]
    omega
  rw [sizeLine_eq]
  omega
theorem shw_lf {d : PyData} (h : lf d = true) : Shw d := by
  simp only [lf, Bool.and_eq_true, decide_eq_true_eq] at h
  obtain ⟨⟨⟨⟨a1, a2⟩, a3⟩, a4⟩, _⟩ := h
  have z := PyData.shown_le 200 (by decide) d a3
  refine ⟨a1, by omega, ?_⟩
  rw [sizeLine_eq]
  omega
theorem shw_one {ds : List PyData} (h : ds.all lf = true) (hl : ds.length ≤ 10) : Shw (.tuple [.tuple ds]) := by
  obtain ⟨h1, h2, h3, h4, _⟩ := lf_all h
  refine ⟨by simp only [PyData.showable, PyData.showableAll, h1, Bool.and_self], by simp only [PyData.depth, PyData.depthAll, h2]; decide, ?_⟩
  have z := PyData.shown_le 200 (by decide) (.tuple [.tuple ds]) (by simp only [PyData.leavesShort, PyData.leavesShortAll, h3, Bool.and_self])
  have w : (PyData.tuple [.tuple ds]).weight ≤ 2200 := by
    simp only [PyData.weight, PyData.weightAll]
    omega
  rw [sizeLine_eq]
  omega
theorem fl_tup {ds : List PyData} (h : ds.all lf = true) (hl : ds.length ≤ 10) : Fl (.tuple ds) := by
  refine ⟨fun es e => ?_, fun z e => (by cases e)⟩
  cases e
  obtain ⟨h1, h2, h3, h4, h5⟩ := lf_all h
  exact ⟨h5, by omega, hl⟩
theorem fl_one {ds : List PyData} (h : ds.all lf = true) : Fl (.tuple [.tuple ds]) := by
  refine ⟨fun es e => ?_, fun z e => (by cases e)⟩
  cases e
  obtain ⟨h1, h2, h3, h4, h5⟩ := lf_all h
  exact ⟨by simp only [PyData.canLayAll0, PyData.canLay0, h5, Bool.and_self], by simp only [PyData.depthAll, PyData.depth, h2]; decide, (by show 1 ≤ 10; decide)⟩
theorem fl_no {d : PyData} (h : isTup d = false) (h2 : isStr d = false) : Fl d := ⟨fun ds e => (by subst e; cases h), fun z e => (by subst e; cases h2)⟩
theorem gStr {K : PySem.W.Frag} {H : Hp} {z : Str} {n : Nat} (h : Sh n z) (hn : n ≤ 20) : Good K H (.str z) :=
  ⟨.str z, .dp (.str _), shw_lf (str_leaf h (by omega)), ⟨fun ds e => (by cases e), fun y e => (by cases e; exact h.up hn)⟩⟩
theorem gTup {K : PySem.W.Frag} {H : Hp} {p : Addr} {xs : List V} {ds : List PyData} (hp : H p = some (.tup xs)) (a : DpAll K H xs ds) (h : ds.all lf = true) (hl : ds.length ≤ 10) : Good K H (.ref p) :=
  ⟨.tuple ds, .dp (.tup (SqT.of hp) a), shw_tup h hl, fl_tup h hl⟩
theorem gLst {K : PySem.W.Frag} {H : Hp} {p : Addr} {xs : List V} {ds : List PyData} (hp : H p = some (.lst xs)) (a : DpAll K H xs ds) (h : ds.all lf = true) (hl : ds.length ≤ 10) : Good K H (.ref p) :=
  ⟨.list ds, .dp (.lst (SqL.of hp) a), shw_lst h hl, fl_no rfl rfl⟩
theorem gOne {K : PySem.W.Frag} {H : Hp} {p q : Addr} {xs : List V} {ds : List PyData} (hp : H p = some (.tup [.ref q])) (hq : H q = some (.tup xs)) (a : DpAll K H xs ds) (h : ds.all lf = true) (hl : ds.length ≤ 10) : Good K H (.ref p) :=
  ⟨.tuple [.tuple ds], .dp (.tup (SqT.of hp) (.cons (.tup (SqT.of hq) a) .nil)), shw_one h hl, fl_one h⟩
theorem gInt {K : PySem.W.Frag} {H : Hp} {i : Int} (h : lf (.int i) = true) : Good K H (.int i) := ⟨.int i, .dp (.int _), shw_lf h, fl_no rfl rfl⟩
theorem gBl {K : PySem.W.Frag} {H : Hp} (b : Bool) : Good K H (.bl b) := ⟨.bool b, .dp (.bl _), shw_lf (by cases b <;> decide +kernel), fl_no rfl rfl⟩
theorem gNon {K : PySem.W.Frag} {H : Hp} : Good K H .non := ⟨.none, .dp .non, shw_lf (by decide +kernel), fl_no rfl rfl⟩
theorem gDict {K : PySem.W.Frag} {H : Hp} {p : Addr} (h : H p = some (.dK [])) : Good K H (.ref p) := ⟨.dict [], .dict h, ⟨by decide +kernel, by decide +kernel, by decide +kernel⟩, fl_no rfl rfl⟩
theorem dpall_app {K : PySem.W.Frag} {H : Hp} : ∀ {xs ys : List V} {ds es : List PyData}, DpAll K H xs ds → DpAll K H ys es → DpAll K H (xs ++ ys) (ds ++ es)
  | _, _, _, _, .nil, h => h
  | _, _, _, _, .cons a r, h => .cons a (dpall_app r h)
theorem dpall_ints {K : PySem.W.Frag} {H : Hp} : ∀ (ns : List Int), DpAll K H (ns.map V.int) (ns.map PyData.int)
  | [] => .nil
  | n :: r => .cons (.int n) (dpall_ints r)
theorem dpall_signs {K : PySem.W.Frag} {H : Hp} : ∀ (cs : List Nat), DpAll K H (cs.map fun c => V.str ⟨#[c]⟩) (cs.map fun c => PyData.str ⟨#[c]⟩)
  | [] => .nil
  | n :: r => .cons (.str _) (dpall_signs r)
theorem lf_app {a b : List PyData} (h : a.all lf = true) (h2 : b.all lf = true) : (a ++ b).all lf = true := by
  rw [List.all_append, h, h2]
  rfl
theorem lay_filter (p : PyData → Bool) : ∀ (ds : List PyData), PyData.canLayAll0 ds = true → PyData.canLayAll0 (ds.filter p) = true ∧ PyData.depthAll (ds.filter p) ≤ PyData.depthAll ds
  | [], _ => ⟨rfl, Nat.le_refl _⟩
  | d :: ds, h => by
    simp only [PyData.canLayAll0, Bool.and_eq_true] at h
    obtain ⟨h1, h2⟩ := lay_filter p ds h.2
    rw [List.filter_cons]
    split
    · refine ⟨by simp only [PyData.canLayAll0, h.1, h1, Bool.and_self], ?_⟩
      simp only [PyData.depthAll]
      omega
    · refine ⟨h1, ?_⟩
      simp only [PyData.depthAll]
      omega
theorem signs_lay {n : Nat} {z : Str} (h : Sh n z) (p : Nat → Bool) : PyData.canLayAll0 ((z.cps.toList.filter p).map fun c => PyData.str ⟨#[c]⟩) = true ∧ PyData.depthAll ((z.cps.toList.filter p).map fun c => PyData.str ⟨#[c]⟩) = 0 := by
  have : ∀ cs : List Nat, (∀ c ∈ cs, c < 128) → PyData.canLayAll0 (cs.map fun c => PyData.str ⟨#[c]⟩) = true ∧ PyData.depthAll (cs.map fun c => PyData.str ⟨#[c]⟩) = 0 := by
    intro cs
    induction cs with
    | nil => exact fun _ => ⟨rfl, rfl⟩
    | cons c r ih =>
      intro hc
      obtain ⟨i1, i2⟩ := ih fun x hx => hc x (List.mem_cons_of_mem _ hx)
      have c1 := hc c (List.mem_cons_self ..)
      have e : (PyData.str ⟨#[c]⟩).canLay0 = true := by
        show (#[c] : Array Nat).all (· < 0x110000) = true
        rw [← Array.all_toList]
        simp
        omega
      refine ⟨?_, ?_⟩
      · simp only [List.map_cons, PyData.canLayAll0, e, i1, Bool.and_self]
      · simp only [List.map_cons, PyData.depthAll, i2]
        rfl
  exact this _ fun c hc => h.as c (List.mem_filter.mp hc).1
theorem eqv_nil (ds : List PyData) : PyData.eqv (.list ds) (.list []) = ds.isEmpty := by
  cases ds <;> simp [PyData.eqv, PyData.eqvAll]
theorem two_bools (a b : Bool) : Shw (.list [.bool a, .bool b]) := by
  refine shw_lst ?_ (by show 2 ≤ 10; decide)
  cases a <;> cases b <;> decide +kernel
theorem all_filter {α : Type} (p : α → Bool) (l : List α) : (l.filter fun e => !p e).isEmpty = l.all p := by
  induction l with
  | nil => rfl
  | cons x r ih =>
    rw [List.filter_cons, List.all_cons]
    cases p x with
    | true => simpa using ih
    | false => simp
/-! ### promises -/
def spWholeD (K : PySem.W.Frag) : Sp := fun vs H Q _ => ∃ (v : V) (d : PyData), vs = [v] ∧ An K H v d ∧ Q (.bl (wholeD d)) H
def spRowD (K : PySem.W.Frag) : Sp := fun vs H Q _ => ∃ (v : V) (d : PyData), vs = [v, .int 1, .int 4] ∧ An K H v d ∧ Fl d ∧ ∀ H', Same H H' → Q (.bl (worthD d)) H'
def spKeyD (K : PySem.W.Frag) : Sp := fun vs H Q _ => ∃ (v : V) (d : PyData), vs = [v] ∧ An K H v d ∧ Fl d ∧ ∀ H', Same H H' → Q (.bl (keyD d)) H'
def spWorthD (K : PySem.W.Frag) : Sp := fun vs H Q _ => ∃ (v : V) (d : PyData), vs = [v] ∧ An K H v d ∧ Fl d ∧ ∀ H', Same H H' → Q (.bl (worthD d)) H'
def spGood (K : PySem.W.Frag) : Sp := fun vs H Q _ => ∃ (v : V), vs = [v] ∧ Good K H v ∧ ∀ H', Same H H' → Q (.bl true) H'
def spWorth : Sp := fun vs H Q _ => ∃ (s : Addr), vs = [.ref s] ∧ StAt H s ∧ ∀ (p : Addr) (ns : List Int) (H' : Hp), 1 ≤ ns.length → ns.length ≤ 4 → (∀ n ∈ ns, -1000000000000000000000000000000 ≤ n ∧ n ≤ 1000000000000000000000000000000) → H p = none → Kp s H H' → H' p = some (.tup (ns.map V.int)) → Q (.ref p) H'
theorem ints_lf : ∀ {ns : List Int}, (∀ n ∈ ns, -1000000000000000000000000000000 ≤ n ∧ n ≤ 1000000000000000000000000000000) → (ns.map PyData.int).all lf = true
  | [], _ => rfl
  | n :: r, h => by
    have z := h n (List.mem_cons_self ..)
    rw [List.map_cons, List.all_cons, int_leaf2 z.1 z.2, ints_lf fun m hm => h m (List.mem_cons_of_mem _ hm)]
    rfl

theorem take_all {ds : List PyData} {i : Nat} {e : PyData} {f : PyData → Bool} (h : (ds.take i).all f = true) (he : ds[i]? = some e) (hf : f e = true) : (ds.take (i + 1)).all f = true := by
  rw [List.take_add_one, he, List.all_append, h]
  simp [hf]
theorem mem_notall {ds : List PyData} {i : Nat} {e : PyData} {f : PyData → Bool} (he : ds[i]? = some e) (hf : f e = false) : ds.all f = false := by
  rw [← Bool.not_eq_true, List.all_eq_true]
  intro h
  have z := h e (List.mem_of_getElem? he)
  rw [hf] at z
  cases z
section
open PySem PySem.Builtin.Str
theorem take_lt {f : Nat → Bool} : ∀ {l : List Nat}, (∃ c ∈ l, f c = false) → (l.takeWhile f).length < l.length
  | [], h => by
    obtain ⟨c, hc, _⟩ := h
    cases hc
  | x :: r, h => by
    rw [List.takeWhile_cons]
    cases hx : f x with
    | false => simp
    | true =>
      obtain ⟨c, hc, e⟩ := h
      have hr : c ∈ r := by
        rcases List.mem_cons.mp hc with rfl | hc
        · rw [hx] at e
          cases e
        · exact hc
      have := take_lt (f := f) (l := r) ⟨c, hr, e⟩
      simp only [if_true, List.length_cons]
      omega
theorem take_whole {f : Nat → Bool} : ∀ {l : List Nat}, (∀ c ∈ l, f c = true) → l.takeWhile f = l
  | [], _ => rfl
  | x :: r, h => by
    rw [List.takeWhile_cons, h x (List.mem_cons_self ..), if_pos rfl, take_whole fun c hc => h c (List.mem_cons_of_mem _ hc)]
theorem take_drop_no {f : Nat → Bool} : ∀ {l : List Nat}, (∃ c ∈ l, f c = false) → ∃ c ∈ l.drop (l.takeWhile f).length, f c = false
  | [], h => by
    obtain ⟨c, hc, _⟩ := h
    cases hc
  | x :: r, h => by
    rw [List.takeWhile_cons]
    cases hx : f x with
    | false => exact ⟨x, List.mem_cons_self .., hx⟩
    | true =>
      obtain ⟨c, hc, e⟩ := h
      have hr : c ∈ r := by
        rcases List.mem_cons.mp hc with rfl | hc
        · rw [hx] at e
          cases e
        · exact hc
      obtain ⟨c2, h2, e2⟩ := take_drop_no (f := f) (l := r) ⟨c, hr, e⟩
      exact ⟨c2, by simpa using h2, e2⟩
/-- a text whose signs are all struck off at the ends -/
theorem strip_empty (z b : Str) : (Txt.stripChars z b = (⟨#[]⟩ : Str)) ↔ ∀ c ∈ z.cps.toList, b.cps.contains c = true := by
  have hz : z.length = z.cps.toList.length := (Array.length_toList (xs := z.cps)).symm
  constructor
  · intro h
    by_cases ha : ∀ c ∈ z.cps.toList, b.cps.contains c = true
    · exact ha
    · exfalso
      have hn : ∃ c ∈ z.cps.toList, b.cps.contains c = false := by
        apply Classical.byContradiction
        intro hno
        apply ha
        intro c hc
        cases e : b.cps.contains c with
        | true => rfl
        | false => exact absurd ⟨c, hc, e⟩ hno
      have l1 := take_lt hn
      have l2 := take_lt (f := b.cps.contains) (l := (z.cps.toList.drop (z.cps.toList.takeWhile b.cps.contains).length).reverse) (by
        obtain ⟨c, hc, e⟩ := take_drop_no hn
        exact ⟨c, List.mem_reverse.mpr hc, e⟩)
      rw [List.length_reverse, List.length_drop] at l2
      unfold Txt.stripChars Txt.stripBy at h
      split at h
      · have : z.cps.toList.length = 0 := by rw [h]; rfl
        omega
      · have h3 := congrArg (fun s : Str => s.cps.size) h
        simp only [stripped, strSub, Array.size_extract, stripLo, stripHi, if_true] at h3
        have hs : z.cps.size = z.cps.toList.length := (Array.length_toList (xs := z.cps)).symm
        have he : (#[] : Array Nat).size = 0 := rfl
        rw [he] at h3
        omega
  · intro ha
    have e1 := take_whole ha
    have lo : stripLo b.cps.contains true z = z.cps.toList.length := by
      unfold stripLo
      rw [if_pos rfl, e1]
    have hi : stripHi b.cps.contains true z (z.cps.toList.length) = z.cps.toList.length := by
      unfold stripHi
      rw [if_pos rfl, List.drop_length]
      exact hz
    unfold Txt.stripChars Txt.stripBy
    split
    next h =>
      unfold stripSame at h
      rw [lo, hi] at h
      simp only [Bool.and_eq_true, beq_iff_eq] at h
      have hl : z.cps.toList = [] := List.length_eq_zero_iff.mp h.1
      cases z with
      | mk cps =>
        have : cps = #[] := Array.toList_inj.mp hl
        rw [this]
    next h =>
      unfold stripped
      rw [lo, hi]
      unfold strSub
      have : z.cps.extract z.cps.toList.length z.cps.toList.length = #[] := by
        apply Array.toList_inj.mp
        simp
      rw [this]
end

theorem strip_key (z : Str) : decide (V.str (Txt.stripChars z (Str.ofString "abcdefghijklmnopqrstuvwxyz")) = V.str (Str.ofString "")) = z.cps.toList.all ltr := by
  have e0 : Str.ofString "" = (⟨#[]⟩ : Str) := by decide +kernel
  have hc : ∀ c, (Str.ofString "abcdefghijklmnopqrstuvwxyz").cps.contains c = ltr c := fun c => by
    rw [← letters_in c, Bool.eq_iff_iff]
    simp
  rw [e0, Bool.eq_iff_iff, decide_eq_true_eq, V.str.injEq, strip_empty, List.all_eq_true]
  constructor
  · intro h c m
    rw [← hc c]
    exact h c m
  · intro h c m
    rw [hc c]
    exact h c m

theorem lsz {n : Nat} {z : Str} (h : Sh n z) (hn : n ≤ 30 := by decide) : z.length ≤ sizeLine := Nat.le_trans h.len (Nat.le_trans hn (by decide))
theorem lsz2 {n m : Nat} {x y : Str} (h : Sh n x) (h2 : Sh m y) (hn : n + m ≤ 30 := by decide) : x.length + y.length ≤ sizeLine := Nat.le_trans (Nat.add_le_add h.len h2.len) (Nat.le_trans hn (by decide))
theorem cut_last (ns : List Int) : cutV (ns.map V.int) none (some (-1)) = (ns.take (ns.length - 1)).map V.int := by
  unfold cutV
  rw [List.map_take, List.length_map]
  have e1 : HT.sIx ns.length 0 none = 0 := rfl
  rw [e1, List.drop_zero, Nat.sub_zero]
  congr 1
  show HT.sIx ns.length ns.length (some (-1)) = _
  unfold HT.sIx
  simp
  omega
abbrev sg9 : List Str := ["", "A", "0", " ", "_", "-", "\n", "\t", "z"]
theorem signs9 : ∀ z ∈ sg9, Sh 1 z := by
  intro z hz
  simp only [List.mem_cons, List.not_mem_nil, or_false] at hz
  rcases hz with rfl | rfl | rfl | rfl | rfl | rfl | rfl | rfl | rfl <;> exact ⟨by decide, by decide⟩

theorem ok_is_row_of_whole {P : Program} {w : World} {K : PySem.W.Frag} {mg : Str → Option Value} {base : Heap} {a : Nat → Addr} {d : Nat → FuncData} (T : Txt K mg a d) : FnOk P w K mg base CX0 2 (a 0) (d 0) ["thing", "least", "most"] (spRowD K) := by
  refine T.F_is_row_of_whole.ok sc_is_row_of_whole (fun vs H Q E h => ?_) (fun cdv A outer s0 H vs Q E hr h => ?_)
  · obtain ⟨v, d', rfl, ha, hfl, q⟩ := h
    rfl
  · obtain ⟨v, d', rfl, ha, hfl, q⟩ := h
    refine ⟨_, (pss_cons (ps_if (PW.pt (pw_or (pt_not (pt_truth (pe_callB call_isi (by rfl) T.z_isinstance (by decide +kernel) (pa_cons (pv 0) (pa_cons (pe_bltn (v := .ty "tuple") (by rfl) T.z_tuple (by decide +kernel) rfl) pa_nil))) (by intro _; rfl))) (pw_or1 (pt_not (pt_chain op_le op_le (pv 1) (pe_callB call_len_seq (by rfl) T.z_len PySem.boot_len (pa_cons (pv 0) pa_nil)) (pv 2)))))) (pss_one (ps_ret pe_bl)) pss_nil) (pss_cons (ps_for PassesOwn.never rfl (pi_tup (pv 0)) (pg_name (i := 3) sc_is_row_of_whole.nd rfl (.inl rfl)) (pss_one (ps_if (PW.pt (pw_or (pt_not (pt_truth (pe_callB call_isi (by rfl) T.z_isinstance (by decide +kernel) (pa_cons (pv 3) (pa_cons (pe_bltn (v := .ty "int") (by rfl) T.z_int (by decide +kernel) rfl) pa_nil))) (by intro _; rfl))) (pw_or1 (pt_truth (pe_callB call_isi (by rfl) T.z_isinstance (by decide +kernel) (pa_cons (pv 3) (pa_cons (pe_bltn (v := .ty "bool") (by rfl) T.z_bool (by decide +kernel) rfl) pa_nil))) (by intro _; rfl))))) (pss_one (ps_ret pe_bl)) pss_nil))) (pss_one (ps_ret pe_bl)))), ?_⟩
    obtain ⟨t, _, _, c, ty, _, _, et, _, ec⟩ := ha.is
    refine ⟨_, rfl, v, .ty "tuple", t, .type "tuple", c, rfl, .ty "tuple", ty, et, c, rfl, ?_⟩
    cases c with
    | false => exact iteT (bq (Q := Q) (worth_no ec.symm) (q H (Same.refl H)))
    | true =>
      refine iteF ?_
      obtain ⟨ds, rfl⟩ := istup ec.symm
      obtain ⟨p, xs, rfl, hS, hall⟩ := ha.tup
      have hlen := dpall_len hall
      refine ⟨_, rfl, _, rfl, p, _, rfl, .inr hS, 1, _, rfl, rfl, _, rfl, ?_⟩
      by_cases h1 : (1 : Int) ≤ (xs.length : Int)
      · refine iteDT h1 ⟨_, rfl, _, 4, rfl, rfl, _, rfl, ?_⟩
        by_cases h2 : (xs.length : Int) ≤ (4 : Int)
        · refine iteNS h2 ?_
          refine ⟨_, rfl, p, rfl, ⟨_, hS⟩, ?_⟩
          refine for_tup (K := K) (a := p) (xs := xs) (fun i σ H' => H' = H ∧ (ds.take i).all wholeD = true ∧ ∃ z : Option V, σ = [some (.ref p), some (.int 1), some (.int 4), z]) ⟨rfl, rfl, none, rfl⟩ (fun i σ H' _ z => by rw [z.1]; exact hS) ?_ ?_
          · rintro i x σ H' hx ⟨rfl, hT, z, rfl⟩
            obtain ⟨e, he, hd⟩ := dpall_get hall hx
            obtain ⟨t', i', b, _, ty', ei, eb, _, ew, _⟩ := (An.dp hd).is
            refine ⟨_, rfl, x, .ty "int", t', .type "int", i', rfl, .ty "int", ty', ei, i', rfl, ?_⟩
            have no : wholeD e = false → worthD (.tuple ds) = false := fun z => by
              simp only [worthD, mem_notall he z, Bool.and_false]
            cases i' with
            | false => exact iteT (bq (Q := Q) (no ew.symm) (q _ (Same.refl _)))
            | true =>
              refine iteF ⟨_, rfl, x, .ty "bool", t', .type "bool", b, rfl, .ty "bool", ty', eb, b, rfl, ?_⟩
              cases b with
              | true => exact iteT (bq (Q := Q) (no ew.symm) (q _ (Same.refl _)))
              | false => exact iteF ⟨rfl, take_all hT he ew.symm, _, rfl⟩
          · rintro σ H' ⟨rfl, hT, z, rfl⟩
            refine bq (Q := Q) ?_ (q _ (Same.refl _))
            rw [hlen, List.take_length] at hT
            have g1 : 1 ≤ ds.length := by omega
            have g2 : ds.length ≤ 4 := by omega
            simp only [worthD, g1, g2, hT, decide_true, Bool.and_self]
        · refine iteND h2 ?_
          refine bq (Q := Q) ?_ (q H (Same.refl H))
          have g2 : ¬ ds.length ≤ 4 := by omega
          simp [worthD, g2]
      · refine iteDF h1 ⟨false, rfl, iteT ?_⟩
        refine bq (Q := Q) ?_ (q H (Same.refl H))
        have g2 : ¬ 1 ≤ ds.length := by omega
        simp only [worthD, g2, decide_false, Bool.false_and]

theorem ok_is_key {P : Program} {w : World} {K : PySem.W.Frag} {mg : Str → Option Value} {base : Heap} {a : Nat → Addr} {d : Nat → FuncData} (T : Txt K mg a d) : FnOk P w K mg base CX0 2 (a 1) (d 1) ["thing"] (spKeyD K) := by
  refine T.F_is_key.ok sc_is_key (fun vs H Q E h => ?_) (fun cdv A outer s0 H vs Q E hr h => ?_)
  · obtain ⟨v, d', rfl, ha, hfl, q⟩ := h
    rfl
  · obtain ⟨v, d', rfl, ha, hfl, q⟩ := h
    refine ⟨_, (pss_cons (ps_if (PW.pt (pw_or (pt_not (pt_truth (pe_callB call_isi (by rfl) T.z_isinstance (by decide +kernel) (pa_cons (pv 0) (pa_cons (pe_bltn (v := .ty "str") (by rfl) T.z_str (by decide +kernel) rfl) pa_nil))) (by intro _; rfl))) (pw_or1 (pt_not (pt_chain op_le op_le pe_int (pe_callB call_len_str (by rfl) T.z_len PySem.boot_len (pa_cons (pv 0) pa_nil)) (pe_glob (v := .int 6) (by rfl) (Exists.choose_spec T.g_MOST_LETTERS) ⟨_, rfl⟩)))))) (pss_one (ps_ret pe_bl)) pss_nil) (pss_one (ps_ret (pe_cmpR op_eq (pe_bm PySem.F.plainAttrs_str PySem.F.slot_str_strip PySem.F.type_str_strip mt_stripChars (pv 0) (pa_cons (pe_glob (v := .str "abcdefghijklmnopqrstuvwxyz") (by rfl) (Exists.choose_spec T.g_LETTERS) ⟨_, rfl⟩) pa_nil)) pe_str (nomark _))))), ?_⟩
    obtain ⟨t, b, ty, et, ec⟩ := ha.isS
    refine ⟨_, rfl, v, .ty "str", t, .type "str", b, rfl, .ty "str", ty, et, b, rfl, ?_⟩
    cases b with
    | false => exact iteT (bq (Q := Q) (key_no ec.symm) (q H (Same.refl H)))
    | true =>
      refine iteF ?_
      obtain ⟨z, rfl⟩ := isstr ec.symm
      have hz := hfl.st z rfl
      have ev := ha.str
      subst ev
      have lz : z.length = z.cps.toList.length := (Array.length_toList (xs := z.cps)).symm
      refine ⟨_, rfl, z, rfl, Nat.le_trans hz.len (by decide), 1, _, rfl, rfl, _, rfl, ?_⟩
      by_cases h1 : (1 : Int) ≤ (z.length : Int)
      · refine iteDT h1 ⟨_, 6, rfl, rfl, _, rfl, ?_⟩
        by_cases h2 : (z.length : Int) ≤ (6 : Int)
        · refine iteNS h2 ?_
          have g1 : 1 ≤ z.cps.toList.length := by omega
          have g2 : z.cps.toList.length ≤ 6 := by omega
          refine ⟨_, rfl, rfl, z, _, rfl, rfl, Nat.le_trans hz.len (by decide), rfl, ?_⟩
          refine bq (Q := Q) ?_ (q H (Same.refl H))
          rw [strip_key]
          simp only [keyD, g1, g2, decide_true, Bool.true_and]
        · refine iteND h2 ?_
          refine bq (Q := Q) ?_ (q H (Same.refl H))
          have g2 : ¬ z.cps.toList.length ≤ 6 := by omega
          simp only [keyD, g2, decide_false, Bool.false_and, Bool.and_false]
      · refine iteDF h1 ⟨false, rfl, iteT ?_⟩
        refine bq (Q := Q) ?_ (q H (Same.refl H))
        have g2 : ¬ 1 ≤ z.cps.toList.length := by omega
        simp only [keyD, g2, decide_false, Bool.false_and]

theorem ok_is_worth {P : Program} {w : World} {K : PySem.W.Frag} {mg : Str → Option Value} {base : Heap} {a : Nat → Addr} {d : Nat → FuncData} (T : Txt K mg a d) : FnOk P w K mg base CX0 3 (a 2) (d 2) ["thing"] (spWorthD K) := by
  refine T.F_is_worth.ok sc_is_worth (fun vs H Q E h => ?_) (fun cdv A outer s0 H vs Q E hr h => ?_)
  · obtain ⟨v, d', rfl, ha, hfl, q⟩ := h
    rfl
  · obtain ⟨v, d', rfl, ha, hfl, q⟩ := h
    refine ⟨_, (pss_one (ps_ret (pe_call (ok_is_row_of_whole T) (hr.mono (by decide)) (by rfl) T.g_is_row_of_whole T.F_is_row_of_whole.kp T.b_is_row_of_whole .nil pass0 (pa_cons (pv 0) (pa_cons pe_int (pa_cons (pe_glob (v := .int 4) (by rfl) (Exists.choose_spec T.g_MOST_FIELDS) ⟨_, rfl⟩) pa_nil)))))), ?_⟩
    exact ⟨_, rfl, v, d', rfl, ha, hfl, q⟩

theorem ok_l_begun {P : Program} {w : World} {K : PySem.W.Frag} {mg : Str → Option Value} {base : Heap} {a : Nat → Addr} {d : Nat → FuncData} (T : Txt K mg a d) : FnOk P w K mg base CX0 1 (a 3) (d 3) ["_law_script", "_law_k"] (spBegun K) := by
  refine T.F_l_begun.ok sc_l_begun (fun vs H Q E h => ?_) (fun cdv A outer s0 H vs Q E hr h => ?_)
  · obtain ⟨l, ns, k, rfl, hS, hl, hk0, hk1, q⟩ := h
    rfl
  · obtain ⟨l, ns, k, rfl, hS, hl, hk0, hk1, q⟩ := h
    have hc := cell_at ns (some k) (some (k + 1))
    obtain ⟨c, hc⟩ := hc
    refine ⟨_, (pss_cons (ps_set (i := 2) sc_l_begun.nd rfl (Or.inl rfl) (pe_ix ix_list (pe_op op_cat (pe_slice sl_list (pv 0) (po_some (pv 1)) (po_some (pe_op op_add (pv 1) pe_int))) (pe_lst (pa_cons pe_int pa_nil))) pe_int (fun _ _ => rfl))) (pss_cons (ps_set (i := 3) sc_l_begun.nd rfl (Or.inl rfl) (pe_callB (call_max2 rfl) (by rfl) T.z_max (by decide +kernel) (pa_cons (pv 2) (pa_cons (pe_op op_sub (pe_un un_neg pe_int) (pv 2)) pa_nil)))) (pss_cons (ps_set (i := 4) sc_l_begun.nd rfl (Or.inl rfl) (pe_op op_mod (pe_op op_add (pe_op op_add (pe_op op_add (pe_op op_mod (pv 3) pe_int) (pe_op op_mul pe_int (pv 1))) (pe_op op_mul (pe_op op_mul pe_int (pv 1)) (pv 1))) pe_int) pe_int)) (pss_one (ps_ret (pe_lst (pa_cons (pv 3) (pa_cons (pv 4) (pa_cons (pe_cmpR op_ge (pv 3) (pe_op op_pow pe_int pe_int) (nomark _)) pa_nil))))))))), ?_⟩
    refine ⟨_, rfl, _, rfl, k, rfl, _, rfl, k, 1, rfl, rfl, k + 1, rfl, l, _, rfl, hS, fun p1 n1 => ?_⟩
    refine ⟨len1, fun p2 n2 => ?_⟩
    have n12 : p1 ≠ p2 := fun e => by rw [e] at n1; rw [← e, upd_same] at n2; cases n2
    refine ⟨p1, p2, _, _, rfl, rfl, (by rw [upd_ne n12]; exact upd_same), upd_same, ?_, fun p3 n3 => ?_⟩
    · have z := cut_len (ns.map V.int) (some k) (some (k + 1))
      rw [List.length_map] at z
      exact Nat.le_trans (Nat.add_le_add_right (Nat.le_trans z hl) 1) (by decide)
    refine ⟨p3, _, 0, _, rfl, rfl, SqL.of upd_same, hc, ?_⟩
    refine ⟨_, rfl, 1, rfl, _, rfl, -1, c, rfl, rfl, c, -1 - c, rfl, ?_⟩
    refine ⟨_, rfl, _, _, rfl, rfl, (by show (0 : Int) < 2147483629; decide), _, rfl, 7919, k, rfl, rfl, .inl (m64 (by decide) (by decide)), _, _, rfl, rfl, ?_⟩
    refine ⟨_, rfl, 104729, k, rfl, rfl, .inl (m64 (by decide) (by decide)), _, rfl, _, k, rfl, rfl, .inr (m64 (by omega) (by omega)), _, _, rfl, rfl, _, 11, rfl, rfl, _, _, rfl, rfl, (by show (0 : Int) < 2147483629; decide), ?_⟩
    refine ⟨_, rfl, _, rfl, _, rfl, 10, 18, rfl, rfl, ⟨by decide, by decide, by decide⟩, _, _, rfl, rfl, len3, fun p4 n4 => ?_⟩
    refine q p4 _ (Same.free (same_new (same_new (same_new (Same.refl H) n1) n2) n3) n4) (same_new (same_new (same_new (same_new (Same.refl H) n1) n2) n3) n4) ⟨_, _, _, upd_same, ?_, ?_⟩
    · exact Int.emod_nonneg _ (by decide)
    · exact Int.lt_trans (Int.emod_lt_of_pos _ (by decide)) (by decide)

theorem ok_l_take {P : Program} {w : World} {K : PySem.W.Frag} {mg : Str → Option Value} {base : Heap} {a : Nat → Addr} {d : Nat → FuncData} (T : Txt K mg a d) : FnOk P w K mg base CX0 1 (a 4) (d 4) ["_law_state", "_law_many"] spTake := by
  refine T.F_l_take.ok sc_l_take (fun vs H Q E h => ?_) (fun cdv A outer s0 H vs Q E hr h => ?_)
  · obtain ⟨s, m, rfl, ⟨x, y, c, hs, y0, y1⟩, m0, m1, q⟩ := h
    rfl
  · obtain ⟨s, m, rfl, ⟨x, y, c, hs, y0, y1⟩, m0, m1, q⟩ := h
    refine ⟨_, (pss_cons (ps_if (pt_truth (pe_ix ix_list (pv 0) pe_int (fun _ _ => rfl)) (by intro _; rfl)) (pss_cons (ps_set (i := 2) sc_l_take.nd rfl (Or.inl rfl) (pe_op op_mod (pe_ix ix_list (pv 0) pe_int (fun _ _ => rfl)) (pv 1))) (pss_cons (ps_asg (pe_op op_fdivW (pe_ix ix_list (pv 0) pe_int (fun _ _ => rfl)) (pv 1)) (pg_sub (pv 0) pe_int set_list)) (pss_cons (ps_asg (pe_cmpR op_gt (pe_ix ix_list (pv 0) pe_int (fun _ _ => rfl)) pe_int (nomark _)) (pg_sub (pv 0) pe_int set_list)) (pss_one (ps_ret (pv 2)))))) pss_nil) (pss_cons (ps_set (i := 3) sc_l_take.nd rfl (Or.inl rfl) pe_int) (pss_cons (ps_for PassesOwn.never rfl (pi_range1 (by rfl) T.z_range (pa_cons (pe_op op_add pe_int (pe_callTy call_int1 (by rfl) T.z_int (by decide +kernel) (pa_cons (pe_cmpR op_gt (pv 1) (pe_op op_pow pe_int pe_int) (nomark _)) pa_nil))) pa_nil)) (pg_name (i := 4) sc_l_take.nd rfl (.inl rfl)) (pss_cons (ps_asg (pe_op op_mod (pe_op op_add (pe_op op_mul (pe_ix ix_list (pv 0) pe_int (fun _ _ => rfl)) pe_int) pe_int) pe_int) (pg_sub (pv 0) pe_int set_list)) (pss_one (ps_set (i := 3) sc_l_take.nd rfl (Or.inl rfl) (pe_op op_add (pe_op op_mul (pv 3) pe_int) (pe_op op_mod (pe_op op_mul (pe_ix ix_list (pv 0) pe_int (fun _ _ => rfl)) (pe_ix ix_list (pv 0) pe_int (fun _ _ => rfl))) pe_int)))))) (pss_one (ps_ret (pe_op op_mod (pe_op op_fdiv (pv 3) pe_int) (pv 1))))))), ?_⟩
    refine ⟨_, rfl, s, _, 2, _, rfl, rfl, SqL.of hs, rfl, c, rfl, ?_⟩
    cases c with
    | true =>
      refine iteT ?_
      refine ⟨_, rfl, s, _, 0, _, rfl, rfl, SqL.of hs, rfl, _, rfl, x, m, rfl, rfl, m0, ?_⟩
      refine ⟨_, rfl, s, _, 0, _, rfl, rfl, SqL.of hs, rfl, _, rfl, x, m, rfl, rfl, divW m0 (p2000 m1), _, rfl, s, _, 0, 0, rfl, rfl, hs, rfl, ?_⟩
      refine ⟨_, rfl, s, _, 0, _, rfl, rfl, SqL.of upd_same, rfl, _, 0, rfl, rfl, _, rfl, s, _, 2, 2, rfl, rfl, upd_same, rfl, ?_⟩
      refine ⟨_, rfl, ?_⟩
      refine q _ _ (Int.emod_nonneg _ (by omega)) (Int.emod_lt_of_pos _ m0) ⟨fun b o n e => ?_, ⟨_, _, _, upd_same, y0, y1⟩⟩
      rw [upd_ne n, upd_ne n]
      exact e
    | false =>
      refine iteF ?_
      refine ⟨_, rfl, 10, 6, rfl, rfl, ⟨by decide, by decide, by decide⟩, m, _, rfl, rfl, .inr ⟨_, rfl, 1, _, rfl, rfl, _, rfl, ?_, ?_, ?_⟩⟩
      · cases decide ((10 : Int) ^ (6 : Int).toNat < m) <;> decide
      · cases decide ((10 : Int) ^ (6 : Int).toNat < m) <;> decide
      refine for_range (fun i σ H' => ∃ (made : Int) (t : Option V), σ = [some (.ref s), some (.int m), none, some (.int made), t] ∧ Kp s H H') ⟨0, none, rfl, ⟨fun _ _ _ e => e, _, _, _, hs, y0, y1⟩⟩ ?_ ?_
      · rintro i σ H' hi ⟨made, t, rfl, k, ⟨x', y', c', hs', y0', y1'⟩⟩
        refine ⟨_, rfl, s, _, 1, _, rfl, rfl, SqL.of hs', rfl, y', 48271, rfl, rfl, .inr (m64 (by decide) (by decide)), _, 11, rfl, rfl, _, 2147483647, rfl, rfl, (by show (0 : Int) < 2147483647; decide), _, rfl, s, _, 1, 1, rfl, rfl, hs', rfl, ?_⟩
        have e0 : 0 ≤ (y' * 48271 + 11) % 2147483647 := Int.emod_nonneg _ (by decide)
        have e1 : (y' * 48271 + 11) % 2147483647 < 2147483647 := Int.emod_lt_of_pos _ (by decide)
        refine ⟨_, rfl, made, 2147483587, rfl, rfl, .inr (m64 (by decide) (by decide)), _, rfl, s, _, 1, _, rfl, rfl, SqL.of upd_same, rfl, _, rfl, s, _, 1, _, rfl, rfl, SqL.of upd_same, rfl, _, _, rfl, rfl, .inl (m64 (by omega) (by omega)), _, 2147483587, rfl, rfl, (by show (0 : Int) < 2147483587; decide), _, _, rfl, rfl, ?_⟩
        refine ⟨_, _, rfl, ⟨fun b o n e => ?_, _, _, _, upd_same, e0, e1⟩⟩
        rw [upd_ne n]
        exact k b o n e
      · rintro σ H' ⟨made, t, rfl, k⟩
        refine ⟨_, rfl, made, 64, rfl, rfl, ⟨by decide, by decide⟩, _, rfl, _, m, rfl, rfl, m0, ?_⟩
        exact q _ _ (Int.emod_nonneg _ (by omega)) (Int.emod_lt_of_pos _ m0) k

theorem ok_l_worth {P : Program} {w : World} {K : PySem.W.Frag} {mg : Str → Option Value} {base : Heap} {a : Nat → Addr} {d : Nat → FuncData} (T : Txt K mg a d) : FnOk P w K mg base CX0 2 (a 5) (d 5) ["_law_state"] spWorth := by
  refine T.F_l_worth.ok sc_l_worth (fun vs H Q E h => ?_) (fun cdv A outer s0 H vs Q E hr h => ?_)
  · obtain ⟨s, rfl, hst, q⟩ := h
    rfl
  · obtain ⟨s, rfl, hst, q⟩ := h
    refine ⟨_, (pss_cons (ps_set (i := 1) sc_l_worth.nd rfl (Or.inl rfl) (pe_lst (pa_cons pe_int (pa_cons (pe_op op_pow pe_int pe_int) (pa_cons (pe_op op_pow pe_int pe_int) pa_nil))))) (pss_cons (ps_set (i := 2) sc_l_worth.nd rfl (Or.inl rfl) (pe_lst pa_nil)) (pss_cons (ps_for PassesOwn.never rfl (pi_range1 (by rfl) T.z_range (pa_cons (pe_op op_add pe_int (pe_call (ok_l_take T) (hr.mono (by decide)) (by rfl) T.g_l_take T.F_l_take.kp T.b_l_take .nil pass0 (pa_cons (pv 0) (pa_cons pe_int pa_nil)))) pa_nil)) (pg_name (i := 3) sc_l_worth.nd rfl (.inl rfl)) (pss_one (ps_expr (pe_bm PySem.F.plainAttrs_list PySem.F.slot_list_append PySem.F.type_list_append mt_append (pv 2) (pa_cons (pe_op op_sub (pe_call (ok_l_take T) (hr.mono (by decide)) (by rfl) T.g_l_take T.F_l_take.kp T.b_l_take .nil pass0 (pa_cons (pv 0) (pa_cons (pe_ix ix_list (pv 1) (pe_call (ok_l_take T) (hr.mono (by decide)) (by rfl) T.g_l_take T.F_l_take.kp T.b_l_take .nil pass0 (pa_cons (pv 0) (pa_cons pe_int pa_nil))) (fun _ _ => rfl)) pa_nil))) (pe_call (ok_l_take T) (hr.mono (by decide)) (by rfl) T.g_l_take T.F_l_take.kp T.b_l_take .nil pass0 (pa_cons (pv 0) (pa_cons pe_int pa_nil)))) pa_nil))))) (pss_one (ps_ret (pe_callTy call_tuple_of (by rfl) T.z_tuple (by decide +kernel) (pa_cons (pv 2) pa_nil))))))), ?_⟩
    refine ⟨10, 6, rfl, rfl, ⟨by decide, by decide, by decide⟩, 10, 29, rfl, rfl, ⟨by decide, by decide, by decide⟩, len3, fun pz npz => ?_⟩
    have k1 : Kp s H (upd H pz (.lst [.int 3, .int (10 ^ (6 : Int).toNat), .int (10 ^ (29 : Int).toNat)])) := hst.kp.new npz
    have hz1 : (upd H pz (.lst [.int 3, .int (10 ^ (6 : Int).toNat), .int (10 ^ (29 : Int).toNat)])) pz = some (.lst [.int 3, .int (10 ^ (6 : Int).toNat), .int (10 ^ (29 : Int).toNat)]) := upd_same
    generalize (upd H pz (.lst [.int 3, .int (10 ^ (6 : Int).toNat), .int (10 ^ (29 : Int).toNat)])) = J1 at k1 hz1 ⊢
    refine ⟨Nat.zero_le _, fun pf npf => ?_⟩
    have k2 : Kp s H (upd J1 pf (.lst [])) := k1.new npf
    have hz2 : (upd J1 pf (.lst [])) pz = some (.lst [.int 3, .int (10 ^ (6 : Int).toNat), .int (10 ^ (29 : Int).toNat)]) := by rw [upd_ne (ne_of_none hz1 npf)]; exact hz1
    have hf2 : (upd J1 pf (.lst [])) pf = some (.lst []) := upd_same
    have fpf : H pf = none := k1.free hst npf
    have pfs : pf ≠ s := k1.2.ne_new npf
    have pzs : pz ≠ s := hst.ne_new npz
    have pzf : pz ≠ pf := ne_of_none hz1 npf
    generalize (upd J1 pf (.lst [])) = J2 at k2 hz2 hf2 ⊢
    refine ⟨_, rfl, s, 4, rfl, k2.2, (by decide), (by decide), fun r H3 r0 r1 K3 => ⟨1, r, rfl, rfl, _, rfl, by omega, by omega, ?_⟩⟩
    have k3 := k2.trans K3
    have hz3 := K3.1 _ _ pzs hz2
    have hf3 := K3.1 _ _ pfs hf2
    refine for_range (fun i σ H' => ∃ (ns : List Int) (t : Option V), σ = [some (.ref s), some (.ref pz), some (.ref pf), t] ∧ Kp s H H' ∧ H' pz = some (.lst [.int 3, .int (10 ^ (6 : Int).toNat), .int (10 ^ (29 : Int).toNat)]) ∧ H' pf = some (.lst (ns.map V.int)) ∧ ns.length = i ∧ ∀ n ∈ ns, -1000000000000000000000000000000 ≤ n ∧ n ≤ 1000000000000000000000000000000) ⟨[], none, rfl, k3, hz3, hf3, rfl, fun n h => by cases h⟩ ?_ ?_
    · rintro i σ H4 hi ⟨ns, t, rfl, k4, hz4, hf4, hl, hb⟩
      refine ⟨_, rfl, .inl ⟨rfl, _, SqL.of hf4⟩, ?_⟩
      refine ⟨_, rfl, _, rfl, _, rfl, s, 3, rfl, k4.2, (by decide), (by decide), fun a H5 a0 a1 K5 => ?_⟩
      have e6 : (10 : Int) ^ (6 : Int).toNat = 1000000 := by decide
      have e29 : (10 : Int) ^ (29 : Int).toNat = 100000000000000000000000000000 := by decide
      obtain ⟨z, hz, z0, z1⟩ : ∃ z : Int, atI [V.int 3, V.int (10 ^ (6 : Int).toNat), V.int (10 ^ (29 : Int).toNat)] a = some (V.int z) ∧ 0 < z ∧ z ≤ 100000000000000000000000000000 := by
        have : a = 0 ∨ a = 1 ∨ a = 2 := by omega
        rcases this with rfl | rfl | rfl
        · exact ⟨3, rfl, by decide, by decide⟩
        · exact ⟨_, rfl, by decide, by decide⟩
        · exact ⟨_, rfl, by decide, by decide⟩
      refine ⟨pz, _, a, _, rfl, rfl, SqL.of (K5.1 _ _ pzs hz4), hz, s, z, rfl, K5.2, z0, by omega, fun b H6 b0 b1 K6 => ?_⟩
      refine ⟨_, rfl, s, 2, rfl, K6.2, (by decide), (by decide), fun c H7 c0 c1 K7 => ⟨b, c, rfl, rfl, ?_⟩⟩
      have k57 := (K5.trans K6).trans K7
      have hf7 := k57.1 _ _ pfs hf4
      refine ⟨pf, _, _, rfl, rfl, hf7, ?_, ?_⟩
      · rw [List.length_map, hl]
        exact Nat.lt_of_lt_of_le (show i < 200 by omega) (by decide)
      · have k7 := k4.trans k57
        refine ⟨ns ++ [b - c], _, rfl, ⟨fun u o n e => ?_, ?_⟩, ?_, ?_, ?_, ?_⟩
        · rw [upd_ne (ne_of_none e fpf)]
          exact k7.1 u o n e
        · obtain ⟨x1, x2, x3, x4, x5⟩ := k7.2
          exact ⟨x1, x2, x3, by rw [upd_ne (fun z => pfs z.symm)]; exact x4, x5⟩
        · rw [upd_ne pzf]
          exact k57.1 _ _ pzs hz4
        · rw [upd_same, List.map_append]
          rfl
        · rw [List.length_append, hl]
          rfl
        · intro n hn
          rcases List.mem_append.mp hn with h | h
          · exact hb n h
          · rw [List.mem_singleton.mp h]
            omega
    · rintro σ H4 ⟨ns, t, rfl, k4, hz4, hf4, hl, hb⟩
      refine ⟨_, rfl, pf, _, rfl, .inl ⟨SqL.of hf4, fun pt npt => ?_⟩⟩
      refine q pt ns _ (by omega) (by omega) hb (k4.free hst npt) (k4.new npt) upd_same

theorem ok_l_is_key {P : Program} {w : World} {K : PySem.W.Frag} {mg : Str → Option Value} {base : Heap} {a : Nat → Addr} {d : Nat → FuncData} (T : Txt K mg a d) : FnOk P w K mg base CX0 1 (a 6) (d 6) ["_law_item"] (spKeyD K) := by
  refine T.F_l_is_key.ok sc_l_is_key (fun vs H Q E h => ?_) (fun cdv A outer s0 H vs Q E hr h => ?_)
  · obtain ⟨v, d', rfl, ha, hfl, q⟩ := h
    rfl
  · obtain ⟨v, d', rfl, ha, hfl, q⟩ := h
    refine ⟨_, (pss_cons (ps_if (PW.pt (pw_or (pt_not (pt_truth (pe_callB call_isi (by rfl) T.z_isinstance (by decide +kernel) (pa_cons (pv 0) (pa_cons (pe_bltn (v := .ty "str") (by rfl) T.z_str (by decide +kernel) rfl) pa_nil))) (by intro _; rfl))) (pw_or1 (pt_not (pt_chain op_le op_le pe_int (pe_callB call_len_str (by rfl) T.z_len PySem.boot_len (pa_cons (pv 0) pa_nil)) pe_int))))) (pss_one (ps_ret pe_bl)) pss_nil) (pss_one (ps_ret (pe_cmpR (op_eqD hr.units) (pe_lc (own := [("_law_sign", 1)]) (g := gName 1) (by rfl) sc_l_is_key.nd (pi_str (pv 0)) (blkOk_by (own := [("_law_sign", 1)]) (N := ["_law_item", "_law_sign"]) (sc := defScope s_l_is_key) (by decide +kernel)) (fun _ _ _ _ _ => (pg_name (i := 1) sc_l_is_key.nd rfl (.inl rfl))) (fun _ _ _ _ _ => (pts_one (pt_not (pt_chain op_le_str op_le_str pe_str (pv 1) pe_str)))) (fun _ _ _ _ _ => (pv 1))) (pe_lst pa_nil) (nomark _))))), ?_⟩
    obtain ⟨t, b, ty, et, ec⟩ := ha.isS
    refine ⟨_, rfl, v, .ty "str", t, .type "str", b, rfl, .ty "str", ty, et, b, rfl, ?_⟩
    cases b with
    | false => exact iteT (bq (Q := Q) (key_no ec.symm) (q H (Same.refl H)))
    | true =>
      refine iteF ?_
      obtain ⟨z, rfl⟩ := isstr ec.symm
      have hz := hfl.st z rfl
      have ev := ha.str
      subst ev
      have lz : z.length = z.cps.toList.length := (Array.length_toList (xs := z.cps)).symm
      refine ⟨_, rfl, z, rfl, Nat.le_trans hz.len (by decide), 1, _, rfl, rfl, _, rfl, ?_⟩
      by_cases h1 : (1 : Int) ≤ (z.length : Int)
      · refine iteDT h1 ⟨_, 6, rfl, rfl, _, rfl, ?_⟩
        by_cases h2 : (z.length : Int) ≤ (6 : Int)
        · refine iteNS h2 ?_
          have g1 : 1 ≤ z.cps.toList.length := by omega
          have g2 : z.cps.toList.length ≤ 6 := by omega
          refine ⟨_, rfl, z, rfl, fun D nD => ?_⟩
          refine lc_it walk_str (fun i H' => Same H H' ∧ H' D = some (.lst (((z.cps.toList.take i).filter fun c => !ltr c).map fun c => V.str ⟨#[c]⟩))) ⟨same_new (Same.refl H) nD, upd_same⟩ (fun _ _ _ _ => trivial) ?_ ?_
          · rintro i x H1 H' hi ⟨s1, hD⟩ ⟨rfl, c, hc, rfl⟩
            have hc2 : z.cps.toList[i]? = some c := by rw [Array.getElem?_toList]; exact hc
            have kept : ltr c = false → ∃ acc, H' D = some (.lst acc) ∧ acc.length < sizeLine ∧ Same H (upd H' D (.lst (acc ++ [V.str ⟨#[c]⟩]))) ∧ (upd H' D (.lst (acc ++ [V.str ⟨#[c]⟩]))) D = some (.lst (((z.cps.toList.take (i + 1)).filter fun c => !ltr c).map fun c => V.str ⟨#[c]⟩)) := by
              intro hl
              refine ⟨_, hD, ?_, fun u o z => ?_, ?_⟩
              · rw [List.length_map]
                have l2 := List.length_filter_le (fun c => !ltr c) (z.cps.toList.take i)
                rw [List.length_take] at l2
                exact Nat.lt_of_lt_of_le (show _ < 200 by omega) (by decide)
              · rw [upd_ne (ne_of_none z nD)]
                exact s1 u o z
              · rw [upd_same, List.take_add_one, hc2]
                simp [hl]
            have left : ltr c = true → H' D = some (.lst (((z.cps.toList.take (i + 1)).filter fun c => !ltr c).map fun c => V.str ⟨#[c]⟩)) := by
              intro hl
              rw [List.take_add_one, hc2, hD]
              simp [hl]
            refine ⟨rfl, _, rfl, _, _, rfl, rfl, _, rfl, ?_⟩
            by_cases c1 : 97 ≤ c
            · refine iteBT (by rw [a_le]; exact decide_eq_true c1) ⟨_, _, rfl, rfl, _, rfl, ?_⟩
              by_cases c2 : c ≤ 122
              · refine iteBF (by rw [le_z, decide_eq_true c2]; rfl) ⟨s1, left ?_⟩
                simp [ltr, c1, c2]
              · refine iteBT (by rw [le_z, decide_eq_false c2]; rfl) ⟨_, rfl, ?_⟩
                obtain ⟨acc, k1, k2, k3, k4⟩ := kept (by simp [ltr, c2])
                exact ⟨acc, k1, k2, k3, k4⟩
            · refine iteBF (by rw [a_le]; exact decide_eq_false c1) ⟨false, rfl, iteT ⟨_, rfl, ?_⟩⟩
              obtain ⟨acc, k1, k2, k3, k4⟩ := kept (by simp only [ltr, decide_eq_false c1, Bool.false_and])
              exact ⟨acc, k1, k2, k3, k4⟩
          · rintro H' ⟨s1, hD⟩
            rw [List.take_of_length_le (by rw [Array.length_toList]; exact Nat.le_refl _)] at hD
            refine ⟨Nat.zero_le _, fun pe npe => ?_⟩
            have sn : Same H' (upd H' pe (.lst [])) := same_new (Same.refl H') npe
            obtain ⟨y1, y2⟩ := signs_lay hz fun c => !ltr c
            refine ⟨.list ((z.cps.toList.filter fun c => !ltr c).map fun c => PyData.str ⟨#[c]⟩), .list [], .lst (SqL.of (sn _ _ hD)) (dpall_signs _), .lst (SqL.of upd_same) .nil, ?_, rfl, ?_⟩
            · unfold SeqAt.shaped
              simp only [PyData.canLay0, PyData.depth, y1, y2]
              rfl
            · refine bq (Q := Q) ?_ (q _ (s1.trans sn))
              rw [eqv_nil, List.isEmpty_map, all_filter]
              simp only [keyD, g1, g2, decide_true, Bool.true_and]
        · refine iteND h2 ?_
          refine bq (Q := Q) ?_ (q H (Same.refl H))
          have g2 : ¬ z.cps.toList.length ≤ 6 := by omega
          simp only [keyD, g2, decide_false, Bool.false_and, Bool.and_false]
      · refine iteDF h1 ⟨false, rfl, iteT ?_⟩
        refine bq (Q := Q) ?_ (q H (Same.refl H))
        have g2 : ¬ 1 ≤ z.cps.toList.length := by omega
        simp only [keyD, g2, decide_false, Bool.false_and]

theorem ok_l_is_worth {P : Program} {w : World} {K : PySem.W.Frag} {mg : Str → Option Value} {base : Heap} {a : Nat → Addr} {d : Nat → FuncData} (T : Txt K mg a d) : FnOk P w K mg base CX0 1 (a 7) (d 7) ["_law_item"] (spWorthD K) := by
  refine T.F_l_is_worth.ok sc_l_is_worth (fun vs H Q E h => ?_) (fun cdv A outer s0 H vs Q E hr h => ?_)
  · obtain ⟨v, d', rfl, ha, hfl, q⟩ := h
    rfl
  · obtain ⟨v, d', rfl, ha, hfl, q⟩ := h
    refine ⟨_, (pss_cons (ps_if (PW.pt (pw_or (pt_not (pt_truth (pe_callB call_isi (by rfl) T.z_isinstance (by decide +kernel) (pa_cons (pv 0) (pa_cons (pe_bltn (v := .ty "tuple") (by rfl) T.z_tuple (by decide +kernel) rfl) pa_nil))) (by intro _; rfl))) (pw_or1 (pt_not (pt_chain op_le op_le pe_int (pe_callB call_len_seq (by rfl) T.z_len PySem.boot_len (pa_cons (pv 0) pa_nil)) pe_int))))) (pss_one (ps_ret pe_bl)) pss_nil) (pss_one (ps_ret (pe_cmpR (op_eqD hr.units) (pe_lc (own := [("_law_one", 1)]) (g := gName 1) (tt := tOr (tNot (fun σ H Q => tCB (rIsi K) (tCons (tVar 1) (tCons (tC (.ty "int")) tNil)) σ H fun x H' => ∃ k, TruV K x H' k ∧ Q k H')) (fun σ H Q => tCB (rIsi K) (tCons (tVar 1) (tCons (tC (.ty "bool")) tNil)) σ H fun x H' => ∃ k, TruV K x H' k ∧ Q k H')) (by rfl) sc_l_is_worth.nd (pi_tup (pv 0)) (blkOk_by (own := [("_law_one", 1)]) (N := ["_law_item", "_law_one"]) (sc := defScope s_l_is_worth) (by decide +kernel)) (fun _ _ _ _ _ => (pg_name (i := 1) sc_l_is_worth.nd rfl (.inl rfl))) (fun _ _ _ _ _ => (pts_one (PW.pt (pw_or (pt_not (pt_truth (pe_callB call_isi (by rfl) T.z_isinstance (by decide +kernel) (pa_cons (pv 1) (pa_cons (pe_bltn (v := .ty "int") (by rfl) T.z_int (by decide +kernel) rfl) pa_nil))) (by intro _; rfl))) (pw_or1 (pt_truth (pe_callB call_isi (by rfl) T.z_isinstance (by decide +kernel) (pa_cons (pv 1) (pa_cons (pe_bltn (v := .ty "bool") (by rfl) T.z_bool (by decide +kernel) rfl) pa_nil))) (by intro _; rfl))))))) (fun _ _ _ _ _ => (pv 1))) (pe_lst pa_nil) (nomark _))))), ?_⟩
    obtain ⟨t, _, _, c, ty, _, _, et, _, ec⟩ := ha.is
    refine ⟨_, rfl, v, .ty "tuple", t, .type "tuple", c, rfl, .ty "tuple", ty, et, c, rfl, ?_⟩
    cases c with
    | false => exact iteT (bq (Q := Q) (worth_no ec.symm) (q H (Same.refl H)))
    | true =>
      refine iteF ?_
      obtain ⟨ds, rfl⟩ := istup ec.symm
      obtain ⟨p, xs, rfl, hS, hall⟩ := ha.tup
      have hlen := dpall_len hall
      obtain ⟨f1, f2, f3⟩ := hfl.tp ds rfl
      refine ⟨_, rfl, p, _, rfl, .inr hS, 1, _, rfl, rfl, _, rfl, ?_⟩
      by_cases h1 : (1 : Int) ≤ (xs.length : Int)
      · refine iteDT h1 ⟨_, 4, rfl, rfl, _, rfl, ?_⟩
        by_cases h2 : (xs.length : Int) ≤ (4 : Int)
        · refine iteNS h2 ?_
          refine ⟨_, rfl, p, rfl, ⟨_, hS⟩, fun D nD => ?_⟩
          refine lc_tup (K := K) (a := p) (xs := xs) (fun i H' => Same H H' ∧ ∃ zs, H' D = some (.lst zs) ∧ DpAll K H zs ((ds.take i).filter fun e => !wholeD e)) ⟨same_new (Same.refl H) nD, [], (upd_same : upd H D (.lst []) D = some (.lst [])), .nil⟩ (fun i H' _ z => by
            rcases hS with (h | ⟨u, h⟩) | h
            · exact .inl (.inl (z.1 _ _ h))
            · exact .inl (.inr ⟨u, z.1 _ _ h⟩)
            · exact .inr h) ?_ ?_
          · rintro i x H' hx ⟨s1, zs, hD, hz⟩
            obtain ⟨e, he, hd⟩ := dpall_get hall hx
            have hi : i < ds.length := (List.getElem?_eq_some_iff.mp he).1
            obtain ⟨t2, ii, bb, cc, ty2, ei, eb, _, ew, _⟩ := (An.dp (dp_up s1 hd)).is
            have kept : wholeD e = false → ∃ acc, H' D = some (.lst acc) ∧ acc.length < sizeLine ∧ Same H (upd H' D (.lst (acc ++ [x]))) ∧ ∃ zs, (upd H' D (.lst (acc ++ [x]))) D = some (.lst zs) ∧ DpAll K H zs ((ds.take (i + 1)).filter fun e => !wholeD e) := by
              intro hw
              refine ⟨_, hD, ?_, fun u o z => ?_, _, upd_same, ?_⟩
              · have := dpall_len hz
                have l2 := List.length_filter_le (fun e => !wholeD e) (ds.take i)
                rw [List.length_take] at l2
                exact Nat.lt_of_lt_of_le (show zs.length < 100 by omega) (by decide)
              · rw [upd_ne (ne_of_none z nD)]
                exact s1 u o z
              · rw [List.take_add_one, he]
                simp only [Option.toList_some, List.filter_append, List.filter_cons, hw, Bool.not_false, if_true, List.filter_nil]
                exact dpall_app hz (.cons hd .nil)
            have left : wholeD e = true → ∃ zs, H' D = some (.lst zs) ∧ DpAll K H zs ((ds.take (i + 1)).filter fun e => !wholeD e) := by
              intro hw
              refine ⟨zs, hD, ?_⟩
              rw [List.take_add_one, he]
              simp only [Option.toList_some, List.filter_append, List.filter_cons, hw, Bool.not_true, Bool.false_eq_true, if_false, List.filter_nil, List.append_nil]
              exact hz
            refine ⟨rfl, _, rfl, x, .ty "int", t2, .type "int", ii, rfl, .ty "int", ty2, ei, ii, rfl, ?_⟩
            cases ii with
            | false =>
              refine iteT (iteT ⟨_, rfl, ?_⟩)
              obtain ⟨acc, a1, a2, a3, a4⟩ := kept ew.symm
              exact ⟨acc, a1, a2, a3, a4⟩
            | true =>
              refine iteF ⟨_, rfl, x, .ty "bool", t2, .type "bool", bb, rfl, .ty "bool", ty2, eb, bb, rfl, ?_⟩
              cases bb with
              | false => exact iteF ⟨s1, left ew.symm⟩
              | true =>
                refine iteT ⟨_, rfl, ?_⟩
                obtain ⟨acc, a1, a2, a3, a4⟩ := kept ew.symm
                exact ⟨acc, a1, a2, a3, a4⟩
          · rintro H' ⟨s1, zs, hD, hz⟩
            rw [hlen, List.take_length] at hz
            refine ⟨Nat.zero_le _, fun pe npe => ?_⟩
            have sn : Same H' (upd H' pe (.lst [])) := same_new (Same.refl H') npe
            obtain ⟨y1, y2⟩ := lay_filter (fun e => !wholeD e) ds f1
            refine ⟨.list (ds.filter fun e => !wholeD e), .list [], .lst (SqL.of (sn _ _ hD)) (dpall_up (s1.trans sn) hz), .lst (SqL.of upd_same) .nil, ?_, rfl, ?_⟩
            · unfold SeqAt.shaped
              simp only [PyData.canLay0, PyData.depth, y1, Bool.true_and]
              exact decide_eq_true (by omega)
            · refine bq (Q := Q) ?_ (q _ (s1.trans sn))
              rw [eqv_nil, all_filter]
              have g1 : 1 ≤ ds.length := by omega
              have g2 : ds.length ≤ 4 := by omega
              simp only [worthD, g1, g2, decide_true, Bool.true_and]
        · refine iteND h2 ?_
          refine bq (Q := Q) ?_ (q H (Same.refl H))
          have g2 : ¬ ds.length ≤ 4 := by omega
          simp only [worthD, g2, decide_false, Bool.false_and, Bool.and_false]
      · refine iteDF h1 ⟨false, rfl, iteT ?_⟩
        refine bq (Q := Q) ?_ (q H (Same.refl H))
        have g2 : ¬ 1 ≤ ds.length := by omega
        simp only [worthD, g2, decide_false, Bool.false_and]

theorem ok_l_right {P : Program} {w : World} {K : PySem.W.Frag} {mg : Str → Option Value} {base : Heap} {a : Nat → Addr} {d : Nat → FuncData} (T : Txt K mg a d) : FnG P w K mg base 4 (a 8) (d 8) ["_law_item"] (spGood K) := by
  refine fnG_mk T.F_l_right sc_l_right (fun vs H Q E h => ?_) (fun cdv A outer s0 H vs Q E gd hr h => ?_)
  · obtain ⟨v, rfl, hgd, q⟩ := h
    rfl
  · obtain ⟨v, rfl, hgd, q⟩ := h
    obtain ⟨d', ha, hs, hf⟩ := hgd
    refine ⟨_, (pss_cons (ps_set (i := 1) sc_l_right.nd rfl (Or.inl rfl) (pe_callB (call_reprA gd (room66 hr)) (by rfl) T.z_repr (by decide +kernel) (pa_cons (pv 0) pa_nil))) (pss_cons (ps_if (pt_cmpR op_ne (pe_callB (call_reprA gd (room66 hr)) (by rfl) T.z_repr (by decide +kernel) (pa_cons (pe_lst (pa_cons (pe_call (ok_is_key T) (hr.mono (by decide)) (by rfl) T.g_is_key T.F_is_key.kp T.b_is_key .nil pass0 (pa_cons (pv 0) pa_nil)) (pa_cons (pe_call (ok_is_worth T) (hr.mono (by decide)) (by rfl) T.g_is_worth T.F_is_worth.kp T.b_is_worth .nil pass0 (pa_cons (pv 0) pa_nil)) pa_nil))) pa_nil)) (pe_callB (call_reprA gd (room66 hr)) (by rfl) T.z_repr (by decide +kernel) (pa_cons (pe_lst (pa_cons (pe_call (ok_l_is_key T) (hr.mono (by decide)) (by rfl) T.g_l_is_key T.F_l_is_key.kp T.b_l_is_key .nil pass0 (pa_cons (pv 0) pa_nil)) (pa_cons (pe_call (ok_l_is_worth T) (hr.mono (by decide)) (by rfl) T.g_l_is_worth T.F_l_is_worth.kp T.b_l_is_worth .nil pass0 (pa_cons (pv 0) pa_nil)) pa_nil))) pa_nil)) (nomark _)) (pss_one (ps_ret pe_bl)) pss_nil) (pss_one (ps_ret (pe_and (pe_cmpR op_eq (pe_callK0 (ok_is_key T) (hr.mono (by decide)) (by rfl) T.g_is_key T.F_is_key.kp (kb_one T.F_is_key fun _ _ _ _ _ _ _ => rfl) pass0 (pk_cons (pv 0) pk_nil)) (pe_call (ok_is_key T) (hr.mono (by decide)) (by rfl) T.g_is_key T.F_is_key.kp T.b_is_key .nil pass0 (pa_cons (pv 0) pa_nil)) (nomark _)) (pe_and (pe_cmpR op_eq (pe_callK0 (ok_is_worth T) (hr.mono (by decide)) (by rfl) T.g_is_worth T.F_is_worth.kp (kb_one T.F_is_worth fun _ _ _ _ _ _ _ => rfl) pass0 (pk_cons (pv 0) pk_nil)) (pe_call (ok_is_worth T) (hr.mono (by decide)) (by rfl) T.g_is_worth T.F_is_worth.kp T.b_is_worth .nil pass0 (pa_cons (pv 0) pa_nil)) (nomark _)) (pe_one (pe_cmpR op_eq (pe_callB (call_reprA gd (room66 hr)) (by rfl) T.z_repr (by decide +kernel) (pa_cons (pv 0) pa_nil)) (pv 1) (nomark _))))))))), ?_⟩
    refine ⟨_, rfl, v, d', rfl, ha, hs.sh, hs.dp, hs.sz, ?_⟩
    have fb := two_bools (keyD d') (worthD d')
    have an : ∀ {Hx : Hp} {p : Addr}, Hx p = some (.lst [.bl (keyD d'), .bl (worthD d')]) → An K Hx (.ref p) (.list [.bool (keyD d'), .bool (worthD d')]) := fun h => .dp (.lst (SqL.of h) (.cons (.bl _) (.cons (.bl _) .nil)))
    refine ⟨_, rfl, v, d', rfl, ha, hf, fun H1 s1 => ⟨_, rfl, v, d', rfl, ha.up s1, hf, fun H2 s2 => ⟨len2, fun p1 np1 => ?_⟩⟩⟩
    have S2 := s1.trans s2
    have s3 : Same H2 (upd H2 p1 (.lst [.bl (keyD d'), .bl (worthD d')])) := same_new (Same.refl H2) np1
    have h3 : (upd H2 p1 (.lst [.bl (keyD d'), .bl (worthD d')])) p1 = some (.lst [.bl (keyD d'), .bl (worthD d')]) := upd_same
    generalize (upd H2 p1 (.lst [.bl (keyD d'), .bl (worthD d')])) = H3 at s3 h3 ⊢
    have S3 := S2.trans s3
    refine ⟨.ref p1, _, rfl, an h3, fb.sh, fb.dp, fb.sz, ?_⟩
    refine ⟨_, rfl, v, d', rfl, ha.up S3, hf, fun H4 s4 => ⟨_, rfl, v, d', rfl, ha.up (S3.trans s4), hf, fun H5 s5 => ⟨len2, fun p2 np2 => ?_⟩⟩⟩
    have S5 := S3.trans (s4.trans s5)
    have s6 : Same H5 (upd H5 p2 (.lst [.bl (keyD d'), .bl (worthD d')])) := same_new (Same.refl H5) np2
    have h6 : (upd H5 p2 (.lst [.bl (keyD d'), .bl (worthD d')])) p2 = some (.lst [.bl (keyD d'), .bl (worthD d')]) := upd_same
    generalize (upd H5 p2 (.lst [.bl (keyD d'), .bl (worthD d')])) = H6 at s6 h6 ⊢
    have S6 := S5.trans s6
    refine ⟨.ref p2, _, rfl, an h6, fb.sh, fb.dp, fb.sz, rfl, _, rfl, iteNS rfl ?_⟩
    refine ⟨_, rfl, v, d', rfl, ha.up S6, hf, fun H7 s7 => ⟨_, rfl, v, d', rfl, ha.up (S6.trans s7), hf, fun H8 s8 => ⟨rfl, _, rfl, iteDT rfl ?_⟩⟩⟩
    have S8 := S6.trans (s7.trans s8)
    refine ⟨_, rfl, v, d', rfl, ha.up S8, hf, fun H9 s9 => ⟨_, rfl, v, d', rfl, ha.up (S8.trans s9), hf, fun Ha sa => ⟨rfl, _, rfl, iteDT rfl ?_⟩⟩⟩
    have Sa := S8.trans (s9.trans sa)
    exact ⟨_, rfl, v, d', rfl, ha.up Sa, hs.sh, hs.dp, hs.sz, _, rfl, rfl, bl_of (Q := Q) rfl (q Ha Sa)⟩

theorem ok_law {P : Program} {w : World} {K : PySem.W.Frag} {mg : Str → Option Value} {base : Heap} {a : Nat → Addr} {d : Nat → FuncData} (T : Txt K mg a d) : FnG P w K mg base 5 (a 9) (d 9) ["_law_script"] (spLaw K) := by
  refine fnG_mk T.F_law sc_law (fun vs H Q E h => ?_) (fun cdv A outer s0 H vs Q E gd hr h => ?_)
  · obtain ⟨l, ns, rfl, hS, hl, q⟩ := h
    rfl
  · obtain ⟨l, ns, rfl, hS, hl, q⟩ := h
    refine ⟨_, (pss_cons (ps_for PassesOwn.never rfl (pi_range1 (by rfl) T.z_range (pa_cons (pe_callB (call_max2 rfl) (by rfl) T.z_max (by decide +kernel) (pa_cons pe_int (pa_cons (pe_callB (call_min2 rfl) (by rfl) T.z_min (by decide +kernel) (pa_cons pe_int (pa_cons (pe_callB call_len_seq (by rfl) T.z_len PySem.boot_len (pa_cons (pv 0) pa_nil)) pa_nil))) pa_nil))) pa_nil)) (pg_name (i := 1) sc_law.nd rfl (.inl rfl)) (pss_cons (ps_set (i := 2) sc_law.nd rfl (Or.inr rfl) (pe_call (ok_l_begun T) (hr.mono (by decide)) (by rfl) T.g_l_begun T.F_l_begun.kp T.b_l_begun .nil pass0 (pa_cons (pv 0) (pa_cons (pv 1) pa_nil)))) (pss_cons (ps_set (i := 3) sc_law.nd rfl (Or.inr rfl) pe_str) (pss_cons (ps_set (i := 4) sc_law.nd rfl (Or.inl rfl) (pe_join pe_str (pe_lc (own := [("_law_turn", 9)]) (g := gName 9) (by rfl) sc_law.nd (pi_range1 (by rfl) T.z_range (pa_cons (pe_op op_add pe_int (pe_call (ok_l_take T) (hr.mono (by decide)) (by rfl) T.g_l_take T.F_l_take.kp T.b_l_take .nil pass0 (pa_cons (pv 2) (pa_cons pe_int pa_nil)))) pa_nil)) (blkOk_by (own := [("_law_turn", 9)]) (N := ["_law_script", "_law_k", "_law_state", "_law_signs", "_law_word", "_law_at", "_law_sign", "_law_worth_here", "_law_things", "_law_turn", "_law_item"]) (sc := defScope s_law) (by decide +kernel)) (fun _ _ _ _ _ => (pg_name (i := 9) sc_law.nd rfl (.inl rfl))) (fun _ _ _ _ _ => pts_nil) (fun _ _ _ _ _ => (pe_ix ix_str (pv 3) (pe_call (ok_l_take T) (hr.mono (by decide)) (by rfl) T.g_l_take T.F_l_take.kp T.b_l_take .nil pass0 (pa_cons (pv 2) (pa_cons pe_int pa_nil))) (fun _ _ => rfl)))))) (pss_cons (ps_set (i := 5) sc_law.nd rfl (Or.inl rfl) (pe_call (ok_l_take T) (hr.mono (by decide)) (by rfl) T.g_l_take T.F_l_take.kp T.b_l_take .nil pass0 (pa_cons (pv 2) (pa_cons (pe_callB call_len_str (by rfl) T.z_len PySem.boot_len (pa_cons (pv 4) pa_nil)) pa_nil)))) (pss_cons (ps_set (i := 6) sc_law.nd rfl (Or.inl rfl) (pe_ix ix_list (pe_lst (pa_cons pe_str (pa_cons pe_str (pa_cons pe_str (pa_cons pe_str (pa_cons pe_str (pa_cons pe_str (pa_cons pe_str (pa_cons pe_str (pa_cons pe_str pa_nil)))))))))) (pe_call (ok_l_take T) (hr.mono (by decide)) (by rfl) T.g_l_take T.F_l_take.kp T.b_l_take .nil pass0 (pa_cons (pv 2) (pa_cons pe_int pa_nil))) (fun _ _ => rfl))) (pss_cons (ps_set (i := 7) sc_law.nd rfl (Or.inl rfl) (pe_call (ok_l_worth T) (hr.mono (by decide)) (by rfl) T.g_l_worth T.F_l_worth.kp T.b_l_worth .nil pass0 (pa_cons (pv 2) pa_nil))) (pss_cons (ps_set (i := 8) sc_law.nd rfl (Or.inl rfl) (pe_lst (pa_cons (pv 4) (pa_cons (pe_slice sl_str (pv 4) po_none (po_some pe_int)) (pa_cons (pe_op op_add_str (pe_op op_add_str (pe_slice sl_str (pv 4) po_none (po_some (pv 5))) (pv 6)) (pe_slice sl_str (pv 4) (po_some (pv 5)) po_none)) (pa_cons (pe_op op_add_str (pv 4) (pv 6)) (pa_cons (pe_op op_add_str (pv 6) (pv 4)) (pa_cons (pe_upper (pv 4)) (pa_cons (pe_lst (pa_cons (pv 4) pa_nil)) (pa_cons (pe_tup (pa_cons (pv 4) pa_nil)) pa_nil)))))))))) (pss_cons (ps_set (i := 8) sc_law.nd rfl (Or.inl rfl) (pe_op op_cat (pv 8) (pe_lst (pa_cons (pv 7) (pa_cons (pe_callTy call_list_of (by rfl) T.z_list (by decide +kernel) (pa_cons (pv 7) pa_nil)) (pa_cons (pe_op op_catT (pv 7) (pv 7)) (pa_cons (pe_op op_catT (pv 7) (pe_tup (pa_cons pe_bl pa_nil))) (pa_cons (pe_op op_catT (pv 7) (pe_tup (pa_cons pe_non pa_nil))) (pa_cons (pe_slice sl_tup (pv 7) po_none (po_some (pe_un un_neg pe_int))) (pa_cons (pe_tup (pa_cons (pv 7) pa_nil)) pa_nil)))))))))) (pss_cons (ps_set (i := 8) sc_law.nd rfl (Or.inl rfl) (pe_op op_cat (pv 8) (pe_lst (pa_cons (pe_op op_catT (pv 7) (pe_tup (pa_cons pe_str pa_nil))) (pa_cons (pe_ix ix_tup (pv 7) pe_int (fun _ _ => rfl)) (pa_cons pe_bl (pa_cons pe_non (pa_cons pe_str (pa_cons (pe_tup pa_nil) (pa_cons pe_dnewK (pa_cons (pe_lst pa_nil) (pa_cons pe_str (pa_cons (pe_tup (pa_cons pe_int (pa_cons pe_int (pa_cons pe_int (pa_cons pe_int (pa_cons pe_int pa_nil)))))) (pa_cons (pe_tup (pa_cons pe_bl pa_nil)) pa_nil)))))))))))))) (pss_one (ps_if (pt_cmpR (op_neD hr.units) (pe_lc (own := [("_law_item", 10)]) (g := gName 10) (tt := tNot (fun σ H Q => tCall (spGood K) [] E0 (tCons (tVar 10) tNil) σ H fun x H' => ∃ k, TruV K x H' k ∧ Q k H')) (by rfl) sc_law.nd (pi_list (pv 8)) (blkOk_by (own := [("_law_item", 10)]) (N := ["_law_script", "_law_k", "_law_state", "_law_signs", "_law_word", "_law_at", "_law_sign", "_law_worth_here", "_law_things", "_law_turn", "_law_item"]) (sc := defScope s_law) (by decide +kernel)) (fun _ _ _ _ _ => (pg_name (i := 10) sc_law.nd rfl (.inl rfl))) (fun _ _ _ _ _ => (pts_one (pt_not (pt_truth (pe_callG (ok_l_right T) gd (hr.mono (by decide)) (by rfl) T.g_l_right T.F_l_right.kp T.b_l_right pass0 (pa_cons (pv 10) pa_nil)) (by intro _; rfl))))) (fun _ _ _ _ _ => (pv 10))) (pe_lst pa_nil) (nomark _)) (pss_one (ps_ret pe_bl)) pss_nil)))))))))))) (pss_one (ps_ret pe_bl))), ?_⟩
    refine ⟨_, rfl, l, _, rfl, .inl hS, 30, _, rfl, 1, _, rfl, _, rfl, ?_, ?_, ?_⟩
    · rw [List.length_map]; (repeat' split) <;> omega
    · rw [List.length_map]; (repeat' split) <;> omega
    have hN : (if (if ((ns.map V.int).length : Int) < 30 then ((ns.map V.int).length : Int) else 30) > 1 then (if ((ns.map V.int).length : Int) < 30 then ((ns.map V.int).length : Int) else 30) else (1 : Int)).toNat ≤ 63 := by
      rw [List.length_map]; (repeat' split) <;> omega
    refine for_range (fun i σ H' => Same H H' ∧ ∃ v1 v2 v3 v4 v5 v6 v7 v8 v9 v10 : Option V, σ = [some (.ref l), v1, v2, v3, v4, v5, v6, v7, v8, v9, v10]) ⟨Same.refl H, none, none, none, none, none, none, none, none, none, none, rfl⟩ ?_ ?_
    · rintro i σ H1 hi ⟨s1', v1, v2, v3, v4, v5, v6, v7, v8, v9, v10, rfl⟩
      refine ⟨_, rfl, _, rfl, l, ns, _, rfl, s1'.seq hS, hl, by omega, by omega, fun s H2 ns0 s2' hs2 => ?_⟩
      have sH2 : Same H H2 := s1'.trans s2'
      have ns1 : H s = none := s1'.free ns0
      -- the word
      refine ⟨⟨_, rfl⟩, _, rfl, s, 7, rfl, hs2, (by decide), (by decide), fun r1 H3 r10 r11 K1 => ⟨1, r1, rfl, rfl, _, rfl, by omega, by omega, ?_⟩⟩
      intro D nD
      have fD : H2 D = none := K1.free hs2 nD
      have Ds : D ≠ s := K1.2.ne_new nD
      refine lc_range (lo := 0) (n := ((1 + r1 : Int)).toNat) (fun j H' => Kp s H2 H' ∧ ∃ cs : List Nat, H' D = some (.lst (cs.map fun c => V.str ⟨#[c]⟩)) ∧ cs.length = j ∧ ∀ c ∈ cs, ltr c = true) ⟨K1.new nD, [], upd_same, rfl, fun c h => by cases h⟩ ?_ ?_
      · rintro j H4 hj ⟨k4, cs, hD, hcl, hcs⟩
        refine ⟨rfl, _, rfl, _, rfl, s, 26, rfl, k4.2, (by decide), (by decide), fun r2 H5 r20 r21 K5 => ?_⟩
        obtain ⟨c, hc, hcl2⟩ : ∃ c : Nat, atI (Str.ofString "abcdefghijklmnopqrstuvwxyz").cps.toList r2 = some c ∧ ltr c = true := by
          obtain ⟨m, rfl⟩ := Int.eq_ofNat_of_zero_le r20
          have hm : m < 26 := by omega
          refine ⟨97 + m, ?_, ?_⟩
          · rw [letters_eq]
            refine atI_nat (j := m) ?_
            rw [List.getElem?_range' hm]
            simp
          · simp only [ltr, Bool.and_eq_true, decide_eq_true_eq]
            omega
        refine ⟨_, r2, c, rfl, rfl, (by decide), hc, _, K5.1 _ _ Ds hD, ?_, ?_, cs ++ [c], ?_, ?_, ?_⟩
        · rw [List.length_map, hcl]
          exact Nat.lt_of_lt_of_le (show j < 200 by omega) (by decide)
        · have k5 := k4.trans K5
          refine ⟨fun u o n e => ?_, ?_⟩
          · rw [upd_ne (ne_of_none e fD)]
            exact k5.1 u o n e
          · obtain ⟨x1, x2, x3, x4, x5⟩ := k5.2
            exact ⟨x1, x2, x3, by rw [upd_ne (fun z => Ds z.symm)]; exact x4, x5⟩
        · rw [upd_same, List.map_append]
          rfl
        · rw [List.length_append, hcl]
          rfl
        · intro x hx
          rcases List.mem_append.mp hx with h | h
          · exact hcs x h
          · rw [List.mem_singleton.mp h]
            exact hcl2
      rintro H4 ⟨k4, cs, hD, hcl, hcs⟩
      have hcm : (cs.map fun c => V.str ⟨#[c]⟩) = (cs.map fun c => (⟨#[c]⟩ : Str)).map V.str := by rw [List.map_map]; rfl
      refine ⟨_, D, cs.map fun c => (⟨#[c]⟩ : Str), rfl, rfl, .inl (SqL.of (by rw [← hcm]; exact hD)), ?_, ?_⟩
      · have e1 : ((cs.map fun c => (⟨#[c]⟩ : Str)).map (·.length)).sum = cs.length := by
          clear hD hcl hcs hcm
          induction cs with
          | nil => rfl
          | cons c r ih =>
            simp only [List.map_cons, List.sum_cons, List.length_cons, ih]
            show 1 + _ = _
            omega
        have e2 : (Str.ofString "").length = 0 := by decide
        rw [e1, e2]
        omega
      have ejo : Txt.join "" (cs.map fun c => (⟨#[c]⟩ : Str)) = Str.join "" (cs.map fun c => (⟨#[c]⟩ : Str)) := TL.join_eq _ _
      have etl := joined cs
      rw [← ejo] at etl
      generalize ewd : Txt.join "" (cs.map fun c => (⟨#[c]⟩ : Str)) = wd at etl ⊢
      have hlow : Lw wd := fun c hc => hcs c (etl ▸ hc)
      have hw7 : Sh 7 wd := hlow.sh (by rw [etl]; omega)
      have lw7 : wd.length ≤ sizeLine := lsz hw7
      have lwd : (wd.length : Int) = 1 + r1 := by
        have := Array.length_toList (xs := wd.cps)
        rw [etl] at this
        show ((wd.cps.size : Nat) : Int) = _
        omega
      -- at
      refine ⟨_, rfl, _, rfl, wd, rfl, lw7, s, _, rfl, k4.2, by omega, by omega, fun at1 H5 at0 atm K5 => ?_⟩
      have k5 := k4.trans K5
      -- sign
      refine ⟨(by decide : 9 ≤ sizeLine), fun pg npg => ?_⟩
      have k6 := k5.new (o := .lst (sg9.map V.str)) npg
      have hg6 : (upd H5 pg (.lst (sg9.map V.str))) pg = some (.lst (sg9.map V.str)) := upd_same
      have pgs : pg ≠ s := k5.2.ne_new npg
      have g6s : StAt (upd H5 pg (.lst (sg9.map V.str))) s := k6.2
      refine ⟨_, rfl, s, 9, rfl, g6s, (by decide), (by decide), fun r3 H7 r30 r31 K7 => ?_⟩
      have k7 := k6.trans K7
      have hg7 := K7.1 _ _ pgs hg6
      obtain ⟨sg, hsgv, hsg⟩ : ∃ sg : Str, atI ((sg9 : List Str).map V.str) r3 = some (V.str sg) ∧ Sh 1 sg := by
        obtain ⟨m, rfl⟩ := Int.eq_ofNat_of_zero_le r30
        have hm : m < 9 := by omega
        refine ⟨(sg9 : List Str)[m]'(by exact hm), ?_, signs9 _ (List.getElem_mem _)⟩
        refine atI_nat (j := m) ?_
        rw [List.getElem?_map, List.getElem?_eq_getElem (by exact hm)]
        rfl
      refine ⟨pg, _, r3, _, rfl, rfl, SqL.of hg7, hsgv, ?_⟩
      -- worth
      refine ⟨_, rfl, s, rfl, k7.2, fun pw ns2 Hs w1 w4 wb npw K8 hwt => ?_⟩
      have k8 := k7.trans K8
      have sHs : Same H Hs := Kp.same sH2 ns1 k8
      have lws := ints_lf wb
      have lw10 : ((ns2.map PyData.int)).length ≤ 10 := by rw [List.length_map]; omega
      have wne : ns2.map V.int ≠ [] := fun e => by
        have := congrArg List.length e
        rw [List.length_map] at this
        simp at this
        rw [this] at w1
        simp at w1
      have w8 : (ns2.map V.int).length + (ns2.map V.int).length ≤ sizeLine := by rw [List.length_map]; exact Nat.le_trans (show _ ≤ 8 by omega) (by decide)
      have w5 : (ns2.map V.int).length + 1 ≤ sizeLine := by rw [List.length_map]; exact Nat.le_trans (show _ ≤ 5 by omega) (by decide)
      have w8d : ((ns2.map PyData.int) ++ (ns2.map PyData.int)).length ≤ 10 := by rw [List.length_append, List.length_map]; omega
      have w5d : ∀ {d : PyData}, ((ns2.map PyData.int) ++ [d]).length ≤ 10 := by intro d; rw [List.length_append, List.length_map]; show _ + 1 ≤ 10; omega
      have lwc : ((ns2.take (ns2.length - 1)).map PyData.int).all lf = true := ints_lf fun n hn => wb n (List.mem_of_mem_take hn)
      have lw9 : ((ns2.take (ns2.length - 1)).map PyData.int).length ≤ 10 := by rw [List.length_map, List.length_take]; omega
      obtain ⟨w0, hat0, lw0⟩ : ∃ w0, atI (ns2.map V.int) 0 = some (V.int w0) ∧ lf (.int w0) = true := by
        cases ns2 with
        | nil => simp at w1
        | cons x r => exact ⟨x, atI_nat (j := 0) rfl, int_leaf2 (wb x (List.mem_cons_self ..)).1 (wb x (List.mem_cons_self ..)).2⟩
      have wcut : ¬ (HT.sIx (ns2.map V.int).length 0 none = 0 ∧ HT.sIx (ns2.map V.int).length (ns2.map V.int).length (some (-1)) = (ns2.map V.int).length) := by
        rintro ⟨_, e⟩
        rw [List.length_map] at e
        unfold HT.sIx at e
        simp at e
        omega
      clear hg6 g6s hg7 K1 K5 K7 K8 k4 k5 k6 k7 hD
      refine ⟨_, rfl, ?_⟩
      refine ⟨_, rfl, 6, rfl, wd, rfl, lw7, ?_⟩
      refine ⟨_, rfl, _, rfl, at1, rfl, wd, rfl, lw7, _, rfl, _, _, rfl, rfl, (lsz2 (hw7.cut none (some at1)) hsg), _, rfl, _, rfl, at1, rfl, wd, rfl, lw7, _, _, rfl, rfl, (lsz2 ((hw7.cut none (some at1)).app hsg) (hw7.cut (some at1) none)), ?_⟩
      refine ⟨_, rfl, _, rfl, _, _, rfl, rfl, lsz2 hw7 hsg, ?_⟩
      refine ⟨_, rfl, _, rfl, _, _, rfl, rfl, lsz2 hsg hw7, ?_⟩
      refine ⟨_, rfl, ⟨_, rfl⟩, wd, rfl, rfl, Nat.le_trans hw7.len (by decide), ?_⟩
      refine ⟨_, rfl, len1, fun p1 n1 => ?_⟩
      have s1 : Same Hs (upd Hs p1 (.lst [.str wd])) := same_new (Same.refl Hs) n1
      have h1 : (upd Hs p1 (.lst [.str wd])) p1 = some (.lst [.str wd]) := upd_same
      generalize (upd Hs p1 (.lst [.str wd])) = J1 at s1 h1 ⊢
      refine ⟨_, rfl, len1, fun p2 n2 => ?_⟩
      have s2 : Same J1 (upd J1 p2 (.tup [.str wd])) := same_new (Same.refl J1) n2
      have h2 : (upd J1 p2 (.tup [.str wd])) p2 = some (.tup [.str wd]) := upd_same
      generalize (upd J1 p2 (.tup [.str wd])) = J2 at s2 h2 ⊢
      refine ⟨(by decide : 8 ≤ sizeLine), fun p3 n3 => ?_⟩
      have s3 : Same J2 (upd J2 p3 (.lst [.str wd, .str (cutS wd none (some 6)), .str (cutS wd none (some at1) ++ sg ++ cutS wd (some at1) none), .str (wd ++ sg), .str (sg ++ wd), .str (Txt.upper wd), .ref p1, .ref p2])) := same_new (Same.refl J2) n3
      have h3 : (upd J2 p3 (.lst [.str wd, .str (cutS wd none (some 6)), .str (cutS wd none (some at1) ++ sg ++ cutS wd (some at1) none), .str (wd ++ sg), .str (sg ++ wd), .str (Txt.upper wd), .ref p1, .ref p2])) p3 = some (.lst [.str wd, .str (cutS wd none (some 6)), .str (cutS wd none (some at1) ++ sg ++ cutS wd (some at1) none), .str (wd ++ sg), .str (sg ++ wd), .str (Txt.upper wd), .ref p1, .ref p2]) := upd_same
      generalize (upd J2 p3 (.lst [.str wd, .str (cutS wd none (some 6)), .str (cutS wd none (some at1) ++ sg ++ cutS wd (some at1) none), .str (wd ++ sg), .str (sg ++ wd), .str (Txt.upper wd), .ref p1, .ref p2])) = J3 at s3 h3 ⊢
      have G3 : ∀ v ∈ ([.str wd, .str (cutS wd none (some 6)), .str (cutS wd none (some at1) ++ sg ++ cutS wd (some at1) none), .str (wd ++ sg), .str (sg ++ wd), .str (Txt.upper wd), .ref p1, .ref p2] : List V), Good K J3 v := (gcons (gStr hw7 (by decide)) (gcons (gStr (hw7.cut _ _) (by decide)) (gcons (gStr (((hw7.cut none (some at1)).app hsg).app (hw7.cut (some at1) none)) (by decide)) (gcons (gStr (hw7.app hsg) (by decide)) (gcons (gStr (hsg.app hw7) (by decide)) (gcons (gStr (hlow.upper hw7.ln) (by decide)) (gcons (gLst ((s2.trans (s3)) _ _ h1) (.cons (.str _) .nil) (by rw [List.all_cons, str_leaf hw7 (by decide)]; rfl) (by show 1 ≤ 10; decide)) (gcons (gTup ((s3) _ _ h2) (.cons (.str _) .nil) (by rw [List.all_cons, str_leaf hw7 (by decide)]; rfl) (by show 1 ≤ 10; decide)) gnil))))))))
      refine ⟨_, rfl, ?_⟩
      refine ⟨_, rfl, ?_⟩
      refine ⟨_, rfl, pw, _, rfl, .inr (SqT.of ((s1.trans (s2.trans (s3))) _ _ hwt)), fun p4 n4 => ?_⟩
      have s4 : Same J3 (upd J3 p4 (.lst (ns2.map V.int))) := same_new (Same.refl J3) n4
      have h4 : (upd J3 p4 (.lst (ns2.map V.int))) p4 = some (.lst (ns2.map V.int)) := upd_same
      generalize (upd J3 p4 (.lst (ns2.map V.int))) = J4 at s4 h4 ⊢
      refine ⟨_, rfl, _, rfl, pw, pw, _, _, rfl, rfl, SqT.of ((s1.trans (s2.trans (s3.trans (s4)))) _ _ hwt), SqT.of ((s1.trans (s2.trans (s3.trans (s4)))) _ _ hwt), wne, w8, (fun z => absurd z wne), fun _ p5 n5 => ?_⟩
      have s5 : Same J4 (upd J4 p5 (.tup (ns2.map V.int ++ ns2.map V.int))) := same_new (Same.refl J4) n5
      have h5 : (upd J4 p5 (.tup (ns2.map V.int ++ ns2.map V.int))) p5 = some (.tup (ns2.map V.int ++ ns2.map V.int)) := upd_same
      generalize (upd J4 p5 (.tup (ns2.map V.int ++ ns2.map V.int))) = J5 at s5 h5 ⊢
      refine ⟨_, rfl, len1, fun p6 n6 => ?_⟩
      have s6 : Same J5 (upd J5 p6 (.tup [.bl true])) := same_new (Same.refl J5) n6
      have h6 : (upd J5 p6 (.tup [.bl true])) p6 = some (.tup [.bl true]) := upd_same
      generalize (upd J5 p6 (.tup [.bl true])) = J6 at s6 h6 ⊢
      refine ⟨pw, p6, _, _, rfl, rfl, SqT.of ((s1.trans (s2.trans (s3.trans (s4.trans (s5.trans (s6)))))) _ _ hwt), SqT.of h6, wne, w5, (fun z => by cases z), fun _ p7 n7 => ?_⟩
      have s7 : Same J6 (upd J6 p7 (.tup (ns2.map V.int ++ [.bl true]))) := same_new (Same.refl J6) n7
      have h7 : (upd J6 p7 (.tup (ns2.map V.int ++ [.bl true]))) p7 = some (.tup (ns2.map V.int ++ [.bl true])) := upd_same
      generalize (upd J6 p7 (.tup (ns2.map V.int ++ [.bl true]))) = J7 at s7 h7 ⊢
      refine ⟨_, rfl, len1, fun p8 n8 => ?_⟩
      have s8 : Same J7 (upd J7 p8 (.tup [.non])) := same_new (Same.refl J7) n8
      have h8 : (upd J7 p8 (.tup [.non])) p8 = some (.tup [.non]) := upd_same
      generalize (upd J7 p8 (.tup [.non])) = J8 at s8 h8 ⊢
      refine ⟨pw, p8, _, _, rfl, rfl, SqT.of ((s1.trans (s2.trans (s3.trans (s4.trans (s5.trans (s6.trans (s7.trans (s8)))))))) _ _ hwt), SqT.of h8, wne, w5, (fun z => by cases z), fun _ p9 n9 => ?_⟩
      have s9 : Same J8 (upd J8 p9 (.tup (ns2.map V.int ++ [.non]))) := same_new (Same.refl J8) n9
      have h9 : (upd J8 p9 (.tup (ns2.map V.int ++ [.non]))) p9 = some (.tup (ns2.map V.int ++ [.non])) := upd_same
      generalize (upd J8 p9 (.tup (ns2.map V.int ++ [.non]))) = J9 at s9 h9 ⊢
      refine ⟨_, rfl, 1, rfl, _, rfl, pw, _, rfl, SqT.of ((s1.trans (s2.trans (s3.trans (s4.trans (s5.trans (s6.trans (s7.trans (s8.trans (s9))))))))) _ _ hwt), wcut, fun p10 n10 => ?_⟩
      have s10 : Same J9 (upd J9 p10 (.tup (cutV (ns2.map V.int) none (some (-1))))) := same_new (Same.refl J9) n10
      have h10 : (upd J9 p10 (.tup (cutV (ns2.map V.int) none (some (-1))))) p10 = some (.tup ((ns2.take (ns2.length - 1)).map V.int)) := by rw [← cut_last ns2]; exact upd_same
      generalize (upd J9 p10 (.tup (cutV (ns2.map V.int) none (some (-1))))) = J10 at s10 h10 ⊢
      refine ⟨_, rfl, len1, fun p11 n11 => ?_⟩
      have s11 : Same J10 (upd J10 p11 (.tup [.ref pw])) := same_new (Same.refl J10) n11
      have h11 : (upd J10 p11 (.tup [.ref pw])) p11 = some (.tup [.ref pw]) := upd_same
      generalize (upd J10 p11 (.tup [.ref pw])) = J11 at s11 h11 ⊢
      refine ⟨(by decide : 7 ≤ sizeLine), fun p12 n12 => ?_⟩
      have s12 : Same J11 (upd J11 p12 (.lst [.ref pw, .ref p4, .ref p5, .ref p7, .ref p9, .ref p10, .ref p11])) := same_new (Same.refl J11) n12
      have h12 : (upd J11 p12 (.lst [.ref pw, .ref p4, .ref p5, .ref p7, .ref p9, .ref p10, .ref p11])) p12 = some (.lst [.ref pw, .ref p4, .ref p5, .ref p7, .ref p9, .ref p10, .ref p11]) := upd_same
      generalize (upd J11 p12 (.lst [.ref pw, .ref p4, .ref p5, .ref p7, .ref p9, .ref p10, .ref p11])) = J12 at s12 h12 ⊢
      have G12 : ∀ v ∈ ([.ref pw, .ref p4, .ref p5, .ref p7, .ref p9, .ref p10, .ref p11] : List V), Good K J12 v := (gcons (gTup ((s1.trans (s2.trans (s3.trans (s4.trans (s5.trans (s6.trans (s7.trans (s8.trans (s9.trans (s10.trans (s11.trans (s12)))))))))))) _ _ hwt) (dpall_ints _) lws lw10) (gcons (gLst ((s5.trans (s6.trans (s7.trans (s8.trans (s9.trans (s10.trans (s11.trans (s12)))))))) _ _ h4) (dpall_ints _) lws lw10) (gcons (gTup ((s6.trans (s7.trans (s8.trans (s9.trans (s10.trans (s11.trans (s12))))))) _ _ h5) (dpall_app (dpall_ints _) (dpall_ints _)) (lf_app lws lws) w8d) (gcons (gTup (ds := ns2.map PyData.int ++ [.bool true]) ((s8.trans (s9.trans (s10.trans (s11.trans (s12))))) _ _ h7) (dpall_app (dpall_ints _) (.cons (.bl _) .nil)) (lf_app lws (by decide +kernel)) w5d) (gcons (gTup (ds := ns2.map PyData.int ++ [.none]) ((s10.trans (s11.trans (s12))) _ _ h9) (dpall_app (dpall_ints _) (.cons .non .nil)) (lf_app lws (by decide +kernel)) w5d) (gcons (gTup ((s11.trans (s12)) _ _ h10) (dpall_ints _) lwc lw9) (gcons (gOne ((s12) _ _ h11) ((s1.trans (s2.trans (s3.trans (s4.trans (s5.trans (s6.trans (s7.trans (s8.trans (s9.trans (s10.trans (s11.trans (s12)))))))))))) _ _ hwt) (dpall_ints _) lws lw10) gnil)))))))
      refine ⟨p3, p12, _, _, rfl, rfl, ((s4.trans (s5.trans (s6.trans (s7.trans (s8.trans (s9.trans (s10.trans (s11.trans (s12))))))))) _ _ h3), h12, (by show 15 ≤ sizeLine; decide), fun p13 n13 => ?_⟩
      have s13 : Same J12 (upd J12 p13 (.lst ([.str wd, .str (cutS wd none (some 6)), .str (cutS wd none (some at1) ++ sg ++ cutS wd (some at1) none), .str (wd ++ sg), .str (sg ++ wd), .str (Txt.upper wd), .ref p1, .ref p2] ++ [.ref pw, .ref p4, .ref p5, .ref p7, .ref p9, .ref p10, .ref p11]))) := same_new (Same.refl J12) n13
      have h13 : (upd J12 p13 (.lst ([.str wd, .str (cutS wd none (some 6)), .str (cutS wd none (some at1) ++ sg ++ cutS wd (some at1) none), .str (wd ++ sg), .str (sg ++ wd), .str (Txt.upper wd), .ref p1, .ref p2] ++ [.ref pw, .ref p4, .ref p5, .ref p7, .ref p9, .ref p10, .ref p11]))) p13 = some (.lst ([.str wd, .str (cutS wd none (some 6)), .str (cutS wd none (some at1) ++ sg ++ cutS wd (some at1) none), .str (wd ++ sg), .str (sg ++ wd), .str (Txt.upper wd), .ref p1, .ref p2] ++ [.ref pw, .ref p4, .ref p5, .ref p7, .ref p9, .ref p10, .ref p11])) := upd_same
      generalize (upd J12 p13 (.lst ([.str wd, .str (cutS wd none (some 6)), .str (cutS wd none (some at1) ++ sg ++ cutS wd (some at1) none), .str (wd ++ sg), .str (sg ++ wd), .str (Txt.upper wd), .ref p1, .ref p2] ++ [.ref pw, .ref p4, .ref p5, .ref p7, .ref p9, .ref p10, .ref p11]))) = J13 at s13 h13 ⊢
      have G13 : ∀ v ∈ [.str wd, .str (cutS wd none (some 6)), .str (cutS wd none (some at1) ++ sg ++ cutS wd (some at1) none), .str (wd ++ sg), .str (sg ++ wd), .str (Txt.upper wd), .ref p1, .ref p2] ++ [.ref pw, .ref p4, .ref p5, .ref p7, .ref p9, .ref p10, .ref p11], Good K J13 v := gapp (fun v hv => (G3 v hv).up (s4.trans (s5.trans (s6.trans (s7.trans (s8.trans (s9.trans (s10.trans (s11.trans (s12.trans (s13))))))))))) (fun v hv => (G12 v hv).up s13)
      refine ⟨_, rfl, ?_⟩
      refine ⟨_, rfl, len1, fun p14 n14 => ?_⟩
      have s14 : Same J13 (upd J13 p14 (.tup [.str "1"])) := same_new (Same.refl J13) n14
      have h14 : (upd J13 p14 (.tup [.str "1"])) p14 = some (.tup [.str "1"]) := upd_same
      generalize (upd J13 p14 (.tup [.str "1"])) = J14 at s14 h14 ⊢
      refine ⟨pw, p14, _, _, rfl, rfl, SqT.of ((s1.trans (s2.trans (s3.trans (s4.trans (s5.trans (s6.trans (s7.trans (s8.trans (s9.trans (s10.trans (s11.trans (s12.trans (s13.trans (s14)))))))))))))) _ _ hwt), SqT.of h14, wne, w5, (fun z => by cases z), fun _ p15 n15 => ?_⟩
      have s15 : Same J14 (upd J14 p15 (.tup (ns2.map V.int ++ [.str "1"]))) := same_new (Same.refl J14) n15
      have h15 : (upd J14 p15 (.tup (ns2.map V.int ++ [.str "1"]))) p15 = some (.tup (ns2.map V.int ++ [.str "1"])) := upd_same
      generalize (upd J14 p15 (.tup (ns2.map V.int ++ [.str "1"]))) = J15 at s15 h15 ⊢
      refine ⟨_, rfl, pw, _, 0, _, rfl, rfl, SqT.of ((s1.trans (s2.trans (s3.trans (s4.trans (s5.trans (s6.trans (s7.trans (s8.trans (s9.trans (s10.trans (s11.trans (s12.trans (s13.trans (s14.trans (s15))))))))))))))) _ _ hwt), hat0, ?_⟩
      refine ⟨Nat.zero_le _, fun p16 n16 => ?_⟩
      have s16 : Same J15 (upd J15 p16 (.tup [])) := same_new (Same.refl J15) n16
      have h16 : (upd J15 p16 (.tup [])) p16 = some (.tup []) := upd_same
      generalize (upd J15 p16 (.tup [])) = J16 at s16 h16 ⊢
      intro p17 n17
      have s17 : Same J16 (upd J16 p17 (.dK [])) := same_new (Same.refl J16) n17
      have h17 : (upd J16 p17 (.dK [])) p17 = some (.dK []) := upd_same
      generalize (upd J16 p17 (.dK [])) = J17 at s17 h17 ⊢
      refine ⟨Nat.zero_le _, fun p18 n18 => ?_⟩
      have s18 : Same J17 (upd J17 p18 (.lst [])) := same_new (Same.refl J17) n18
      have h18 : (upd J17 p18 (.lst [])) p18 = some (.lst []) := upd_same
      generalize (upd J17 p18 (.lst [])) = J18 at s18 h18 ⊢
      refine ⟨(by decide : 5 ≤ sizeLine), fun p19 n19 => ?_⟩
      have s19 : Same J18 (upd J18 p19 (.tup [.int 1, .int 2, .int 3, .int 4, .int 5])) := same_new (Same.refl J18) n19
      have h19 : (upd J18 p19 (.tup [.int 1, .int 2, .int 3, .int 4, .int 5])) p19 = some (.tup [.int 1, .int 2, .int 3, .int 4, .int 5]) := upd_same
      generalize (upd J18 p19 (.tup [.int 1, .int 2, .int 3, .int 4, .int 5])) = J19 at s19 h19 ⊢
      refine ⟨len1, fun p20 n20 => ?_⟩
      have s20 : Same J19 (upd J19 p20 (.tup [.bl false])) := same_new (Same.refl J19) n20
      have h20 : (upd J19 p20 (.tup [.bl false])) p20 = some (.tup [.bl false]) := upd_same
      generalize (upd J19 p20 (.tup [.bl false])) = J20 at s20 h20 ⊢
      refine ⟨(by decide : 11 ≤ sizeLine), fun p21 n21 => ?_⟩
      have s21 : Same J20 (upd J20 p21 (.lst [.ref p15, .int w0, .bl true, .non, .str "", .ref p16, .ref p17, .ref p18, .str "abcdefg", .ref p19, .ref p20])) := same_new (Same.refl J20) n21
      have h21 : (upd J20 p21 (.lst [.ref p15, .int w0, .bl true, .non, .str "", .ref p16, .ref p17, .ref p18, .str "abcdefg", .ref p19, .ref p20])) p21 = some (.lst [.ref p15, .int w0, .bl true, .non, .str "", .ref p16, .ref p17, .ref p18, .str "abcdefg", .ref p19, .ref p20]) := upd_same
      generalize (upd J20 p21 (.lst [.ref p15, .int w0, .bl true, .non, .str "", .ref p16, .ref p17, .ref p18, .str "abcdefg", .ref p19, .ref p20])) = J21 at s21 h21 ⊢
      have G21 : ∀ v ∈ ([.ref p15, .int w0, .bl true, .non, .str "", .ref p16, .ref p17, .ref p18, .str "abcdefg", .ref p19, .ref p20] : List V), Good K J21 v := (gcons (gTup (ds := ns2.map PyData.int ++ [.str "1"]) ((s16.trans (s17.trans (s18.trans (s19.trans (s20.trans (s21)))))) _ _ h15) (dpall_app (dpall_ints _) (.cons (.str _) .nil)) (lf_app lws (by decide +kernel)) w5d) (gcons (gInt lw0) (gcons (gBl true) (gcons gNon (gcons (gStr (n := 0) ⟨by decide, by decide⟩ (by decide)) (gcons (gTup ((s17.trans (s18.trans (s19.trans (s20.trans (s21))))) _ _ h16) .nil rfl (by decide)) (gcons (gDict ((s18.trans (s19.trans (s20.trans (s21)))) _ _ h17)) (gcons (gLst ((s19.trans (s20.trans (s21))) _ _ h18) .nil rfl (by decide)) (gcons (gStr (n := 7) ⟨by decide, by decide⟩ (by decide)) (gcons (gTup ((s20.trans (s21)) _ _ h19) (.cons (.int _) (.cons (.int _) (.cons (.int _) (.cons (.int _) (.cons (.int _) .nil))))) (by decide +kernel) (by decide)) (gcons (gTup ((s21) _ _ h20) (.cons (.bl _) .nil) (by decide +kernel) (by decide)) gnil)))))))))))
      refine ⟨p13, p21, _, _, rfl, rfl, ((s14.trans (s15.trans (s16.trans (s17.trans (s18.trans (s19.trans (s20.trans (s21)))))))) _ _ h13), h21, (by show 26 ≤ sizeLine; decide), fun p22 n22 => ?_⟩
      have s22 : Same J21 (upd J21 p22 (.lst (([.str wd, .str (cutS wd none (some 6)), .str (cutS wd none (some at1) ++ sg ++ cutS wd (some at1) none), .str (wd ++ sg), .str (sg ++ wd), .str (Txt.upper wd), .ref p1, .ref p2] ++ [.ref pw, .ref p4, .ref p5, .ref p7, .ref p9, .ref p10, .ref p11]) ++ [.ref p15, .int w0, .bl true, .non, .str "", .ref p16, .ref p17, .ref p18, .str "abcdefg", .ref p19, .ref p20]))) := same_new (Same.refl J21) n22
      have h22 : (upd J21 p22 (.lst (([.str wd, .str (cutS wd none (some 6)), .str (cutS wd none (some at1) ++ sg ++ cutS wd (some at1) none), .str (wd ++ sg), .str (sg ++ wd), .str (Txt.upper wd), .ref p1, .ref p2] ++ [.ref pw, .ref p4, .ref p5, .ref p7, .ref p9, .ref p10, .ref p11]) ++ [.ref p15, .int w0, .bl true, .non, .str "", .ref p16, .ref p17, .ref p18, .str "abcdefg", .ref p19, .ref p20]))) p22 = some (.lst (([.str wd, .str (cutS wd none (some 6)), .str (cutS wd none (some at1) ++ sg ++ cutS wd (some at1) none), .str (wd ++ sg), .str (sg ++ wd), .str (Txt.upper wd), .ref p1, .ref p2] ++ [.ref pw, .ref p4, .ref p5, .ref p7, .ref p9, .ref p10, .ref p11]) ++ [.ref p15, .int w0, .bl true, .non, .str "", .ref p16, .ref p17, .ref p18, .str "abcdefg", .ref p19, .ref p20])) := upd_same
      generalize (upd J21 p22 (.lst (([.str wd, .str (cutS wd none (some 6)), .str (cutS wd none (some at1) ++ sg ++ cutS wd (some at1) none), .str (wd ++ sg), .str (sg ++ wd), .str (Txt.upper wd), .ref p1, .ref p2] ++ [.ref pw, .ref p4, .ref p5, .ref p7, .ref p9, .ref p10, .ref p11]) ++ [.ref p15, .int w0, .bl true, .non, .str "", .ref p16, .ref p17, .ref p18, .str "abcdefg", .ref p19, .ref p20]))) = J22 at s22 h22 ⊢
      have G22 : ∀ v ∈ ([.str wd, .str (cutS wd none (some 6)), .str (cutS wd none (some at1) ++ sg ++ cutS wd (some at1) none), .str (wd ++ sg), .str (sg ++ wd), .str (Txt.upper wd), .ref p1, .ref p2] ++ [.ref pw, .ref p4, .ref p5, .ref p7, .ref p9, .ref p10, .ref p11]) ++ [.ref p15, .int w0, .bl true, .non, .str "", .ref p16, .ref p17, .ref p18, .str "abcdefg", .ref p19, .ref p20], Good K J22 v := gapp (fun v hv => (G13 v hv).up (s14.trans (s15.trans (s16.trans (s17.trans (s18.trans (s19.trans (s20.trans (s21.trans (s22)))))))))) (fun v hv => (G21 v hv).up s22)
      refine ⟨_, rfl, p22, rfl, ⟨_, SqL.of h22⟩, fun D nD => ?_⟩
      refine lc_list (K := K) (a := p22) (xs := (([.str wd, .str (cutS wd none (some 6)), .str (cutS wd none (some at1) ++ sg ++ cutS wd (some at1) none), .str (wd ++ sg), .str (sg ++ wd), .str (Txt.upper wd), .ref p1, .ref p2] ++ [.ref pw, .ref p4, .ref p5, .ref p7, .ref p9, .ref p10, .ref p11]) ++ [.ref p15, .int w0, .bl true, .non, .str "", .ref p16, .ref p17, .ref p18, .str "abcdefg", .ref p19, .ref p20])) (fun j H' => Same J22 H' ∧ H' D = some (.lst [])) ⟨same_new (Same.refl _) nD, upd_same⟩ (fun j H' _ z => SqL.of (z.1 _ _ h22)) ?_ ?_
      · rintro j y Hx hy ⟨sx, hD⟩
        refine ⟨rfl, _, rfl, y, rfl, (G22 y (List.mem_of_getElem? hy)).up sx, fun Hy sy => ⟨true, rfl, iteF ⟨sx.trans sy, sy _ _ hD⟩⟩⟩
      rintro Hx ⟨sx, hD⟩
      refine ⟨Nat.zero_le _, fun pe npe => ?_⟩
      have se : Same Hx (upd Hx pe (.lst [])) := same_new (Same.refl Hx) npe
      refine ⟨.list [], .list [], .lst (SqL.of (se _ _ hD)) .nil, .lst (SqL.of upd_same) .nil, rfl, rfl, _, rfl, iteBF rfl ?_⟩
      exact ⟨(sHs.trans ((s1.trans (s2.trans (s3.trans (s4.trans (s5.trans (s6.trans (s7.trans (s8.trans (s9.trans (s10.trans (s11.trans (s12.trans (s13.trans (s14.trans (s15.trans (s16.trans (s17.trans (s18.trans (s19.trans (s20.trans (s21.trans (s22)))))))))))))))))))))).trans sx)).trans se, _, _, _, _, _, _, _, _, _, _, rfl⟩
    · rintro σ H1 ⟨s1', v1, v2, v3, v4, v5, v6, v7, v8, v9, v10, rfl⟩
      exact q _

theorem all_mk {l : PySem.W.OpenLaw} {w : World} {K : PySem.W.Frag} {h : Heap} {mg : Str → Option Value} {fa : Addr} {f0 f1 f2 f3 f4 f5 f6 f7 f8 f9 : Addr} (X : K.In h) (G : h.Ns mainGlobals mg) (hfa : mg "law" = some (.ref fa))
    {od0 od1 od2 od3 od4 od5 od6 od7 od8 od9 : Option Addr} {an0 an1 an2 an3 an4 an5 an6 an7 an8 an9 : Option Addr} {sl0 sl1 sl2 sl3 sl4 sl5 sl6 sl7 sl8 sl9 : Array (Option Value)} {oc0 kV0 dc0 pm0 cd0 ct0 oc1 kV1 dc1 pm1 cd1 ct1 oc2 kV2 dc2 pm2 cd2 ct2 oc3 kV3 dc3 pm3 cd3 ct3 oc4 kV4 dc4 pm4 cd4 ct4 oc5 kV5 dc5 pm5 cd5 ct5 oc6 kV6 dc6 pm6 cd6 ct6 oc7 kV7 dc7 pm7 cd7 ct7 oc8 kV8 dc8 pm8 cd8 ct8 oc9 kV9 dc9 pm9 cd9 ct9 : Value}
    {t10 : Tok}
    {t11 : Tok}
    {t12 : Tok}
    (g10 : PySem.W.nsIn K mainGlobals "LETTERS" = some (some (.str "abcdefghijklmnopqrstuvwxyz" t10)))
    (g11 : PySem.W.nsIn K mainGlobals "MOST_LETTERS" = some (some (.int 6 t11)))
    (g12 : PySem.W.nsIn K mainGlobals "MOST_FIELDS" = some (some (.int 4 t12)))
    (a0 : PySem.W.nsIn K mainGlobals "is_row_of_whole" = some (some (.ref f0)))
    (l0 : K.lookup f0 = some ⟨oc0, od0, .func (PySem.W.fnOf "is_row_of_whole" "is_row_of_whole" (defArgs s_is_row_of_whole) (defBody s_is_row_of_whole) (defScope s_is_row_of_whole) .none kV0 dc0 pm0 an0 cd0 ct0), sl0⟩) (c0 : PySem.W.codeIn K cd0 "is_row_of_whole" = true) (k0 : PySem.W.keepIn K (.ref f0) = true)
    (a1 : PySem.W.nsIn K mainGlobals "is_key" = some (some (.ref f1)))
    (l1 : K.lookup f1 = some ⟨oc1, od1, .func (PySem.W.fnOf "is_key" "is_key" (defArgs s_is_key) (defBody s_is_key) (defScope s_is_key) .none kV1 dc1 pm1 an1 cd1 ct1), sl1⟩) (c1 : PySem.W.codeIn K cd1 "is_key" = true) (k1 : PySem.W.keepIn K (.ref f1) = true)
    (a2 : PySem.W.nsIn K mainGlobals "is_worth" = some (some (.ref f2)))
    (l2 : K.lookup f2 = some ⟨oc2, od2, .func (PySem.W.fnOf "is_worth" "is_worth" (defArgs s_is_worth) (defBody s_is_worth) (defScope s_is_worth) .none kV2 dc2 pm2 an2 cd2 ct2), sl2⟩) (c2 : PySem.W.codeIn K cd2 "is_worth" = true) (k2 : PySem.W.keepIn K (.ref f2) = true)
    (a3 : PySem.W.nsIn K mainGlobals "_law_begun" = some (some (.ref f3)))
    (l3 : K.lookup f3 = some ⟨oc3, od3, .func (PySem.W.fnOf "_law_begun" "_law_begun" (defArgs s_l_begun) (defBody s_l_begun) (defScope s_l_begun) .none kV3 dc3 pm3 an3 cd3 ct3), sl3⟩) (c3 : PySem.W.codeIn K cd3 "_law_begun" = true) (k3 : PySem.W.keepIn K (.ref f3) = true)
    (a4 : PySem.W.nsIn K mainGlobals "_law_take" = some (some (.ref f4)))
    (l4 : K.lookup f4 = some ⟨oc4, od4, .func (PySem.W.fnOf "_law_take" "_law_take" (defArgs s_l_take) (defBody s_l_take) (defScope s_l_take) .none kV4 dc4 pm4 an4 cd4 ct4), sl4⟩) (c4 : PySem.W.codeIn K cd4 "_law_take" = true) (k4 : PySem.W.keepIn K (.ref f4) = true)
    (a5 : PySem.W.nsIn K mainGlobals "_law_worth" = some (some (.ref f5)))
    (l5 : K.lookup f5 = some ⟨oc5, od5, .func (PySem.W.fnOf "_law_worth" "_law_worth" (defArgs s_l_worth) (defBody s_l_worth) (defScope s_l_worth) .none kV5 dc5 pm5 an5 cd5 ct5), sl5⟩) (c5 : PySem.W.codeIn K cd5 "_law_worth" = true) (k5 : PySem.W.keepIn K (.ref f5) = true)
    (a6 : PySem.W.nsIn K mainGlobals "_law_is_key" = some (some (.ref f6)))
    (l6 : K.lookup f6 = some ⟨oc6, od6, .func (PySem.W.fnOf "_law_is_key" "_law_is_key" (defArgs s_l_is_key) (defBody s_l_is_key) (defScope s_l_is_key) .none kV6 dc6 pm6 an6 cd6 ct6), sl6⟩) (c6 : PySem.W.codeIn K cd6 "_law_is_key" = true) (k6 : PySem.W.keepIn K (.ref f6) = true)
    (a7 : PySem.W.nsIn K mainGlobals "_law_is_worth" = some (some (.ref f7)))
    (l7 : K.lookup f7 = some ⟨oc7, od7, .func (PySem.W.fnOf "_law_is_worth" "_law_is_worth" (defArgs s_l_is_worth) (defBody s_l_is_worth) (defScope s_l_is_worth) .none kV7 dc7 pm7 an7 cd7 ct7), sl7⟩) (c7 : PySem.W.codeIn K cd7 "_law_is_worth" = true) (k7 : PySem.W.keepIn K (.ref f7) = true)
    (a8 : PySem.W.nsIn K mainGlobals "_law_right" = some (some (.ref f8)))
    (l8 : K.lookup f8 = some ⟨oc8, od8, .func (PySem.W.fnOf "_law_right" "_law_right" (defArgs s_l_right) (defBody s_l_right) (defScope s_l_right) .none kV8 dc8 pm8 an8 cd8 ct8), sl8⟩) (c8 : PySem.W.codeIn K cd8 "_law_right" = true) (k8 : PySem.W.keepIn K (.ref f8) = true)
    (a9 : PySem.W.nsIn K mainGlobals "law" = some (some (.ref f9)))
    (l9 : K.lookup f9 = some ⟨oc9, od9, .func (PySem.W.fnOf "law" "law" (defArgs s_law) (defBody s_law) (defScope s_law) .none kV9 dc9 pm9 an9 cd9 ct9), sl9⟩) (c9 : PySem.W.codeIn K cd9 "law" = true) (k9 : PySem.W.keepIn K (.ref f9) = true)
    (z_max : PySem.W.nsIn K mainGlobals "max" = some none)
    (z_min : PySem.W.nsIn K mainGlobals "min" = some none)
    (z_abs : PySem.W.nsIn K mainGlobals "abs" = some none)
    (z_len : PySem.W.nsIn K mainGlobals "len" = some none)
    (z_int : PySem.W.nsIn K mainGlobals "int" = some none)
    (z_range : PySem.W.nsIn K mainGlobals "range" = some none)
    (z_isinstance : PySem.W.nsIn K mainGlobals "isinstance" = some none)
    (z_bool : PySem.W.nsIn K mainGlobals "bool" = some none)
    (z_tuple : PySem.W.nsIn K mainGlobals "tuple" = some none)
    (z_all : PySem.W.nsIn K mainGlobals "all" = some none)
    (z_repr : PySem.W.nsIn K mainGlobals "repr" = some none)
    (z_list : PySem.W.nsIn K mainGlobals "list" = some none)
    (z_str : PySem.W.nsIn K mainGlobals "str" = some none)
    : ∃ fd : FuncData, (∀ (s : Shared) (v : Value), BindsTo s fd ⟨[v], []⟩ [("_law_script", v)]) ∧ ∀ base : Heap, K.In base → base.Ns mainGlobals mg → FnG l.prog w K mg base 5 fa fd ["_law_script"] (spLaw K) := by
  have e := hfa.symm.trans (PySem.W.mg_of X G a9)
  cases e
  have F0 := fun_mk (st := s_is_row_of_whole) l0 c0 k0
  have b0 := F0.binds (ps := ["thing", "least", "most"]) fun _ _ _ _ _ _ us hl => match us, hl with | [_, _, _], _ => rfl
  have F1 := fun_mk (st := s_is_key) l1 c1 k1
  have b1 := F1.binds (ps := ["thing"]) fun _ _ _ _ _ _ us hl => match us, hl with | [_], _ => rfl
  have F2 := fun_mk (st := s_is_worth) l2 c2 k2
  have b2 := F2.binds (ps := ["thing"]) fun _ _ _ _ _ _ us hl => match us, hl with | [_], _ => rfl
  have F3 := fun_mk (st := s_l_begun) l3 c3 k3
  have b3 := F3.binds (ps := ["_law_script", "_law_k"]) fun _ _ _ _ _ _ us hl => match us, hl with | [_, _], _ => rfl
  have F4 := fun_mk (st := s_l_take) l4 c4 k4
  have b4 := F4.binds (ps := ["_law_state", "_law_many"]) fun _ _ _ _ _ _ us hl => match us, hl with | [_, _], _ => rfl
  have F5 := fun_mk (st := s_l_worth) l5 c5 k5
  have b5 := F5.binds (ps := ["_law_state"]) fun _ _ _ _ _ _ us hl => match us, hl with | [_], _ => rfl
  have F6 := fun_mk (st := s_l_is_key) l6 c6 k6
  have b6 := F6.binds (ps := ["_law_item"]) fun _ _ _ _ _ _ us hl => match us, hl with | [_], _ => rfl
  have F7 := fun_mk (st := s_l_is_worth) l7 c7 k7
  have b7 := F7.binds (ps := ["_law_item"]) fun _ _ _ _ _ _ us hl => match us, hl with | [_], _ => rfl
  have F8 := fun_mk (st := s_l_right) l8 c8 k8
  have b8 := F8.binds (ps := ["_law_item"]) fun _ _ _ _ _ _ us hl => match us, hl with | [_], _ => rfl
  have F9 := fun_mk (st := s_law) l9 c9 k9
  have b9 := F9.binds (ps := ["_law_script"]) fun _ _ _ _ _ _ us hl => match us, hl with | [_], _ => rfl
  let a : Nat → Addr := fun i => match i with | 0 => f0 | 1 => f1 | 2 => f2 | 3 => f3 | 4 => f4 | 5 => f5 | 6 => f6 | 7 => f7 | 8 => f8 | 9 => fa | _ => 0
  let d : Nat → FuncData := fun i => match i with | 0 => (PySem.W.fnOf "is_row_of_whole" "is_row_of_whole" (defArgs s_is_row_of_whole) (defBody s_is_row_of_whole) (defScope s_is_row_of_whole) .none kV0 dc0 pm0 an0 cd0 ct0) | 1 => (PySem.W.fnOf "is_key" "is_key" (defArgs s_is_key) (defBody s_is_key) (defScope s_is_key) .none kV1 dc1 pm1 an1 cd1 ct1) | 2 => (PySem.W.fnOf "is_worth" "is_worth" (defArgs s_is_worth) (defBody s_is_worth) (defScope s_is_worth) .none kV2 dc2 pm2 an2 cd2 ct2) | 3 => (PySem.W.fnOf "_law_begun" "_law_begun" (defArgs s_l_begun) (defBody s_l_begun) (defScope s_l_begun) .none kV3 dc3 pm3 an3 cd3 ct3) | 4 => (PySem.W.fnOf "_law_take" "_law_take" (defArgs s_l_take) (defBody s_l_take) (defScope s_l_take) .none kV4 dc4 pm4 an4 cd4 ct4) | 5 => (PySem.W.fnOf "_law_worth" "_law_worth" (defArgs s_l_worth) (defBody s_l_worth) (defScope s_l_worth) .none kV5 dc5 pm5 an5 cd5 ct5) | 6 => (PySem.W.fnOf "_law_is_key" "_law_is_key" (defArgs s_l_is_key) (defBody s_l_is_key) (defScope s_l_is_key) .none kV6 dc6 pm6 an6 cd6 ct6) | 7 => (PySem.W.fnOf "_law_is_worth" "_law_is_worth" (defArgs s_l_is_worth) (defBody s_l_is_worth) (defScope s_l_is_worth) .none kV7 dc7 pm7 an7 cd7 ct7) | 8 => (PySem.W.fnOf "_law_right" "_law_right" (defArgs s_l_right) (defBody s_l_right) (defScope s_l_right) .none kV8 dc8 pm8 an8 cd8 ct8) | 9 => (PySem.W.fnOf "law" "law" (defArgs s_law) (defBody s_law) (defScope s_law) .none kV9 dc9 pm9 an9 cd9 ct9) | _ => (PySem.W.fnOf "law" "law" (defArgs s_law) (defBody s_law) (defScope s_law) .none kV9 dc9 pm9 an9 cd9 ct9)
  have T : Txt K mg a d := ⟨PySem.W.mg_of X G a0, F0, b0, PySem.W.mg_of X G a1, F1, b1, PySem.W.mg_of X G a2, F2, b2, PySem.W.mg_of X G a3, F3, b3, PySem.W.mg_of X G a4, F4, b4, PySem.W.mg_of X G a5, F5, b5, PySem.W.mg_of X G a6, F6, b6, PySem.W.mg_of X G a7, F7, b7, PySem.W.mg_of X G a8, F8, b8, PySem.W.mg_of X G a9, F9, b9, ⟨_, PySem.W.mg_of X G g10⟩, ⟨_, PySem.W.mg_of X G g11⟩, ⟨_, PySem.W.mg_of X G g12⟩, PySem.W.mg_none_of X G z_max, PySem.W.mg_none_of X G z_min, PySem.W.mg_none_of X G z_abs, PySem.W.mg_none_of X G z_len, PySem.W.mg_none_of X G z_int, PySem.W.mg_none_of X G z_range, PySem.W.mg_none_of X G z_isinstance, PySem.W.mg_none_of X G z_bool, PySem.W.mg_none_of X G z_tuple, PySem.W.mg_none_of X G z_all, PySem.W.mg_none_of X G z_repr, PySem.W.mg_none_of X G z_list, PySem.W.mg_none_of X G z_str⟩
  exact ⟨(PySem.W.fnOf "law" "law" (defArgs s_law) (defBody s_law) (defScope s_law) .none kV9 dc9 pm9 an9 cd9 ct9), fun s v => .of_eq rfl, fun base _ _ => ok_law T⟩
theorem walk {l : PySem.W.OpenLaw} {q : Program} {loose : List Str} {XP : (Str → Option Value) → Heap → Prop} {YP : World → Heap → Prop} {d : DefRec} {K : Params → PySem.W.Frag} (hn : l.most = some 63) (hdf : d.params.defaults = [])
    (hY : ∀ (w : World) (h : Heap), YP w h → (K w.params).In h)
    (F : ∀ (w : World) (mg : Str → Option Value) (fa : Addr) (h : Heap), (K w.params).In h → h.Ns mainGlobals mg → mg d.name = some (.ref fa) →
      ∃ fd : FuncData, (∀ (s : Shared) (u : Value), BindsTo s fd ⟨[u], []⟩ [("_law_script", u)]) ∧ ∀ base : Heap, (K w.params).In base → base.Ns mainGlobals mg → FnG l.prog w (K w.params) mg base 5 fa fd ["_law_script"] (spLaw (K w.params))) :
    PySem.W.WalkO q loose XP YP l.row.toRowW d [] (fun f vs => PySem.call f vs) :=
  walkG (n := 63) (k := 5) (x := "_law_script") (sp := fun w => (spLaw (K w.params))) hn (by decide) hdf ⟨rfl, by decide, by decide⟩ hY F (fun _ _ a ns hl _ _ hS => ⟨a, ns, rfl, hS, hl, fun _ => rfl⟩)
end M

open PySem PySem.W PyProof.Rows in
set_option maxRecDepth 100000 in
set_option maxHeartbeats 0 in
theorem PySem.Challenge.cw_stampedwait_k16_keys_and_worths_or_none_holds : PySem.Challenge.rw_stampedwait_k16_keys_and_worths_or_none.Holds := by
  w_on; o_law; k_head; (case hw => w_witness2)
  k_fill
  refine M.walk (l := PySem.Challenge.rw_stampedwait_k16_keys_and_worths_or_none) rfl rfl (fun w h Y => PySem.W.kIn_of Y) ?F
  case F =>
    intro w mg fa h KX G hmg
    refine' M.all_mk KX G hmg ?g10 ?g11 ?g12 ?a0 ?l0 ?c0 ?k0 ?a1 ?l1 ?c1 ?k1 ?a2 ?l2 ?c2 ?k2 ?a3 ?l3 ?c3 ?k3 ?a4 ?l4 ?c4 ?k4 ?a5 ?l5 ?c5 ?k5 ?a6 ?l6 ?c6 ?k6 ?a7 ?l7 ?c7 ?k7 ?a8 ?l8 ?c8 ?k8 ?a9 ?l9 ?c9 ?k9 ?z_max ?z_min ?z_abs ?z_len ?z_int ?z_range ?z_isinstance ?z_bool ?z_tuple ?z_all ?z_repr ?z_list ?z_str
    (case g10 => k_is)
    (case g11 => k_is)
    (case g12 => k_is)
    (case a0 => k_is)
    (case l0 => k_is)
    (case c0 => k_is)
    (case k0 => k_is)
    (case a1 => k_is)
    (case l1 => k_is)
    (case c1 => k_is)
    (case k1 => k_is)
    (case a2 => k_is)
    (case l2 => k_is)
    (case c2 => k_is)
    (case k2 => k_is)
    (case a3 => k_is)
    (case l3 => k_is)
    (case c3 => k_is)
    (case k3 => k_is)
    (case a4 => k_is)
    (case l4 => k_is)
    (case c4 => k_is)
    (case k4 => k_is)
    (case a5 => k_is)
    (case l5 => k_is)
    (case c5 => k_is)
    (case k5 => k_is)
    (case a6 => k_is)
    (case l6 => k_is)
    (case c6 => k_is)
    (case k6 => k_is)
    (case a7 => k_is)
    (case l7 => k_is)
    (case c7 => k_is)
    (case k7 => k_is)
    (case a8 => k_is)
    (case l8 => k_is)
    (case c8 => k_is)
    (case k8 => k_is)
    (case a9 => k_is)
    (case l9 => k_is)
    (case c9 => k_is)
    (case k9 => k_is)
    (case z_max => k_is)
    (case z_min => k_is)
    (case z_abs => k_is)
    (case z_len => k_is)
    (case z_int => k_is)
    (case z_range => k_is)
    (case z_isinstance => k_is)
    (case z_bool => k_is)
    (case z_tuple => k_is)
    (case z_all => k_is)
    (case z_repr => k_is)
    (case z_list => k_is)
    (case z_str => k_is)
