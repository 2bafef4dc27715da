import PyProof.Rows.All
import Wide.All
import OpenK.AllK
import Wide.FinOn
import HandS.StrMore
import HandS.ForMost
import HandS.Wide
import HandS.IsInst
import HandS.Defaults
import HandS.Flow
import HandS.TupLe
import HandS.OwnEq
import HandS.More
import HandS.Small
import HandS.EndBits
import HandS.RaiseMore
import HandS.Walk
import HandS.Conv
import HandS.DictComp
import PyProof.InstSpecial
import PyProof.ReprRoads
import PyProof.WalksMore
import PyProof.ReprLen
import PySem.Challenge.RW_stampedwait_k17_whole_what_was_read_stay
set_option Elab.async false
set_option linter.all false
set_option maxRecDepth 100000
set_option maxHeartbeats 4000000
namespace M
open PySem L2


section
open PySem PySem.Spec PyProof.Rows L2
/-- o.f = .. as one of several targets -/
def gFld (K : PySem.W.Frag) (to : TE) (f : Str) : TG := fun v σ H Q => to σ H fun x H1 => ∃ a C dx fs, x = .ref a ∧ H1 a = some (.ins C dx fs) ∧ Cls K C ∧ NoAttr K C f ∧ fs.length < 1000 ∧ Q σ (upd H1 a (.ins C dx (putF f v fs)))
theorem pg_fld {X : Cx} {o : Expr} {f : Str} {pos : Pos} {to : TE} (ho : PE X o to) : PG X (.Attribute o f pos) (gFld X.K to f) := by
  refine ⟨fun pins s σ H v u Q I r h => ?_⟩
  rw [PySem.assign_Attribute]
  refine wpAny_bind (wpAny_holding (thn (ho.run pins s σ H _ I h) fun ov s1 ⟨x, H1, I1, rx, a, C, dx, fs, ex, ea, c, n, l, q⟩ => ?_))
  subst ex
  obtain rfl : ov = Value.ref a := rx
  refine wpAny_bind (wpAny_standAt (wpAny_bind (wpAny_holding (setattr_ok I1 ea c n l r fun s2 I2 => ?_))))
  exact wpAny_release ⟨σ, _, I2, q⟩
end

section
open PySem PySem.Spec PyProof.Rows L2
/-- the promise of a def that is only called where no object is being shown -/
structure FnG (P : Program) (w : World) (K : PySem.W.Frag) (mg : Str → Option Value) (base : Heap) (k : Nat) (f : Addr) (fd : FuncData) (ps : List Str) (sp : Sp) : Prop where
  size : ∀ vs H Q E, sp vs H Q E → vs.length = ps.length
  go : ∀ (A : Around) (outer : List Env) (s : Shared) (H : Hp) (us : List Value) (vs : List V) (Q : VK) (E : XK) (args : Args), A.guards = some [] → Room k A → Env0 P w K mg base A outer s H →
    BindsTo s fd args (ps.zip us) → Vals vs us → sp vs H Q E → codeAny (model P w) A (.call (.ref f) args) (CR CX0 outer P w H s Q E) s
theorem room66 {A : Around} {k : Nat} (hr : Room k A) : A.units + 66 < cLine := by
  have := hr.un
  omega
theorem guards_deeper (A : Around) (e : Env) : (A.deeper e).guards = A.guards := rfl
section
variable {P : Program} {w : World} {K : PySem.W.Frag} {mg : Str → Option Value} {base : Heap} {x qual : Str} {st : Stmt} {f : Addr} {fd : FuncData} {N ps : List Str} {k : Nat} {sp : Sp}
theorem fnG_mk (F : Fun K x qual st f fd) (S : FnScope N ps (defScope st)) (size : ∀ vs H Q E, sp vs H Q E → vs.length = ps.length)
    (body : ∀ (cdv : Value) (A : Around) (outer : List Env) (s : Shared) (H : Hp) (vs : List V) (Q : VK) (E : XK), (A.deeper (envOfC qual (defScope st) s.heap.objs.size f cdv)).guards = some [] →
      Room k (A.deeper (envOfC qual (defScope st) s.heap.objs.size f cdv)) → sp vs H Q E →
      ∃ t, PSs (cxOf CX0 P w K mg base N qual (defScope st) f cdv A outer s H E).nox (defBody st) t ∧ t { nx := fun _ H' => Q .non H', rt := Q } (start N vs) H) :
    FnG P w K mg base (k + 1) f fd ps sp := by
  obtain ⟨oc, od, kV, doc, pm, an, cdv, ct, osl, rfl, lk, hcd⟩ := F.ex
  refine ⟨size, ?_⟩
  intro A outer s H us vs Q E args gd hr e0 hb r hsp
  have old : ∀ b o, base.get? b = some o → s.heap.get? b = some o := fun b o z => (e0.bs b o z).1
  have kin := e0.mod.kin.keeps old
  have hkind : ∀ y ∈ ps.zip us, (defScope st).names.lookup y.1 = some .local ∨ ((defScope st).names.lookup y.1 = some .cell ∧ ((cellsFrom (s.heap.objs.size + 1) (defScope st).names []).lookup y.1).isSome = true) := by
    rintro ⟨n, v⟩ hy
    have := S.par n (List.of_mem_zip hy).1
    rcases this with z | z
    · exact .inl z
    · exact .inr ⟨z, PySem.W.cellsFrom_some _ _ _ (.inl z)⟩
  obtain ⟨t, ht, hq⟩ := body cdv A outer s H vs Q E gd (hr.deeper _) hsp
  refine codeAny_call_function hr.depth (kin _ _ lk) rfl S.co S.gen rfl (PySem.W.codeRec_of kin hcd) ?_
  refine hb _ _ _ _ (wpAny_newFunctionEnv_cells S.kind hkind ?_)
  rintro env rfl s1 y
  refine ⟨(e0.mod.nolimit.keeps old).keeps y.toInCall.keep, codeAny_func ?_⟩
  have I0 := inv_start (CX := CX0) (E := E) (cd := cdv) (f := f) (qual := qual) S hr.hd e0 (size _ _ _ _ hsp) r y
  refine wpAny_mono (ht.nox.run [] s1 _ H _ I0 hq) ?_ (fun _ _ z => z)
  intro fl s' hs
  cases fl with
  | ret u =>
    obtain ⟨v, σ', H', J, rv, z⟩ := hs
    exact ⟨v, H', J.os, J.bare, J.base, J.hok, rv, z⟩
  | next =>
    obtain ⟨σ', H', J, z⟩ := hs
    exact ⟨V.non, H', J.os, J.bare, J.base, J.hok, rfl, z⟩
  | brk => exact hs.elim fun _ h => h.elim fun _ h => h.2.elim
  | cont => exact hs.elim fun _ h => h.elim fun _ h => h.2.elim
end
section
variable {X : Cx} {k : Nat} {f : Addr} {fd : FuncData} {ps : List Str} {sp : Sp} {x : Str} {p pos : Pos} {e : Expr} {es : List Expr} {t : TA}
theorem pe_callG (F : FnG X.prog X.w X.K X.mg X.base k f fd ps sp) (gd : X.A.guards = some []) (hr : Room k X.A) (hg : Gl X x) (hm : X.mg x = some (.ref f)) (hk : PySem.W.keepIn X.K (.ref f) = true) (hb : Binds X.K fd ps [])
    (hx : Passes CX0 X E0) (ha : PA X (e :: es) t) (hdb : (x == ("__debug__" : Str)) = false := by decide) (he : starEach (e :: es) X.env = (false, eval e X.env) :: starEach es X.env := by rfl) (hpl : (backTo pos (starEach es X.env)).any (·.1) = false := by rfl) :
    PE X (.Call (.Name x p) (e :: es) [] pos) (tCall sp [] E0 t) := by
  constructor
  intro pins s σ H Q I h
  apply wpAny_Call_Name_kw
  refine ld_glob I hg hm ?_ hdb
  refine PySem.W.callWith_K (h₀ := X.base) I.ok.mod.kin hk (thn (ha.run pos pins s σ H _ I h) ?_) he hpl
  rintro us s1 ⟨vs, H1, I1, r, q⟩
  refine ⟨I1.kIn, ?_⟩
  rw [List.append_nil] at q
  have hl : us.length = ps.length := r.length.symm.trans (F.size _ _ _ _ q)
  have b := hb s1 us I1.kIn (by rw [List.append_nil]; exact hl)
  rw [List.append_nil] at b
  refine wpAny_call (codeAny_mono (F.go X.A X.stack s1 H1 us vs Q E0 ⟨us, []⟩ gd hr I1.env0 b r q) ?_)
  intro res s' hq
  cases res with
  | error e => exact hx pins σ H1 s1 e s' I1 hq
  | ok fl => cases fl <;> first | exact I1.after hq | exact False.elim hq
/-- repr of data -/
theorem call_reprD (gd : X.A.guards = some []) (hu : X.A.units + 66 < cLine) : CallR X (.builtin "repr") (fun xs H Q => ∃ (a : Addr) (d : PyData), xs = [.ref a] ∧ Dp X.K H (.ref a) d ∧ d.showable = true ∧ d.hasDict = false ∧ d.depth ≤ 64 ∧ d.shown.length ≤ sizeLine ∧ Q (.str d.shown) H) := by
  intro pins s σ H xs us Q I r h
  obtain ⟨a, d, rfl, hd, sh, nd, dp, sz, q⟩ := h
  cases r with
  | cons r1 r2 =>
    cases r2
    obtain ⟨as, rd⟩ := Dp.reads I d _ _ hd r1
    cases r1
    exact repr_of_reads' rd sh (fun z => by rw [nd] at z; cases z) gd (by omega) (fun _ _ z => z) (fun h' u tk z => ⟨.str d.shown, H, I.kept z, ⟨_, rfl⟩, q⟩) sz
end
/-- the law's call -/
theorem law_callG {P : Program} {w : World} {K : PySem.W.Frag} {mg mb : Str → Option Value} {k : Nat} {fa sa : Addr} {fd : FuncData} {x : Str} {sp : Sp} {s₁ : Shared} {vs : List Value} {ns : List Int}
    (KX : K.In s₁.heap) (hns : s₁.heap.Ns mainGlobals mg) (hb : s₁.heap.Ns builtinsNs mb) (hbb : ∀ x : Str, x ≠ "__name__" → mb x = bootBuiltins x) (hlim : s₁.heap.NoLimit) (hg : s₁.gens = #[])
    (ho : s₁.heap.get? sa = some { cls := .type "list", data := .seq vs.toArray }) (hi : IntsAre vs ns) (hl : ns.length ≤ sizeLine) (hr : Room k callerA)
    (F : ∀ base : Heap, K.In base → base.Ns mainGlobals mg → FnG P w K mg base k fa fd [x] sp) (hbind : ∀ (s : Shared) (u : Value), BindsTo s fd ⟨[u], []⟩ [(x, u)])
    (hsp : ∀ H : Hp, Only H → SqL K H sa (ns.map V.int) → sp [.ref sa] H (fun v _ => v = .bl true) fun _ _ _ => False) :
    codeAny (model P w) callerA (.call (.ref fa) ⟨[.ref sa], []⟩) (fun r s' => r = .ok (.ret (.bool true)) ∧ OldK s₁.heap s'.heap ∧ s'.os = s₁.os ∧ AllBare s'.gens) s₁ := by
  -- H tracks the script or nothing
  suffices main : ∀ H : Hp, Only H → SqL K H sa (ns.map V.int) → HOk P w H s₁.heap → (∀ b, H b ≠ none → b = sa) → (H sa ≠ none → K.lookup sa = none) →
      codeAny (model P w) callerA (.call (.ref fa) ⟨[.ref sa], []⟩) (fun r s' => r = .ok (.ret (.bool true)) ∧ OldK s₁.heap s'.heap ∧ s'.os = s₁.os ∧ AllBare s'.gens) s₁ by
    have rv := vals_ints hi
    cases hk : K.lookup sa with
    | none =>
      let H : Hp := fun b => if b = sa then some (.frz { cls := .type "list", data := .seq vs.toArray } (.lst (ns.map V.int))) else none
      have hH : H sa = some (.frz { cls := .type "list", data := .seq vs.toArray } (.lst (ns.map V.int))) := if_pos rfl
      have hN : ∀ b, b ≠ sa → H b = none := fun b z => if_neg z
      refine main H (fun b => ?_) (.inl (.inr ⟨_, hH⟩)) (fun b u z => ?_) (fun b z => ?_) fun _ => hk
      · by_cases c : b = sa
        · exact .inr ⟨_, _, by rw [c]; exact hH⟩
        · exact .inl (hN b c)
      · by_cases c : b = sa
        · subst c
          rw [hH] at z
          cases z
          exact ⟨ho, by rw [List.length_map]; exact hl, vs, _, rv, ho⟩
        · rw [hN b c] at z
          cases z
      · by_cases c : b = sa
        · exact c
        · exact absurd (hN b c) z
    | some o =>
      have z := KX sa o hk
      rw [ho] at z
      cases z
      exact main (fun _ => none) (fun _ => .inl rfl) (.inr ⟨_, vs.toArray, _, hk, rfl, rfl, rfl, by rw [List.size_toArray, hi.length]; exact hl, by simpa using rv⟩) (fun b u y => by cases y) (fun b y => absurd rfl y) fun y => absurd rfl y
  intro H hO hS hok hA hK
  have free : ∀ {b : Addr}, b ≠ sa → H b = none := fun {b} c => by
    cases z : H b with
    | none => rfl
    | some u => exact absurd (hA b (by rw [z]; simp)) c
  have dictFree : ∀ {b : Addr} {o : Obj} {es : Array DictEntry} {ep : Nat}, s₁.heap.get? b = some o → o.data = .dict es ep → H b = none := fun {b o es ep} e d => free fun c => by
    subst c
    rw [ho] at e
    cases e
    cases d
  have ns2 : ∀ {b : Addr} {m : Str → Option Value}, s₁.heap.Ns b m → (hidT s₁.heap H).Ns b m := by
    rintro b m ⟨o, es, ep, e, d, r⟩
    exact ⟨o, es, ep, hidT_get e (dictFree e d), d, r⟩
  have kin2 : K.In (hidT s₁.heap H) := by
    intro b o e
    refine hidT_get (KX b o e) ?_
    by_cases c : b = sa
    · subst c
      cases z : H b with
      | none => rfl
      | some u =>
        rw [hK (by rw [z]; simp)] at e
        cases e
    · exact free c
  have lim2 : (hidT s₁.heap H).NoLimit := by
    obtain ⟨mc, h1, h2⟩ := hlim
    exact ⟨mc, ns2 h1, h2⟩
  have env : Env0 P w K mg (hidT s₁.heap H) callerA [] s₁ H :=
    { frames := rfl, mod := ⟨kin2, ns2 hns, ⟨mb, ns2 hb, hbb⟩, lim2⟩, bs := fun b o e => of_hidT e, bsz := Nat.le_of_eq (hidT_size _ _), funs := trivial, frf := fun b z => by simp [frs] at z, hok := hok, bare := .of_eq hg }
  refine codeAny_mono ((F _ kin2 (ns2 hns)).go callerA [] s₁ H [.ref sa] [.ref sa] _ _ ⟨[.ref sa], []⟩ rfl hr env (hbind s₁ (.ref sa)) (.cons rfl .nil) (hsp H hO hS)) ?_
  intro res s' hres
  cases res with
  | error e => exact hres.elim
  | ok fl =>
    cases fl with
    | ret u =>
      obtain ⟨v, H', os, bare, un, hok', rv, qv⟩ := hres
      cases (show v = .bl true from qv)
      cases (show u = Value.bool true from rv)
      refine ⟨rfl, OldK.of_keep fun b o e => ?_, os, bare⟩
      rcases hO b with z | ⟨ob, xs, z⟩
      · exact un.keep b o e z (by simp [frs]) (by simp)
      · have z2 := un.frzs b ob _ z
        have e1 := (hok b _ z).1
        have e2 := (hok' b _ z2).1
        rw [e] at e1
        cases e1
        exact e2
    | next => exact hres.elim
    | brk => exact hres.elim
    | cont => exact hres.elim
theorem walkG {l : PySem.W.OpenLaw} {n k : Nat} {q : Program} {loose : List Str} {XP : (Str → Option Value) → Heap → Prop} {YP : World → Heap → Prop} {d : DefRec} {K : Params → PySem.W.Frag} {sp : World → Sp} {x : Str}
    (hn : l.most = some n) (hn2 : n ≤ sizeLine) (hdf : d.params.defaults = []) (hr : Room k callerA) (hY : ∀ (w : World) (h : Heap), YP w h → (K w.params).In h)
    (F : ∀ (w : World) (mg : Str → Option Value) (fa : Addr) (h : Heap), (K w.params).In h → h.Ns mainGlobals mg → mg d.name = some (.ref fa) →
      ∃ fd : FuncData, (∀ (s : Shared) (u : Value), BindsTo s fd ⟨[u], []⟩ [(x, u)]) ∧ ∀ base : Heap, (K w.params).In base → base.Ns mainGlobals mg → FnG l.prog w (K w.params) mg base k fa fd [x] (sp w))
    (hsp : ∀ (w : World) (H : Hp) (a : Addr) (ns : List Int), ns.length ≤ n → (∀ z ∈ ns, Builtin.Int.intBits z ≤ 1048576) → Only H → SqL (K w.params) H a (ns.map V.int) → sp w [.ref a] H (fun v _ => v = .bl true) fun _ _ _ => False) :
    PySem.W.WalkO q loose XP YP l.row.toRowW d [] (fun f vs => PySem.call f vs) := by
  apply Att.attach_callB hn hdf
  intro w s₀ s₁ mg mb fa o pm cd doc sa vs ns G Y ho hd hcd hmg hobj hints hlen hbits hg
  obtain ⟨fd, hb, hF⟩ := F w mg fa _ (hY w _ Y) G.T.g hmg
  exact law_callG (hY w _ Y) G.T.g G.T.b G.T.builtins G.T.nolimit hg hobj hints (Nat.le_trans hlen hn2) hr hF hb (fun H hO hS => hsp w H sa ns hlen hbits hO hS)
end

section
open PySem PySem.Spec PyProof.Rows L2
/-- data, or an empty dict -/
inductive An (K : PySem.W.Frag) (H : Hp) : V → PyData → Prop
  | dp {v : V} {d : PyData} (h : Dp K H v d) : An K H v d
  | dict {p : Addr} (e : H p = some (.dK [])) : An K H (.ref p) (.dict [])
mutual
theorem dp_up {K : PySem.W.Frag} {H H' : Hp} (k : Same H H') : ∀ {v : V} {d : PyData}, Dp K H v d → Dp K H' v d
  | _, _, .non => .non
  | _, _, .bl b => .bl b
  | _, _, .int i => .int i
  | _, _, .str x => .str x
  | _, _, .lst h hs => .lst (k.seq h) (dpall_up k hs)
  | _, _, .tup h hs => .tup (by
      rcases h with (h | ⟨u, h⟩) | h
      · exact .inl (.inl (k _ _ h))
      · exact .inl (.inr ⟨u, k _ _ h⟩)
      · exact .inr h) (dpall_up k hs)
theorem dpall_up {K : PySem.W.Frag} {H H' : Hp} (k : Same H H') : ∀ {vs : List V} {ds : List PyData}, DpAll K H vs ds → DpAll K H' vs ds
  | _, _, .nil => .nil
  | _, _, .cons h hs => .cons (dp_up k h) (dpall_up k hs)
end
mutual
theorem dp_nodict {K : PySem.W.Frag} {H : Hp} : ∀ {v : V} {d : PyData}, Dp K H v d → d.hasDict = false
  | _, _, .non => rfl
  | _, _, .bl b => rfl
  | _, _, .int i => rfl
  | _, _, .str x => rfl
  | _, _, .lst _ hs => by simp only [PyData.hasDict]; exact dpall_nodict hs
  | _, _, .tup _ hs => by simp only [PyData.hasDict]; exact dpall_nodict hs
theorem dpall_nodict {K : PySem.W.Frag} {H : Hp} : ∀ {vs : List V} {ds : List PyData}, DpAll K H vs ds → PyData.hasDictAll ds = false
  | _, _, .nil => rfl
  | _, _, .cons h hs => by simp only [PyData.hasDictAll, dp_nodict h, dpall_nodict hs, Bool.or_self]
end
theorem dpall_len {K : PySem.W.Frag} {H : Hp} : ∀ {vs : List V} {ds : List PyData}, DpAll K H vs ds → vs.length = ds.length
  | _, _, .nil => rfl
  | _, _, .cons _ hs => congrArg Nat.succ (dpall_len hs)
theorem dpall_get {K : PySem.W.Frag} {H : Hp} : ∀ {vs : List V} {ds : List PyData}, DpAll K H vs ds → ∀ {i : Nat} {v : V}, vs[i]? = some v → ∃ d, ds[i]? = some d ∧ Dp K H v d
  | _, _, .nil, i, v, e => by simp at e
  | _, _, .cons h hs, 0, v, e => by
    simp at e
    subst e
    exact ⟨_, rfl, h⟩
  | _, _, .cons h hs, i + 1, v, e => dpall_get hs (i := i) (by simpa using e)
theorem An.up {K : PySem.W.Frag} {H H' : Hp} (k : Same H H') {v : V} {d : PyData} (h : An K H v d) : An K H' v d := by
  cases h with
  | dp h => exact .dp (dp_up k h)
  | dict e => exact .dict (k _ _ e)
def wholeD : PyData → Bool
  | .int _ => true
  | _ => false
def isTup : PyData → Bool
  | .tuple _ => true
  | _ => false
theorem sql_ty {K : PySem.W.Frag} {H : Hp} {p : Addr} {xs : List V} (h : SqL K H p xs) : TyX K H (.ref p) (.type "list") := by
  rcases h with (h | ⟨u, h⟩) | ⟨o, its, n, h1, h2, _⟩
  · exact .base (.lst h)
  · exact .base (.frz h)
  · exact .kList h1 h2
theorem sqt_tyA {K : PySem.W.Frag} {H : Hp} {p : Addr} {xs : List V} (h : SqT K H p xs) : TyX K H (.ref p) (.type "tuple") := by
  rcases h with (h | ⟨u, h⟩) | ⟨o, its, n, h1, h2, _⟩
  · exact .base (.tup h)
  · exact .fTuple h
  · exact .kTuple h1 h2
/-- what isinstance says -/
theorem An.is {K : PySem.W.Frag} {H : Hp} {v : V} {d : PyData} (h : An K H v d) : ∃ (t : Value) (i b c : Bool), TyX K H v t ∧ PySem.W.kitOne K t (.type "int") = some i ∧ PySem.W.kitOne K t (.type "bool") = some b ∧ PySem.W.kitOne K t (.type "tuple") = some c ∧ (i && !b) = wholeD d ∧ c = isTup d := by
  cases h with
  | dict e => exact ⟨_, false, false, false, .base (.dK e), kit_ty (by decide +kernel), kit_ty (by decide +kernel), kit_ty (by decide +kernel), rfl, rfl⟩
  | dp h =>
    cases h with
    | non => exact ⟨_, false, false, false, .base .non, kit_ty (by decide +kernel), kit_ty (by decide +kernel), kit_ty (by decide +kernel), rfl, rfl⟩
    | bl b => exact ⟨_, true, true, false, .base (.bl b), kit_ty (by decide +kernel), kit_ty (by decide +kernel), kit_ty (by decide +kernel), rfl, rfl⟩
    | int i => exact ⟨_, true, false, false, .base (.int i), kit_ty (by decide +kernel), kit_ty (by decide +kernel), kit_ty (by decide +kernel), rfl, rfl⟩
    | str x => exact ⟨_, false, false, false, .base (.str x), kit_ty (by decide +kernel), kit_ty (by decide +kernel), kit_ty (by decide +kernel), rfl, rfl⟩
    | lst h _ => exact ⟨_, false, false, false, sql_ty h, kit_ty (by decide +kernel), kit_ty (by decide +kernel), kit_ty (by decide +kernel), rfl, rfl⟩
    | tup h _ => exact ⟨_, false, false, true, sqt_tyA h, kit_ty (by decide +kernel), kit_ty (by decide +kernel), kit_ty (by decide +kernel), rfl, rfl⟩
/-- a tuple of data -/
theorem An.tup {K : PySem.W.Frag} {H : Hp} {v : V} {ds : List PyData} (h : An K H v (.tuple ds)) : ∃ p xs, v = .ref p ∧ SqT K H p xs ∧ DpAll K H xs ds := by
  cases h with
  | dp h =>
    cases h with
    | tup h hs => exact ⟨_, _, rfl, h, hs⟩
section
variable {X : Cx}
/-- repr of any of these -/
theorem call_reprA (gd : X.A.guards = some []) (hu : X.A.units + 66 < cLine) : CallR X (.builtin "repr") (fun xs H Q => ∃ (x : V) (d : PyData), xs = [x] ∧ An X.K H x d ∧ d.showable = true ∧ d.depth ≤ 64 ∧ d.shown.length ≤ sizeLine ∧ Q (.str d.shown) H) := by
  intro pins s σ H xs us Q I r h
  obtain ⟨x, d, rfl, ha, sh, dp, sz, q⟩ := h
  cases r with
  | cons r1 r2 =>
    cases r2
    cases ha with
    | dict e =>
      cases r1
      obtain ⟨hz, hS, vs, r, o, es, ep, h1, h2, h3, h4⟩ := (show ObjOk X.prog X.w H s.heap _ (.dK []) from I.hok _ _ e)
      cases r
      have hes : es.toList = [] := by
        have z := h4.2.1
        generalize es.toList = l at z
        cases z
        rfl
      have rd : Reads s.heap (.ref _) (.dict []) (_ :: [] ++ []) := Reads.dict (kvs := []) (as := []) (bs := []) h1 h2.1 h3 (by rw [hes]; exact .nil) (by rw [hes]; exact .nil)
      refine repr_of_reads' rd rfl (fun _ z => ?_) gd (by show X.A.units + (1 + 1) < cLine; omega) (fun _ _ z => z) (fun h' u tk z => ⟨.str _, H, I.kept z, ⟨_, rfl⟩, q⟩) sz
      simp at z
      simp [z] at hS
    | dp hd =>
      cases hd with
      | non =>
        cases r1
        exact PySem.P.repr_of_none ⟨.str _, H, I.tok _, ⟨_, rfl⟩, q⟩
      | bl b =>
        cases r1
        exact PySem.P.repr_of_bool ⟨.str _, H, I.tok _, ⟨_, rfl⟩, q⟩
      | int i =>
        obtain ⟨t, rfl⟩ := r1
        exact PySem.P.repr_of_int (of_decide_eq_true sh) ⟨.str _, H, I.tok _, ⟨_, rfl⟩, q⟩
      | str z =>
        obtain ⟨t, rfl⟩ := r1
        exact PySem.P.repr_of_str ⟨.str _, H, I.tok _, ⟨_, rfl⟩, q⟩ sz
      | lst h hs =>
        obtain ⟨as, rd⟩ := Dp.reads I _ _ _ (.lst h hs) r1
        cases r1
        exact repr_of_reads' rd sh (fun z => by rw [dp_nodict (.lst h hs)] at z; cases z) gd (by omega) (fun _ _ z => z) (fun h' u tk z => ⟨.str _, H, I.kept z, ⟨_, rfl⟩, q⟩) sz
      | tup h hs =>
        obtain ⟨as, rd⟩ := Dp.reads I _ _ _ (.tup h hs) r1
        cases r1
        exact repr_of_reads' rd sh (fun z => by rw [dp_nodict (.tup h hs)] at z; cases z) gd (by omega) (fun _ _ z => z) (fun h' u tk z => ⟨.str _, H, I.kept z, ⟨_, rfl⟩, q⟩) sz
/-- min of a tuple of ints -/
theorem cr_minT (hc : X.calm = true) : CallR X (.builtin "min") (fun vs H Q => ∃ (a : Addr) (ns : List Int), vs = [V.ref a] ∧ SqT X.K H a (ns.map V.int) ∧ 0 < ns.length ∧ ∀ m, m ∈ ns → (∀ y, y ∈ ns → m ≤ y) → Q (.int m) H) := by
  intro pins s σ H vs us Q I r h
  obtain ⟨a, ns, rfl, hs, hne, q⟩ := h
  obtain ⟨its, rv, ht, _⟩ := I.tuple hs
  rw [Vals.ref1 r]
  have hi : IntsAre its ns := rv.ints
  obtain ⟨xs, e⟩ := hi.allInts.items
  have hn : numsOf (intItems xs).toList = ns := by rw [← e]; exact hi.numsOf
  rw [nums_intItems] at hn
  subst hn
  rw [e] at ht
  have hsz : 0 < xs.size := by simpa using hne
  have ht' : s.heap.IsTuple a (intItems xs) := ht
  have hlt : a < s.heap.objs.size := by
    obtain ⟨_, z, _⟩ := ht'
    exact Heap.lt_size z
  have hsz1 : ∀ o, (s.heap.push o).objs.size = s.heap.objs.size + 1 := fun o => Heap.size_push ..
  refine call_min_walk (wpAny_pyIter_tuple ht' ⟨_, _, _, _, _, _, _, rfl, Walks.tuple (A := X.A.in1) (I.ok.hd hc) _ a (Nat.ne_of_lt hlt) (intItems xs), ⟨⟨_, Heap.get?_push_size _ rfl, rfl, rfl⟩, ?_⟩, ?_, by simpa [intItems] using hsz, CmpOf.ints_lt (numAt xs) (fun _ _ => intItems_at), ?_⟩)
  · obtain ⟨o, z1, z2⟩ := ht'
    exact ⟨o, Heap.get?_push_of_some _ z1, z2⟩
  · intro b hb
    show b < (s.heap.push _).objs.size
    rw [hsz1]
    rcases List.mem_cons.mp hb with rfl | hb
    · exact Nat.lt_succ_self _
    · rcases List.mem_cons.mp hb with rfl | hb
      · exact Nat.lt_succ_of_lt hlt
      · cases hb
  · intro v h' tk hP hk
    have hv : (intItems xs)[argBest (fun i j => decide (numAt xs i < numAt xs j)) (xs.size - 1)]? = some v := by simpa [intItems] using hP
    obtain ⟨t, rfl⟩ := intItems_at hv
    obtain ⟨h1, h2⟩ := argBest_lt (numAt xs) (xs.size - 1)
    have kept : ∀ b o, s.heap.get? b = some o → h'.get? b = some o := fun b o z => hk b o (by simpa using Nat.ne_of_lt (Heap.lt_size z)) (Heap.get?_push_of_some _ z)
    refine ⟨.int _, H, I.kept kept, ⟨_, rfl⟩, q _ ?_ ?_⟩
    · rw [numAt_eq]; exact PySem.getD_mem (by rw [List.length_map, Array.length_toList]; omega)
    · intro z hz
      obtain ⟨j, hj, rfl⟩ := mem_getD hz
      rw [List.length_map, Array.length_toList] at hj
      rw [← numAt_eq]; exact h2 j (by omega)
end
end
section
open PySem PySem.Spec PyProof.Rows L2
/-- t > u, t >= u of tuples of ints -/
def rCmpT (K : PySem.W.Frag) (r : Int → Int → Bool) (z : Nat → Nat → Bool) : R2 := fun x y H Q => ∃ (a b : Addr) (ns ms : List Int), x = .ref a ∧ y = .ref b ∧ SqT K H a (ns.map V.int) ∧ SqT K H b (ms.map V.int) ∧
  Q (.bl (Ob.lexAt (fun j => decide (ns.getD j 0 = ms.getD j 0)) (fun j => r (ns.getD j 0) (ms.getD j 0)) (z ns.length ms.length) 0 (min ns.length ms.length))) H
theorem vals_at : ∀ {ns : List Int} {us : List Value}, Vals (ns.map V.int) us → ns.length = us.length ∧ ∀ j (h : j < us.length), ∃ t, us[j] = .int (ns.getD j 0) t
  | [], _, .nil => ⟨rfl, fun j h => absurd h (Nat.not_lt_zero j)⟩
  | n :: r, _, .cons ⟨t, e⟩ q => by
    obtain ⟨l, f⟩ := vals_at (ns := r) q
    refine ⟨congrArg Nat.succ l, fun j h => ?_⟩
    cases j with
    | zero => exact ⟨t, e⟩
    | succ j => exact f j (Nat.lt_of_succ_lt_succ h)
/-- an order of tuples of ints out of the order of their items: tup lifts it, one is that of two ints -/
theorem op_cmpT {X : Cx} {op : CmpOp} {rr : Int → Int → Bool} {zz : Nat → Nat → Bool} (rich : ∀ v u, compareOp op v u = richCompare op v u)
    (tup : ∀ {s : Shared} {l b : Addr} {is js : Array Value} {e r : Nat → Bool}, s.heap.IsTuple l is → s.heap.IsTuple b js → (∀ j (h1 : j < is.size) (h2 : j < js.size), SeqAt.EqAt X.A.in1 s is[j] js[j] (e j)) →
      (∀ j (h1 : j < is.size) (h2 : j < js.size), e j = false → Ob.RcOp op X.A.in1 s is[j] js[j] (r j)) → Ob.RcOp op X.A s (.ref l) (.ref b) (Ob.lexAt e r (zz is.size js.size) 0 (min is.size js.size)))
    (one : ∀ {s : Shared} (a b : Int) (t u : Tok), Ob.RcOp op X.A.in1 s (.int a t) (.int b u) (rr a b)) : OpR X (compareOp op) (rCmpT X.K rr zz) := by
  rintro pins s σ H x y v u Q I rx ry ⟨a, b, ns, ms, rfl, rfl, ha, hb, q⟩
  cases rx
  cases ry
  obtain ⟨us, ru, tu, _⟩ := I.tuple ha
  obtain ⟨ws, rw', tw, _⟩ := I.tuple hb
  obtain ⟨lu, fu⟩ := vals_at ru
  obtain ⟨lw, fw⟩ := vals_at rw'
  have go := tup (e := fun j => decide (ns.getD j 0 = ms.getD j 0)) (r := fun j => rr (ns.getD j 0) (ms.getD j 0)) tu tw
    (fun j h1 h2 => by
      obtain ⟨t, et⟩ := fu j (by simpa using h1)
      obtain ⟨t', et'⟩ := fw j (by simpa using h2)
      have key : SeqAt.EqAt X.A.in1 s (.int (ns.getD j 0) t) (.int (ms.getD j 0) t') (ns.getD j 0 == ms.getD j 0) := SeqAt.EqAt.int_int _ _ _ _
      have same : (ns.getD j 0 == ms.getD j 0) = decide (ns.getD j 0 = ms.getD j 0) := rfl
      rw [same, ← et, ← et'] at key
      exact key)
    (fun j h1 h2 _ => by
      obtain ⟨t, et⟩ := fu j (by simpa using h1)
      obtain ⟨t', et'⟩ := fw j (by simpa using h2)
      have key := one (s := s) (ns.getD j 0) (ms.getD j 0) t t'
      rw [← et, ← et'] at key
      exact key)
  rw [List.size_toArray, List.size_toArray, ← lu, ← lw] at go
  rw [rich]
  exact go X.prog X.w X.xe _ ⟨.bl _, H, I, rfl, q⟩
theorem op_gtT {X : Cx} (hu : X.A.units < cLine) : OpR X (compareOp .Gt) (rCmpT X.K (fun a b => decide (b < a)) (fun n m => decide (n > m))) :=
  op_cmpT (fun _ _ => rfl) (fun h1 h2 he hr => Ob.RcOp.tuples_gt h1 h2 hu he hr) (fun a b t u => Ob.RcOp.gt_int a b t u)
theorem op_geT {X : Cx} (hu : X.A.units < cLine) : OpR X (compareOp .GtE) (rCmpT X.K (fun a b => decide (b ≤ a)) (fun n m => decide (n ≥ m))) :=
  op_cmpT (fun _ _ => rfl) (fun h1 h2 he hr => Ob.RcOp.tuples_ge h1 h2 hu he hr) (fun a b t u => Ob.RcOp.ge_int a b t u)
/-- len(x) by an own __len__, the built-in's own body -/
theorem len_body {P : Program} {w : World} {A : Around} {E : Value → Shared → Prop} {s : Shared} {K : PySem.W.Frag} {x C f : Addr} {ox : Obj} {od : Option Obj} {Q : Value → Shared → Prop} (X : K.In s.heap) (I : PySem.W.InstAt s.heap x ox C od)
    (hs : PySem.W.findIn K (.ref C) "__len__" = some (some (.ref f))) (hf : PySem.W.isFn K (.ref f) = true)
    (hcall : wpAny (model P w) A (call (.ref f) [.ref x]) (fun r s' => ∃ n u, r = .int n u ∧ 0 ≤ n ∧ n < 2 ^ 63 ∧ Q (.int n s'.toks) { s' with toks := s'.toks + 1 }) E s) :
    wpAny (model P w) A (Builtin.«len» ⟨[.ref x], []⟩) (fun fin s' => ∃ r, fin = .done (.ret r) ∧ Q r s') E s := by
  unfold Builtin.«len»
  refine wpAny_bind (m := oneArg "len" _) (wpAny_pure ?_)
  refine wpAny_bind (m := callSpecial? (.ref x) (Str.ofString "__len__")) (PySem.W.special_fn X I hs (beq_iff_eq.mp hf) (wpAny_mono hcall (fun r s' hr => ?_) fun _ _ y => y))
  obtain ⟨n, u, rfl, h0, h1, hq⟩ := hr
  refine wpAny_bind (wpAny_holding (wpAny_pure ?_))
  refine wpAny_bind (wpAny_letGo ?_)
  show wpAny _ _ (if n < 0 then _ else _) _ _ _
  rw [if_neg (by omega)]
  show wpAny _ _ (if n ≥ 2 ^ 63 then _ else _) _ _ _
  rw [if_neg (by omega)]
  exact wpAny_bind (wpAny_mkInt (wpAny_pure ⟨_, rfl, hq⟩))
/-- the truth of x by an own __len__ -/
theorem truthy_len {P : Program} {w : World} {A : Around} {E : Value → Shared → Prop} {s : Shared} {K : PySem.W.Frag} {x C f : Addr} {ox : Obj} {od : Option Obj} {Q : Bool → Shared → Prop} (X : K.In s.heap) (I : PySem.W.InstAt s.heap x ox C od)
    (hb : PySem.W.findIn K (.ref C) "__bool__" = some none) (hs : PySem.W.findIn K (.ref C) "__len__" = some (some (.ref f))) (hf : PySem.W.isFn K (.ref f) = true)
    (hcall : wpAny (model P w) A.in1 (call (.ref f) [.ref x]) (fun r s' => ∃ n u, r = .int n u ∧ 0 ≤ n ∧ n < 2 ^ 63 ∧ Q (n != 0) { s' with toks := s'.toks + 1 }) E s) :
    wpAny (model P w) A (truthy (.ref x)) Q E s := by
  have key : wpAny (model P w) A (runValue (.builtin "len" ⟨[.ref x], []⟩)) (fun r s' => ∃ n u, r = .int n u ∧ Q (n != 0) s') E s := by
    refine wpAny_runValue (codeAny_builtin entry_len ?_)
    rw [Around.under_plainId plain_len _]
    exact wpAny_mono (len_body (Q := fun r s' => ∃ n u, r = .int n u ∧ Q (n != 0) s') X I hs hf (wpAny_mono hcall (fun r s' hr => by
      obtain ⟨n, u, rfl, h0, h1, q⟩ := hr
      exact ⟨n, u, rfl, h0, h1, n, _, rfl, q⟩) fun _ _ e => e))
      (fun fin s' h' => by obtain ⟨r, rfl, hq⟩ := h'; exact hq) fun _ _ e => e
  unfold truthy
  refine wpAny_bind (m := callSpecial? (.ref x) (Str.ofString "__bool__")) (wpAny_bind (wpAny_bind (I.type.here ((PySem.W.looks_findIn X hb).here (wpAny_pure ?_)))))
  refine wpAny_bind (wpAny_bind (I.type.here ((PySem.W.looks_findIn X hs).here ?_)))
  exact wpAny_bind (wpAny_mono key (fun r s' h' => by obtain ⟨n, u, rfl, hq⟩ := h'; exact wpAny_pure hq) fun _ _ e => e)
section
variable {X : Cx} {CX : CXT} {n : Nat} {C f : Addr} {fd : FuncData} {ps : List Str} {sp : Sp} {E : XK}
/-- what the own __len__ must give -/
def lenQ (Q : Nat → Hp → Prop) : VK := fun v H' => ∃ k : Nat, v = .int k ∧ k < 1000000 ∧ Q k H'
theorem len_run (F : FnOk X.prog X.w X.K X.mg X.base CX n f fd ps sp) (hb : Binds X.K fd ps []) (hx : Passes CX X E) {A : Around} {pins : List (Addr × Obj)} {s : Shared} {σ : L2.St} {H : Hp} {a : Addr} {Q : Nat → Hp → Prop} {R : Value → Shared → Prop} (hA : Room n A) (fr : A.frames = X.A.frames) (I : Inv X pins σ H s)
    (hsp : sp [.ref a] H (lenQ Q) E) (hq : ∀ (k : Nat) (u : Tok) (s' : Shared) (H' : Hp), k < 1000000 → Inv X pins σ H' s' → Q k H' → R (.int k u) s') : wpAny (model X.prog X.w) A (call (.ref f) [.ref a]) R X.xe s := by
  have hl := F.len _ _ _ _ hsp
  have e0 : Env0 X.prog X.w X.K X.mg X.base A X.stack s H := by
    have e := I.env0
    exact ⟨by rw [fr]; exact e.frames, e.mod, e.bs, e.bsz, e.funs, e.frf, e.hok, e.bare⟩
  have bd := hb s [.ref a] I.kIn (by simpa using hl)
  rw [List.append_nil] at bd
  refine wpAny_call (codeAny_mono (F.run A X.stack s H ⟨[.ref a], []⟩ [.ref a] [.ref a] _ E hA e0 bd (.cons rfl .nil) hsp) ?_)
  intro r s' z
  cases r with
  | error e => exact hx pins σ H s e s' I z
  | ok fl =>
    cases fl with
    | ret u =>
      obtain ⟨v, H', I', rv, k, rfl, hk, q⟩ := I.after z
      obtain ⟨t, rfl⟩ := rv
      exact hq k t s' H' hk I' q
    | next => exact False.elim z
    | brk => exact False.elim z
    | cont => exact False.elim z
theorem call_lenOwn (F : FnOk X.prog X.w X.K X.mg X.base CX n f fd ps sp) (hr : Room n X.A.in1) (hs : PySem.W.findIn X.K (.ref C) "__len__" = some (some (.ref f))) (hf : PySem.W.isFn X.K (.ref f) = true) (hb : Binds X.K fd ps []) (hx : Passes CX X E) :
    CallR X (.builtin "len") (fun xs H Q => ∃ (a dx : Addr) (fs : List (Str × V)), xs = [.ref a] ∧ H a = some (.ins C dx fs) ∧ sp [.ref a] H (lenQ fun k H' => Q (.int k) H') E) := by
  intro pins s σ H xs us Q I r h
  obtain ⟨a, dx, fs, rfl, ha, hsp⟩ := h
  rw [Vals.ref1 r]
  obtain ⟨mA, J, _⟩ := ins_get I.hok ha
  obtain ⟨od, J, _⟩ := J.look
  refine Calls.call_function_entry kind_len plain_len entry_len (args_len1 _) ?_
  refine wpAny_mono (len_body (Q := fun v s' => EP X pins σ Q v s') I.kIn J hs hf (len_run F hb hx hr rfl I hsp fun k u s' H' hk I' q => ⟨k, u, rfl, by omega, by omega, .int k, H', I'.tok _, ⟨_, rfl⟩, q⟩)) (fun fin s' z => ?_) fun _ _ z => z
  obtain ⟨v, rfl, q⟩ := z
  exact ⟨v, rfl, q⟩
theorem tru_lenA (F : FnOk X.prog X.w X.K X.mg X.base CX n f fd ps sp) {A : Around} (hr : Room n A.in1) (fr : A.in1.frames = X.A.frames) (hn : PySem.W.findIn X.K (.ref C) "__bool__" = some none) (hs : PySem.W.findIn X.K (.ref C) "__len__" = some (some (.ref f))) (hf : PySem.W.isFn X.K (.ref f) = true) (hb : Binds X.K fd ps []) (hx : Passes CX X E)
    {pins : List (Addr × Obj)} {s : Shared} {σ : L2.St} {H : Hp} {a dx : Addr} {fs : List (Str × V)} {Q : Bool → Hp → Prop} (I : Inv X pins σ H s) (ha : H a = some (.ins C dx fs)) (hsp : sp [.ref a] H (lenQ fun k H' => Q (decide (k ≠ 0)) H') E) :
    wpAny (model X.prog X.w) A (truthy (.ref a)) (TP X pins σ Q) X.xe s := by
  obtain ⟨mA, J, _⟩ := ins_get I.hok ha
  obtain ⟨od, J, _⟩ := J.look
  refine truthy_len I.kIn J hn hs hf (len_run F hb hx hr fr I hsp fun k u s' H' hk I' q => ⟨k, u, rfl, by omega, by omega, H', I'.tok _, ?_⟩)
  have e : ((k : Int) != 0) = decide (k ≠ 0) := by
    by_cases z : k = 0
    · subst z; rfl
    · rw [decide_eq_true z]
      exact bne_iff_ne.mpr (by omega)
  rw [e]
  exact q
theorem tru_len (F : FnOk X.prog X.w X.K X.mg X.base CX n f fd ps sp) (hr : Room n X.A.in1) (hn : PySem.W.findIn X.K (.ref C) "__bool__" = some none) (hs : PySem.W.findIn X.K (.ref C) "__len__" = some (some (.ref f))) (hf : PySem.W.isFn X.K (.ref f) = true) (hb : Binds X.K fd ps []) (hx : Passes CX X E) :
    TruR X (fun x H Q => ∃ (a dx : Addr) (fs : List (Str × V)), x = .ref a ∧ H a = some (.ins C dx fs) ∧ sp [.ref a] H (lenQ fun k H' => Q (decide (k ≠ 0)) H') E) := by
  intro pins s σ H x v Q I rx h
  obtain ⟨a, dx, fs, rfl, ha, hsp⟩ := h
  cases rx
  exact tru_lenA F hr rfl hn hs hf hb hx I ha hsp
theorem meets_bool_own {prog : Program} {w : World} (x : Addr) : MeetsIn prog w (Builtin.«bool.__new__» ⟨[.type "bool", .ref x], []⟩) (fun A R s => wpAny (model prog w) A.in1 (truthy (.ref x)) (fun b s' => R (.ok (.ret (.bool b))) s') (fun e s' => R (.error e) s') s) := by
  intro A R s hs
  obtain ⟨hp, g, d, tk, os⟩ := s
  have f1 := PySem.F.conv_sub_bool
  repeat (any_goals (first | assumption | (with_reducible refine wpAny_mono hs (fun b s' z => ?_) (fun _ _ z => z)) | wp_step))
/-- bool(o) -/
theorem call_boolLen (F : FnOk X.prog X.w X.K X.mg X.base CX n f fd ps sp) (hr : Room n X.A.in1.in1.in1) (hn : PySem.W.findIn X.K (.ref C) "__bool__" = some none) (hs : PySem.W.findIn X.K (.ref C) "__len__" = some (some (.ref f))) (hf : PySem.W.isFn X.K (.ref f) = true) (hb : Binds X.K fd ps []) (hx : Passes CX X E) :
    CallR X (.type "bool") (fun xs H Q => ∃ (a dx : Addr) (fs : List (Str × V)), xs = [.ref a] ∧ H a = some (.ins C dx fs) ∧ sp [.ref a] H (lenQ fun k H' => Q (.bl (decide (k ≠ 0))) H') E) := by
  intro pins s σ H xs us Q I r h
  obtain ⟨a, dx, fs, rfl, ha, hsp⟩ := h
  rw [Vals.ref1 r]
  refine callType_newIn PySem.F.called_bool PySem.F.newNe_bool (PySem.F.typeCall_bool_1 _) (PySem.F.newCall_bool_1 _) (fun obj => PySem.F.args_object_init_2 obj _) PySem.F.entry_bool_new (meets_bool_own a) ?_
  refine wpAny_mono (tru_lenA F hr rfl hn hs hf hb hx (Q := fun b H' => Q (.bl b) H') I ha hsp) (fun b s' z => ?_) fun _ _ z => z
  obtain ⟨H', I', q⟩ := z
  exact ⟨rfl, .bl b, H', I', rfl, q⟩
/-- not o -/
theorem pe_notLen {a : Expr} {ta : TE} {pos : Pos} {r : V → Hp → (Bool → Hp → Prop) → Prop} (tr : TruR X r) (ha : PE X a ta) : PE X (.UnaryOp .Not a pos) (fun σ H Q => ta σ H fun x H1 => r x H1 fun k H2 => Q (.bl (!k)) H2) := by
  refine ⟨fun pins s σ H Q I h => ?_⟩
  refine UnaryOp_ (thn (ha.run pins s σ H _ I h) fun v s1 ⟨x, H1, I1, r1, q1⟩ => ?_)
  exact not_of (thn (tr pins s1 σ H1 x v (fun c H2 => Q (.bl (!c)) H2) I1 r1 q1) fun c s2 ⟨H2, I2, q2⟩ => ⟨.bl (!c), H2, I2, rfl, q2⟩)
end
end
section
open PySem PySem.Spec PyProof.Rows L2
def isStr : PyData → Bool
  | .str _ => true
  | _ => false
theorem An.isS {K : PySem.W.Frag} {H : Hp} {v : V} {d : PyData} (h : An K H v d) : ∃ (t : Value) (b : Bool), TyX K H v t ∧ PySem.W.kitOne K t (.type "str") = some b ∧ b = isStr d := by
  cases h with
  | dict e => exact ⟨_, false, .base (.dK e), kit_ty (by decide +kernel), rfl⟩
  | dp h =>
    cases h with
    | non => exact ⟨_, false, .base .non, kit_ty (by decide +kernel), rfl⟩
    | bl b => exact ⟨_, false, .base (.bl b), kit_ty (by decide +kernel), rfl⟩
    | int i => exact ⟨_, false, .base (.int i), kit_ty (by decide +kernel), rfl⟩
    | str x => exact ⟨_, true, .base (.str x), kit_ty (by decide +kernel), rfl⟩
    | lst h _ => exact ⟨_, false, sql_ty h, kit_ty (by decide +kernel), rfl⟩
    | tup h _ => exact ⟨_, false, sqt_tyA h, kit_ty (by decide +kernel), rfl⟩
theorem An.str {K : PySem.W.Frag} {H : Hp} {v : V} {z : Str} (h : An K H v (.str z)) : v = .str z := by
  cases h with
  | dp h =>
    cases h with
    | str x => rfl
theorem nostr {d : PyData} (h : isStr d = false) : ∀ z, d ≠ .str z := fun z e => by
  subst e
  cases h
theorem isstr {d : PyData} (h : isStr d = true) : ∃ z, d = .str z := by
  cases d <;> first | exact ⟨_, rfl⟩ | (exact absurd h (by simp [isStr]))
end

def top (i : Nat) : Stmt := PySem.Challenge.pw_stampedwait_k17_whole_what_was_read_stay.main.body.getD i (.Pass ⟨0, 0, 0, 0⟩)
abbrev s_is_whole : Stmt := top 9
abbrev s_is_row_of_whole : Stmt := top 10
abbrev s_is_stamp : Stmt := top 11
abbrev s_is_key : Stmt := top 16
abbrev s_is_worth : Stmt := top 17
abbrev s_refuse_no_key : Stmt := top 18
abbrev s_refuse_no_time : Stmt := top 19
abbrev s_many_up_to : Stmt := top 20
abbrev s_Shelf___init__ : Stmt := inClass (top 21) 0
abbrev s_Shelf_row_of : Stmt := inClass (top 21) 1
abbrev s_Shelf_make_own : Stmt := inClass (top 21) 2
abbrev s_Shelf_put : Stmt := inClass (top 21) 3
abbrev s_Shelf_versions : Stmt := inClass (top 21) 5
abbrev s_Shelf_all_keys : Stmt := inClass (top 21) 6
abbrev s_Shelf_newest : Stmt := inClass (top 21) 7
abbrev s_Shelf_refuse_gone : Stmt := inClass (top 21) 10
abbrev s_Shelf_at : Stmt := inClass (top 21) 8
abbrev s_Shelf___len__ : Stmt := inClass (top 21) 14
abbrev s_Shelf_let_go : Stmt := inClass (top 21) 4
abbrev s_Shelf_parts : Stmt := inClass (top 21) 11
abbrev s_Shelf_put_parts : Stmt := inClass (top 21) 12
abbrev s_Shelf_twin : Stmt := inClass (top 21) 13
abbrev s_l_begun : Stmt := top 23
abbrev s_l_take : Stmt := top 24
abbrev s_l_key : Stmt := top 25
abbrev s_l_worth : Stmt := top 26
abbrev s_l_again : Stmt := top 27
abbrev s_l_all : Stmt := top 28
abbrev s_law : Stmt := top 29
theorem sc_is_whole : FnScope ["thing"] ["thing"] (defScope s_is_whole) := ⟨rfl, rfl, rfl, by decide +kernel, rfl, by decide +kernel, by decide +kernel⟩
theorem sc_is_row_of_whole : FnScope ["thing", "least", "most", "part"] ["thing", "least", "most"] (defScope s_is_row_of_whole) := ⟨rfl, rfl, rfl, by decide +kernel, rfl, by decide +kernel, by decide +kernel⟩
theorem sc_is_stamp : FnScope ["thing"] ["thing"] (defScope s_is_stamp) := ⟨rfl, rfl, rfl, by decide +kernel, rfl, by decide +kernel, by decide +kernel⟩
theorem sc_is_key : FnScope ["thing"] ["thing"] (defScope s_is_key) := ⟨rfl, rfl, rfl, by decide +kernel, rfl, by decide +kernel, by decide +kernel⟩
theorem sc_is_worth : FnScope ["thing"] ["thing"] (defScope s_is_worth) := ⟨rfl, rfl, rfl, by decide +kernel, rfl, by decide +kernel, by decide +kernel⟩
theorem sc_refuse_no_key : FnScope ["thing"] ["thing"] (defScope s_refuse_no_key) := ⟨rfl, rfl, rfl, by decide +kernel, rfl, by decide +kernel, by decide +kernel⟩
theorem sc_refuse_no_time : FnScope ["thing"] ["thing"] (defScope s_refuse_no_time) := ⟨rfl, rfl, rfl, by decide +kernel, rfl, by decide +kernel, by decide +kernel⟩
theorem sc_many_up_to : FnScope ["row", "time", "least", "most", "middle"] ["row", "time"] (defScope s_many_up_to) := ⟨rfl, rfl, rfl, by decide +kernel, rfl, by decide +kernel, by decide +kernel⟩
theorem sc_Shelf___init__ : FnScope ["self"] ["self"] (defScope s_Shelf___init__) := ⟨rfl, rfl, rfl, by decide +kernel, rfl, by decide +kernel, by decide +kernel⟩
theorem sc_Shelf_row_of : FnScope ["self", "key"] ["self", "key"] (defScope s_Shelf_row_of) := ⟨rfl, rfl, rfl, by decide +kernel, rfl, by decide +kernel, by decide +kernel⟩
theorem sc_Shelf_make_own : FnScope ["self"] ["self"] (defScope s_Shelf_make_own) := ⟨rfl, rfl, rfl, by decide +kernel, rfl, by decide +kernel, by decide +kernel⟩
theorem sc_Shelf_put : FnScope ["self", "key", "stamp", "worth", "row"] ["self", "key", "stamp", "worth"] (defScope s_Shelf_put) := ⟨rfl, rfl, rfl, by decide +kernel, rfl, by decide +kernel, by decide +kernel⟩
theorem sc_Shelf_versions : FnScope ["self", "key"] ["self", "key"] (defScope s_Shelf_versions) := ⟨rfl, rfl, rfl, by decide +kernel, rfl, by decide +kernel, by decide +kernel⟩
theorem sc_Shelf_all_keys : FnScope ["self"] ["self"] (defScope s_Shelf_all_keys) := ⟨rfl, rfl, rfl, by decide +kernel, rfl, by decide +kernel, by decide +kernel⟩
theorem sc_Shelf_newest : FnScope ["self", "key", "row"] ["self", "key"] (defScope s_Shelf_newest) := ⟨rfl, rfl, rfl, by decide +kernel, rfl, by decide +kernel, by decide +kernel⟩
theorem sc_Shelf_refuse_gone : FnScope ["self", "time"] ["self", "time"] (defScope s_Shelf_refuse_gone) := ⟨rfl, rfl, rfl, by decide +kernel, rfl, by decide +kernel, by decide +kernel⟩
theorem sc_Shelf_at : FnScope ["self", "key", "time", "row", "many"] ["self", "key", "time"] (defScope s_Shelf_at) := ⟨rfl, rfl, rfl, by decide +kernel, rfl, by decide +kernel, by decide +kernel⟩
theorem sc_Shelf___len__ : FnScope ["self", "row", "pair"] ["self"] (defScope s_Shelf___len__) := ⟨rfl, rfl, rfl, by decide +kernel, rfl, by decide +kernel, by decide +kernel⟩
theorem sc_Shelf_let_go : FnScope ["self", "time", "key", "elder"] ["self", "time"] (defScope s_Shelf_let_go) := ⟨rfl, rfl, rfl, by decide +kernel, rfl, by decide +kernel, by decide +kernel⟩
theorem sc_Shelf_parts : FnScope ["self"] ["self"] (defScope s_Shelf_parts) := ⟨rfl, rfl, rfl, by decide +kernel, rfl, by decide +kernel, by decide +kernel⟩
theorem sc_Shelf_put_parts : FnScope ["self", "parts"] ["self", "parts"] (defScope s_Shelf_put_parts) := ⟨rfl, rfl, rfl, by decide +kernel, rfl, by decide +kernel, by decide +kernel⟩
theorem sc_Shelf_twin : FnScope ["self", "other"] ["self"] (defScope s_Shelf_twin) := ⟨rfl, rfl, rfl, by decide +kernel, rfl, by decide +kernel, by decide +kernel⟩
theorem sc_l_begun : FnScope ["_law_script", "_law_k", "_law_cell", "_law_number", "_law_mixed"] ["_law_script", "_law_k"] (defScope s_l_begun) := ⟨rfl, rfl, rfl, by decide +kernel, rfl, by decide +kernel, by decide +kernel⟩
theorem sc_l_take : FnScope ["_law_state", "_law_many", "_law_digit", "_law_made", "_law_turn"] ["_law_state", "_law_many"] (defScope s_l_take) := ⟨rfl, rfl, rfl, by decide +kernel, rfl, by decide +kernel, by decide +kernel⟩
theorem sc_l_key : FnScope ["_law_state"] ["_law_state"] (defScope s_l_key) := ⟨rfl, rfl, rfl, by decide +kernel, rfl, by decide +kernel, by decide +kernel⟩
theorem sc_l_worth : FnScope ["_law_state", "_law_sizes", "_law_found", "_law_turn"] ["_law_state"] (defScope s_l_worth) := ⟨rfl, rfl, rfl, by decide +kernel, rfl, by decide +kernel, by decide +kernel⟩
theorem sc_l_again : FnScope ["_law_shelf", "_law_seen", "_law_one"] ["_law_shelf", "_law_seen"] (defScope s_l_again) := ⟨rfl, rfl, rfl, by decide +kernel, rfl, by decide +kernel, by decide +kernel⟩
theorem sc_l_all : FnScope ["_law_shelf", "_law_key_here"] ["_law_shelf"] (defScope s_l_all) := ⟨rfl, rfl, rfl, by decide +kernel, rfl, by decide +kernel, by decide +kernel⟩
theorem sc_law : FnScope ["_law_script", "_law_shelf", "_law_seen", "_law_time", "_law_serial", "_law_twin", "_law_early", "_law_stood", "_law_k", "_law_state", "_law_key_here", "_law_held", "_law_text", "_law_turn", "_law_read", "_law_when", "_law_kept", "_law_one"] ["_law_script"] (defScope s_law) := ⟨rfl, rfl, rfl, by decide +kernel, rfl, by decide +kernel, by decide +kernel⟩
/-- what the top has written -/
structure Txt (K : PySem.W.Frag) (mg : Str → Option Value) (a : Nat → Addr) (d : Nat → FuncData) : Prop where
  g_is_whole : mg "is_whole" = some (.ref (a 0))
  F_is_whole : Fun K "is_whole" "is_whole" s_is_whole (a 0) (d 0)
  b_is_whole : Binds K (d 0) ["thing"] []
  g_is_row_of_whole : mg "is_row_of_whole" = some (.ref (a 1))
  F_is_row_of_whole : Fun K "is_row_of_whole" "is_row_of_whole" s_is_row_of_whole (a 1) (d 1)
  b_is_row_of_whole : Binds K (d 1) ["thing", "least", "most"] []
  g_is_stamp : mg "is_stamp" = some (.ref (a 2))
  F_is_stamp : Fun K "is_stamp" "is_stamp" s_is_stamp (a 2) (d 2)
  b_is_stamp : Binds K (d 2) ["thing"] []
  g_is_key : mg "is_key" = some (.ref (a 3))
  F_is_key : Fun K "is_key" "is_key" s_is_key (a 3) (d 3)
  b_is_key : Binds K (d 3) ["thing"] []
  g_is_worth : mg "is_worth" = some (.ref (a 4))
  F_is_worth : Fun K "is_worth" "is_worth" s_is_worth (a 4) (d 4)
  b_is_worth : Binds K (d 4) ["thing"] []
  g_refuse_no_key : mg "refuse_no_key" = some (.ref (a 5))
  F_refuse_no_key : Fun K "refuse_no_key" "refuse_no_key" s_refuse_no_key (a 5) (d 5)
  b_refuse_no_key : Binds K (d 5) ["thing"] []
  g_refuse_no_time : mg "refuse_no_time" = some (.ref (a 6))
  F_refuse_no_time : Fun K "refuse_no_time" "refuse_no_time" s_refuse_no_time (a 6) (d 6)
  b_refuse_no_time : Binds K (d 6) ["thing"] []
  g_many_up_to : mg "many_up_to" = some (.ref (a 7))
  F_many_up_to : Fun K "many_up_to" "many_up_to" s_many_up_to (a 7) (d 7)
  b_many_up_to : Binds K (d 7) ["row", "time"] []
  F_Shelf___init__ : Fun K "__init__" "Shelf.__init__" s_Shelf___init__ (a 8) (d 8)
  b_Shelf___init__ : Binds K (d 8) ["self"] []
  m_Shelf___init__ : Mk K (a 29) (a 8)
  F_Shelf_row_of : Fun K "row_of" "Shelf.row_of" s_Shelf_row_of (a 9) (d 9)
  b_Shelf_row_of : Binds K (d 9) ["self", "key"] []
  m_Shelf_row_of : Meth K (a 29) "row_of" (a 9)
  F_Shelf_make_own : Fun K "make_own" "Shelf.make_own" s_Shelf_make_own (a 10) (d 10)
  b_Shelf_make_own : Binds K (d 10) ["self"] []
  m_Shelf_make_own : Meth K (a 29) "make_own" (a 10)
  F_Shelf_put : Fun K "put" "Shelf.put" s_Shelf_put (a 11) (d 11)
  b_Shelf_put : Binds K (d 11) ["self", "key", "stamp", "worth"] []
  m_Shelf_put : Meth K (a 29) "put" (a 11)
  F_Shelf_versions : Fun K "versions" "Shelf.versions" s_Shelf_versions (a 12) (d 12)
  b_Shelf_versions : Binds K (d 12) ["self", "key"] []
  m_Shelf_versions : Meth K (a 29) "versions" (a 12)
  F_Shelf_all_keys : Fun K "all_keys" "Shelf.all_keys" s_Shelf_all_keys (a 13) (d 13)
  b_Shelf_all_keys : Binds K (d 13) ["self"] []
  m_Shelf_all_keys : Meth K (a 29) "all_keys" (a 13)
  F_Shelf_newest : Fun K "newest" "Shelf.newest" s_Shelf_newest (a 14) (d 14)
  b_Shelf_newest : Binds K (d 14) ["self", "key"] []
  m_Shelf_newest : Meth K (a 29) "newest" (a 14)
  F_Shelf_refuse_gone : Fun K "refuse_gone" "Shelf.refuse_gone" s_Shelf_refuse_gone (a 15) (d 15)
  b_Shelf_refuse_gone : Binds K (d 15) ["self", "time"] []
  m_Shelf_refuse_gone : Meth K (a 29) "refuse_gone" (a 15)
  F_Shelf_at : Fun K "at" "Shelf.at" s_Shelf_at (a 16) (d 16)
  b_Shelf_at : Binds K (d 16) ["self", "key", "time"] []
  m_Shelf_at : Meth K (a 29) "at" (a 16)
  F_Shelf___len__ : Fun K "__len__" "Shelf.__len__" s_Shelf___len__ (a 17) (d 17)
  b_Shelf___len__ : Binds K (d 17) ["self"] []
  m_Shelf___len__ : Meth K (a 29) "__len__" (a 17)
  F_Shelf_let_go : Fun K "let_go" "Shelf.let_go" s_Shelf_let_go (a 18) (d 18)
  b_Shelf_let_go : Binds K (d 18) ["self", "time"] []
  m_Shelf_let_go : Meth K (a 29) "let_go" (a 18)
  F_Shelf_parts : Fun K "parts" "Shelf.parts" s_Shelf_parts (a 19) (d 19)
  b_Shelf_parts : Binds K (d 19) ["self"] []
  m_Shelf_parts : Meth K (a 29) "parts" (a 19)
  F_Shelf_put_parts : Fun K "put_parts" "Shelf.put_parts" s_Shelf_put_parts (a 20) (d 20)
  b_Shelf_put_parts : Binds K (d 20) ["self", "parts"] []
  m_Shelf_put_parts : Meth K (a 29) "put_parts" (a 20)
  F_Shelf_twin : Fun K "twin" "Shelf.twin" s_Shelf_twin (a 21) (d 21)
  b_Shelf_twin : Binds K (d 21) ["self"] []
  m_Shelf_twin : Meth K (a 29) "twin" (a 21)
  g_l_begun : mg "_law_begun" = some (.ref (a 22))
  F_l_begun : Fun K "_law_begun" "_law_begun" s_l_begun (a 22) (d 22)
  b_l_begun : Binds K (d 22) ["_law_script", "_law_k"] []
  g_l_take : mg "_law_take" = some (.ref (a 23))
  F_l_take : Fun K "_law_take" "_law_take" s_l_take (a 23) (d 23)
  b_l_take : Binds K (d 23) ["_law_state", "_law_many"] []
  g_l_key : mg "_law_key" = some (.ref (a 24))
  F_l_key : Fun K "_law_key" "_law_key" s_l_key (a 24) (d 24)
  b_l_key : Binds K (d 24) ["_law_state"] []
  g_l_worth : mg "_law_worth" = some (.ref (a 25))
  F_l_worth : Fun K "_law_worth" "_law_worth" s_l_worth (a 25) (d 25)
  b_l_worth : Binds K (d 25) ["_law_state"] []
  g_l_again : mg "_law_again" = some (.ref (a 26))
  F_l_again : Fun K "_law_again" "_law_again" s_l_again (a 26) (d 26)
  b_l_again : Binds K (d 26) ["_law_shelf", "_law_seen"] []
  g_l_all : mg "_law_all" = some (.ref (a 27))
  F_l_all : Fun K "_law_all" "_law_all" s_l_all (a 27) (d 27)
  b_l_all : Binds K (d 27) ["_law_shelf"] []
  g_law : mg "law" = some (.ref (a 28))
  F_law : Fun K "law" "law" s_law (a 28) (d 28)
  b_law : Binds K (d 28) ["_law_script"] []
  g_Shelf : mg "Shelf" = some (.ref (a 29))
  cl : Cls K (a 29)
  n_rows : NoAttr K (a 29) "rows"
  n_let_go_to : NoAttr K (a 29) "let_go_to"
  n_lent : NoAttr K (a 29) "lent"
  n_own_rows : NoAttr K (a 29) "own_rows"
  n___bool__ : NoAttr K (a 29) "__bool__"
  g_LETTERS : ∃ t, mg "LETTERS" = some (.str "abcdefghijklmnopqrstuvwxyz" t)
  g_MOST_LETTERS : ∃ t, mg "MOST_LETTERS" = some (.int (6) t)
  g_MOST_FIELDS : ∃ t, mg "MOST_FIELDS" = some (.int (4) t)
  z_max : mg "max" = none
  z_min : mg "min" = none
  z_len : mg "len" = none
  z_int : mg "int" = none
  z_range : mg "range" = none
  z_isinstance : mg "isinstance" = none
  z_bool : mg "bool" = none
  z_tuple : mg "tuple" = none
  z_all : mg "all" = none
  z_repr : mg "repr" = none
  z_list : mg "list" = none
  z_str : mg "str" = none
  z_sorted : mg "sorted" = none
  z_sum : mg "sum" = none
  z_dict : mg "dict" = none

/-- a state of draws stands at s -/
def StAt (H : Hp) (s : Addr) : Prop := ∃ (a b : Int) (c : Bool), H s = some (.lst [.int a, .int b, .bl c]) ∧ 0 ≤ b ∧ b < 2147483647
/-- all else that was tracked stands; at s a state -/
def Kp (s : Addr) (H H' : Hp) : Prop := (∀ b o, b ≠ s → H b = some o → H' b = some o) ∧ StAt H' s
theorem StAt.kp {H : Hp} {s : Addr} (h : StAt H s) : Kp s H H := ⟨fun _ _ _ e => e, h⟩
theorem Kp.trans {s : Addr} {H H1 H2 : Hp} (a : Kp s H H1) (b : Kp s H1 H2) : Kp s H H2 := ⟨fun c o n e => b.1 c o n (a.1 c o n e), b.2⟩
theorem StAt.ne_new {H : Hp} {s p : Addr} (h : StAt H s) (hp : H p = none) : p ≠ s := by
  obtain ⟨a, b, c, e, _⟩ := h
  exact (ne_of_none e hp).symm
theorem StAt.new {H : Hp} {s p : Addr} {o : HO} (h : StAt H s) (hp : H p = none) : StAt (upd H p o) s := by
  obtain ⟨a, b, c, e, r⟩ := h
  exact ⟨a, b, c, by rw [upd_ne (ne_of_none e hp)]; exact e, r⟩
theorem Kp.new {s p : Addr} {H H1 : Hp} {o : HO} (k : Kp s H H1) (hp : H1 p = none) : Kp s H (upd H1 p o) :=
  ⟨fun b u n e => by rw [upd_ne (ne_of_none (k.1 b u n e) hp)]; exact k.1 b u n e, k.2.new hp⟩
theorem StAt.ne_tup {H : Hp} {s p : Addr} {xs : List V} (h : StAt H s) (hp : H p = some (.tup xs)) : p ≠ s := by
  obtain ⟨a, b, c, e, _⟩ := h
  exact ne_of hp e (by intro q; cases q)
theorem Kp.tup {s p : Addr} {H H1 : Hp} {xs : List V} (k : Kp s H H1) (h0 : StAt H s) (hp : H p = some (.tup xs)) : H1 p = some (.tup xs) := k.1 p _ (h0.ne_tup hp) hp
theorem Kp.free {s p : Addr} {H H1 : Hp} (k : Kp s H H1) (h0 : StAt H s) (hp : H1 p = none) : H p = none := by
  cases e : H p with
  | none => rfl
  | some o =>
    have z := k.1 p o (k.2.ne_new hp) e
    rw [hp] at z
    cases z
theorem Kp.same {s : Addr} {H0 H H1 : Hp} (a : Same H0 H) (hs : H0 s = none) (k : Kp s H H1) : Same H0 H1 := fun b o e => k.1 b o (ne_of_none e hs) (a b o e)
theorem same_new {H0 H : Hp} {p : Addr} {o : HO} (a : Same H0 H) (hp : H p = none) : Same H0 (upd H p o) := fun b u e => by
  rw [upd_ne (ne_of_none (a b u e) hp)]
  exact a b u e
theorem m64 {i : Int} (a : -18446744073709551616 < i) (b : i < 18446744073709551616) : -(2 ^ 64) < i ∧ i < 2 ^ 64 := by
  have e : (2 : Int) ^ 64 = 18446744073709551616 := by decide
  rw [e]
  exact ⟨a, b⟩
theorem divW {i j : Int} (h : 0 < j) (hb : j < 2 ^ 2000) : CDivW i j := wide_div (b := 2000) h (by
  have e : (j.natAbs : Int) = j := by omega
  have q : (j.natAbs : Int) < ((2 ^ 2000 : Nat) : Int) := by rw [e]; exact hb
  exact Int.ofNat_lt.mp q) (by decide) (by decide)
theorem p2000 {j : Int} (h : j ≤ 1000000000000000000000000000000) : j < 2 ^ 2000 := Int.lt_of_le_of_lt h (by decide)
theorem cell_at (ns : List Int) (lo hi : Option Int) : ∃ c : Int, atI (cutV (ns.map V.int) lo hi ++ [V.int 0]) 0 = some (V.int c) := by
  unfold cutV
  rw [← List.map_drop, ← List.map_take]
  generalize ((List.drop _ ns).take _) = l
  cases l with
  | nil => exact ⟨0, rfl⟩
  | cons x xs => exact ⟨x, atI_nat (j := 0) rfl⟩
theorem cut_len (xs : List V) (lo hi : Option Int) : (cutV xs lo hi).length ≤ xs.length := by
  unfold cutV
  rw [List.length_take, List.length_drop]
  omega
theorem bl_of {Q : VK} {H : Hp} {c : Prop} [Decidable c] (h : c) (q : Q (.bl true) H) : Q (.bl (decide c)) H := by
  rw [decide_eq_true h]
  exact q
theorem iteDT {c A B : Prop} [Decidable c] (h : c) (a : A) : if decide c = true then A else B := by
  rw [if_pos (decide_eq_true h)]
  exact a
theorem iteDF {c A B : Prop} [Decidable c] (h : ¬ c) (b : B) : if decide c = true then A else B := by
  rw [decide_eq_false h]
  exact iteF b
theorem iteND {c A B : Prop} [Decidable c] (h : ¬ c) (a : A) : if (!decide c) = true then A else B := by
  rw [decide_eq_false h]
  exact iteT a
theorem len3 : 3 ≤ sizeLine := by decide
theorem len2 : 2 ≤ sizeLine := by decide
theorem len1 : 1 ≤ sizeLine := by decide
def spBegun (K : PySem.W.Frag) : Sp := fun vs H Q _ => ∃ (l : Addr) (ns : List Int) (k : Int), vs = [.ref l, .int k] ∧ SqL K H l (ns.map V.int) ∧ ns.length ≤ 63 ∧ 0 ≤ k ∧ k ≤ 100 ∧ ∀ (p : Addr) (H' : Hp), H p = none → Same H H' → StAt H' p → Q (.ref p) H'
def spTake : Sp := fun vs H Q _ => ∃ (s : Addr) (m : Int), vs = [.ref s, .int m] ∧ StAt H s ∧ 0 < m ∧ m ≤ 1000000000000000000000000000000 ∧ ∀ (r : Int) (H' : Hp), 0 ≤ r → r < m → Kp s H H' → Q (.int r) H'
theorem bl_no {Q : VK} {H : Hp} {c : Prop} [Decidable c] (h : ¬ c) (q : Q (.bl false) H) : Q (.bl (decide c)) H := by
  rw [decide_eq_false h]
  exact q
theorem iteBT {c : Bool} {A B : Prop} (h : c = true) (a : A) : if c = true then A else B := by
  rw [if_pos h]
  exact a
theorem iteBF {c : Bool} {A B : Prop} (h : c = false) (b : B) : if c = true then A else B := by
  rw [h]
  exact iteF b
theorem bq {Q : VK} {H : Hp} {b c : Bool} (e : b = c) (q : Q (.bl b) H) : Q (.bl c) H := e ▸ q
theorem istup {d : PyData} (h : isTup d = true) : ∃ ds, d = .tuple ds := by
  cases d <;> first | exact ⟨_, rfl⟩ | (exact absurd h (by simp [isTup]))
/-! ### texts -/
/-- a short text of plain signs -/
structure Sh (n : Nat) (z : Str) : Prop where
  ln : z.cps.toList.length ≤ n
  as : ∀ c ∈ z.cps.toList, c < 128
def ltr (c : Nat) : Bool := decide (97 ≤ c) && decide (c ≤ 122)
theorem Sh.up {n m : Nat} {z : Str} (h : Sh n z) (e : n ≤ m) : Sh m z := ⟨Nat.le_trans h.ln e, h.as⟩
theorem Sh.len {n : Nat} {z : Str} (h : Sh n z) : z.length ≤ n := by
  have z := h.ln
  rw [Array.length_toList] at z
  exact z
theorem app_tl (x y : Str) : (x ++ y).cps.toList = x.cps.toList ++ y.cps.toList := TL.tl_append x y
theorem Sh.app {n m : Nat} {x y : Str} (a : Sh n x) (b : Sh m y) : Sh (n + m) (x ++ y) := by
  refine ⟨?_, ?_⟩
  · rw [app_tl, List.length_append]
    exact Nat.add_le_add a.ln b.ln
  · intro c hc
    rw [app_tl] at hc
    exact (List.mem_append.mp hc).elim (a.as c) (b.as c)
theorem Sh.cut {n : Nat} {z : Str} (a : Sh n z) (lo hi : Option Int) : Sh n (cutS z lo hi) := by
  refine ⟨?_, ?_⟩
  · have := a.ln
    show ((List.take _ (List.drop _ z.cps.toList)).toArray.toList).length ≤ n
    rw [List.length_take, List.length_drop]
    omega
  · intro c hc
    exact a.as c (List.mem_of_mem_drop (List.mem_of_mem_take hc))
/-- a text of small letters -/
def Lw (z : Str) : Prop := ∀ c ∈ z.cps.toList, ltr c = true
theorem Lw.sh {z : Str} {n : Nat} (h : Lw z) (l : z.cps.toList.length ≤ n) : Sh n z := ⟨l, fun c hc => by
  have z := h c hc
  simp only [ltr, Bool.and_eq_true, decide_eq_true_eq] at z
  omega⟩
theorem joined : ∀ (cs : List Nat), (Str.join "" (cs.map fun c => (⟨#[c]⟩ : Str))).cps.toList = cs
  | [] => rfl
  | [c] => rfl
  | c :: d :: r => by
    have ih := joined (d :: r)
    show ((⟨#[c]⟩ : Str) ++ ("" : Str) ++ Str.join "" ((d :: r).map fun c => (⟨#[c]⟩ : Str))).cps.toList = _
    rw [app_tl, app_tl, ih]
    rfl
theorem up_one : ∀ c : Fin 123, ltr c.val = true → (Unicode.upperOf c.val).length = 1 ∧ ∀ x ∈ Unicode.upperOf c.val, x < 128 := by decide +kernel
theorem up_ltr {c : Nat} (h : ltr c = true) : (Unicode.upperOf c).length = 1 ∧ ∀ x ∈ Unicode.upperOf c, x < 128 := by
  have z := h
  simp only [ltr, Bool.and_eq_true, decide_eq_true_eq] at z
  exact up_one ⟨c, by omega⟩ h
theorem placed_tl (x : Str) (f : Nat → List Nat) : (placed x fun _ c => f c).toList = (x.cps.toList.map f).flatten := by
  unfold placed
  rw [Array.toList_flatten, Array.toList_mapIdx]
  congr 1
  apply List.ext_getElem?
  intro i
  simp [List.getElem?_mapIdx, Function.comp_def]
theorem flat_len : ∀ (l : List Nat), (∀ c ∈ l, ltr c = true) → ((l.map Unicode.upperOf).flatten).length = l.length
  | [], _ => rfl
  | c :: r, h => by
    rw [List.map_cons, List.flatten_cons, List.length_append, flat_len r fun x hx => h x (List.mem_cons_of_mem _ hx), (up_ltr (h c (List.mem_cons_self ..))).1, List.length_cons]
    omega
theorem Lw.upper {z : Str} {n : Nat} (h : Lw z) (l : z.cps.toList.length ≤ n) : Sh n (Txt.upper z) := by
  have e : (Txt.upper z).cps.toList = (z.cps.toList.map Unicode.upperOf).flatten := placed_tl z Unicode.upperOf
  refine ⟨?_, ?_⟩
  · rw [e, flat_len _ h]
    exact l
  · intro c hc
    rw [e] at hc
    obtain ⟨l', hl, hc⟩ := List.mem_flatten.mp hc
    obtain ⟨x, hx, rfl⟩ := List.mem_map.mp hl
    exact (up_ltr (h x hx)).2 c hc
theorem letters_eq : (Str.ofString "abcdefghijklmnopqrstuvwxyz").cps.toList = List.range' 97 26 := by decide +kernel
theorem letters_in (c : Nat) : decide (c ∈ (Str.ofString "abcdefghijklmnopqrstuvwxyz").cps.toList) = ltr c := by
  rw [letters_eq]
  unfold ltr
  rw [← Bool.decide_and]
  exact decide_eq_decide.mpr ⟨fun h => by have := List.mem_range'_1.mp h; omega, fun h => List.mem_range'_1.mpr (by omega)⟩
theorem lt_one (a b : Nat) : ([a] < [b]) ↔ a < b := by
  rw [List.cons_lt_cons_iff]
  simp
theorem a_le (c : Nat) : (!decide ((⟨#[c]⟩ : Str).cps.toList < (Str.ofString "a").cps.toList)) = decide (97 ≤ c) := by
  have e : (Str.ofString "a").cps.toList = [97] := by decide +kernel
  rw [e]
  show (!decide ([c] < [97])) = _
  rw [← decide_not]
  exact decide_eq_decide.mpr (by rw [lt_one]; omega)
theorem le_z (c : Nat) : (!decide ((Str.ofString "z").cps.toList < (⟨#[c]⟩ : Str).cps.toList)) = decide (c ≤ 122) := by
  have e : (Str.ofString "z").cps.toList = [122] := by decide +kernel
  rw [e]
  show (!decide ([122] < [c])) = _
  rw [← decide_not]
  exact decide_eq_decide.mpr (by rw [lt_one]; omega)

def keyD : PyData → Bool
  | .str z => decide (1 ≤ z.cps.toList.length) && decide (z.cps.toList.length ≤ 6) && z.cps.toList.all ltr
  | _ => false
def rowN (d : PyData) (lo hi : Nat) : Bool := match d with
  | .tuple ds => decide (lo ≤ ds.length) && decide (ds.length ≤ hi) && ds.all wholeD
  | _ => false
theorem row_no {d : PyData} {lo hi : Nat} (h : isTup d = false) : rowN d lo hi = false := by
  cases d <;> first | rfl | (exact absurd h (by simp [isTup]))
structure Shw (d : PyData) : Prop where
  sh : d.showable = true
  dp : d.depth ≤ 64
  sz : d.shown.length ≤ sizeLine
/-- small leaves -/
def lf (d : PyData) : Bool := d.showable && decide (d.depth = 0) && d.leavesShort 200 && decide (d.weight ≤ 200) && d.canLay0
theorem int_len {i : Int} (h : i.natAbs < 2 ^ 110) : (Str.ofString (toString i)).length ≤ 200 := by
  have z := PySem.int_text_length_le (k := 110) (by decide) (PySem.Flt.log2_lt_of (by decide) h)
  rw [ofString_length]
  omega
theorem int_leaf {i : Int} (h : i.natAbs < 2 ^ 110) : lf (.int i) = true := by
  have hl : i.natAbs.log2 < 110 := PySem.Flt.log2_lt_of (by decide) h
  have e1 : (PyData.int i).showable = true := decide_eq_true (by omega)
  have e3 : (PyData.int i).weight ≤ 200 := by
    show Builtin.Int.intBits i ≤ 200
    unfold Builtin.Int.intBits
    split <;> omega
  have e4 : (PyData.int i).leavesShort 200 = true := by
    refine decide_eq_true ?_
    show (Str.ofString (toString i)).length ≤ 200
    exact int_len h
  unfold lf
  rw [e1, e4, decide_eq_true e3]
  rfl
theorem int_leaf2 {i : Int} (h : -1000000000000000000000000000000 ≤ i) (h2 : i ≤ 1000000000000000000000000000000) : lf (.int i) = true := by
  refine int_leaf ?_
  have e : (2 : Nat) ^ 110 = 1298074214633706907132624082305024 := by decide
  rw [e]
  omega
theorem str_leaf {z : Str} {n : Nat} (h : Sh n z) (hn : n ≤ 200) : lf (.str z) = true := by
  have e1 : (PyData.str z).showable = true := rfl
  have e2 : (PyData.str z).depth = 0 := rfl
  have e3 : (PyData.str z).leavesShort 200 = true := by
    show (z.cps.toList.all fun c => decide (c < 16 ^ 8)) = true
    refine List.all_eq_true.mpr fun c hc => decide_eq_true ?_
    have := h.as c hc
    omega
  have e4 : (PyData.str z).weight ≤ 200 := by
    show z.cps.size ≤ 200
    have := h.ln
    rw [Array.length_toList] at this
    omega
  have e5 : (PyData.str z).canLay0 = true := by
    show z.cps.all (· < 0x110000) = true
    rw [← Array.all_toList]
    refine List.all_eq_true.mpr fun c hc => decide_eq_true ?_
    have := h.as c hc
    omega
  unfold lf
  rw [e1, e2, e3, e5, decide_eq_true e4]
  rfl
theorem lf_all : ∀ {ds : List PyData}, ds.all lf = true → PyData.showableAll ds = true ∧ PyData.depthAll ds = 0 ∧ PyData.leavesShortAll 200 ds = true ∧ PyData.weightAll ds ≤ 201 * ds.length ∧ PyData.canLayAll0 ds = true
  | [], _ => ⟨rfl, rfl, rfl, by decide, rfl⟩
  | d :: ds, h => by
    simp only [List.all_cons, Bool.and_eq_true] at h
    obtain ⟨h1, h2, h3, h4, h5⟩ := lf_all h.2
    have h0 := h.1
    simp only [lf, Bool.and_eq_true, decide_eq_true_eq] at h0
    obtain ⟨⟨⟨⟨a1, a2⟩, a3⟩, a4⟩, a5⟩ := h0
    refine ⟨?_, ?_, ?_, ?_, ?_⟩
    · simp only [PyData.showableAll, a1, h1, Bool.and_self]
    · simp only [PyData.depthAll, a2, h2, Nat.max_self]
    · simp only [PyData.leavesShortAll, a3, h3, Bool.and_self]
    · simp only [PyData.weightAll, List.length_cons]
      omega
    · simp only [PyData.canLayAll0, a5, h5, Bool.and_self]
theorem shw_tup {ds : List PyData} (h : ds.all lf = true) (hl : ds.length ≤ 10) : Shw (.tuple ds) := by
  obtain ⟨h1, h2, h3, h4, _⟩ := lf_all h
  refine ⟨by simp only [PyData.showable]; exact h1, by simp only [PyData.depth, h2]; decide, ?_⟩
  have z := PyData.shown_le 200 (by decide) (.tuple ds) (by simp only [PyData.leavesShort]; exact h3)
  have w : (PyData.tuple ds).weight ≤ 2100 := by
    simp only [PyData.weight]
    omega
  rw [sizeLine_eq]
  omega
theorem shw_lst {ds : List PyData} (h : ds.all lf = true) (hl : ds.length ≤ 10) : Shw (.list ds) := by
  obtain ⟨h1, h2, h3, h4, _⟩ := lf_all h
  refine ⟨by simp only [PyData.showable]; exact h1, by simp only [PyData.depth, h2]; decide, ?_⟩
  have z := PyData.shown_le 200 (by decide) (.list ds) (by simp only [PyData.leavesShort]; exact h3)
  have w : (PyData.list ds).weight ≤ 2100 := by
    simp only [PyData.weight]
    omega
  rw [sizeLine_eq]
  omega
theorem shw_lf {d : PyData} (h : lf d = true) : Shw d := by
  simp only [lf, Bool.and_eq_true, decide_eq_true_eq] at h
  obtain ⟨⟨⟨⟨a1, a2⟩, a3⟩, a4⟩, _⟩ := h
  have z := PyData.shown_le 200 (by decide) d a3
  refine ⟨a1, by omega, ?_⟩
  rw [sizeLine_eq]
  omega

theorem dpall_app {K : PySem.W.Frag} {H : Hp} : ∀ {xs ys : List V} {ds es : List PyData}, DpAll K H xs ds → DpAll K H ys es → DpAll K H (xs ++ ys) (ds ++ es)
  | _, _, _, _, .nil, h => h
  | _, _, _, _, .cons a r, h => .cons a (dpall_app r h)
theorem dpall_ints {K : PySem.W.Frag} {H : Hp} : ∀ (ns : List Int), DpAll K H (ns.map V.int) (ns.map PyData.int)
  | [] => .nil
  | n :: r => .cons (.int n) (dpall_ints r)
theorem dpall_strs {K : PySem.W.Frag} {H : Hp} : ∀ (ns : List Str), DpAll K H (ns.map V.str) (ns.map PyData.str)
  | [] => .nil
  | n :: r => .cons (.str n) (dpall_strs r)
theorem ints_lf : ∀ {ns : List Int}, (∀ n ∈ ns, -1000000000000000000000000000000 ≤ n ∧ n ≤ 1000000000000000000000000000000) → (ns.map PyData.int).all lf = true
  | [], _ => rfl
  | n :: r, h => by
    have z := h n (List.mem_cons_self ..)
    rw [List.map_cons, List.all_cons, int_leaf2 z.1 z.2, ints_lf fun m hm => h m (List.mem_cons_of_mem _ hm)]
    rfl
/-! ### entries of a shelf -/
structure Ent where
  t : Int
  s : Int
  h : Int
  w : List Int
structure Ent.Ok (e : Ent) : Prop where
  t1 : -1000000000000 ≤ e.t
  t2 : e.t ≤ 1000000000000
  s1 : 0 ≤ e.s
  s2 : e.s ≤ 1000000000000
  h1 : 0 ≤ e.h
  h2 : e.h ≤ 1000000000000
  w1 : 1 ≤ e.w.length
  w2 : e.w.length ≤ 4
  w3 : ∀ n ∈ e.w, -1000000000000000000000000000000 ≤ n ∧ n ≤ 1000000000000000000000000000000
def Ent.lt (e f : Ent) : Prop := e.t < f.t ∨ (e.t = f.t ∧ (e.s < f.s ∨ (e.s = f.s ∧ e.h < f.h)))
def stD (e : Ent) : PyData := .tuple [.int e.t, .int e.s, .int e.h]
def wD (e : Ent) : PyData := .tuple (e.w.map .int)
def entD (e : Ent) : PyData := .tuple [stD e, wD e]
theorem Ent.Ok.st (h : Ent.Ok e) : [PyData.int e.t, .int e.s, .int e.h].all lf = true := by
  have a := h.t1; have b := h.t2; have c := h.s1; have d := h.s2; have f := h.h1; have g := h.h2
  rw [List.all_cons, List.all_cons, List.all_cons, int_leaf2 (by omega) (by omega), int_leaf2 (by omega) (by omega), int_leaf2 (by omega) (by omega)]
  rfl
theorem Ent.Ok.wt (h : Ent.Ok e) : (e.w.map PyData.int).all lf = true := ints_lf h.w3
/-- what an entry is as data -/
theorem ent_all : ∀ {es : List Ent}, (∀ e ∈ es, e.Ok) → PyData.showableAll (es.map entD) = true ∧ PyData.depthAll (es.map entD) ≤ 2 ∧ PyData.leavesShortAll 200 (es.map entD) = true ∧ PyData.weightAll (es.map entD) ≤ 1420 * es.length
  | [], _ => ⟨rfl, by decide, rfl, by decide⟩
  | e :: r, h => by
    obtain ⟨a1, a2, a3, a4⟩ := ent_all (es := r) fun x hx => h x (List.mem_cons_of_mem _ hx)
    have h0 := h e (List.mem_cons_self ..)
    obtain ⟨b1, b2, b3, b4, _⟩ := lf_all h0.st
    obtain ⟨c1, c2, c3, c4, _⟩ := lf_all h0.wt
    have w2 := h0.w2
    have b5 : PyData.weightAll [PyData.int e.t, .int e.s, .int e.h] ≤ 201 * 3 := b4
    rw [List.length_map] at c4
    refine ⟨?_, ?_, ?_, ?_⟩
    · simp only [List.map_cons, PyData.showableAll, entD, stD, wD, PyData.showable, a1, c1, Bool.and_true, Bool.true_and]
      simpa [PyData.showableAll, PyData.showable] using b1
    · have e1 : (entD e).depth ≤ 2 := by
        simp only [entD, stD, wD, PyData.depth, PyData.depthAll, c2]
        have z : PyData.depthAll [PyData.int e.t, .int e.s, .int e.h] = 0 := b2
        simp only [PyData.depthAll, PyData.depth] at z ⊢
        omega
      simp only [List.map_cons, PyData.depthAll]
      omega
    · simp only [List.map_cons, PyData.leavesShortAll, entD, stD, wD, PyData.leavesShort, a3, c3, Bool.and_true, Bool.true_and]
      simpa [PyData.leavesShortAll, PyData.leavesShort] using b3
    · have e1 : (entD e).weight ≤ 1419 := by
        simp only [entD, PyData.weight, PyData.weightAll, stD, wD]
        simp only [PyData.weightAll, PyData.weight] at b5
        omega
      simp only [List.map_cons, PyData.weightAll, List.length_cons]
      omega
theorem shw_row {es : List Ent} (h : ∀ e ∈ es, e.Ok) (hl : es.length ≤ 40) : Shw (.list (es.map entD)) := by
  obtain ⟨h1, h2, h3, h4⟩ := ent_all h
  refine ⟨by simp only [PyData.showable]; exact h1, by simp only [PyData.depth]; omega, ?_⟩
  have z := PyData.shown_le 200 (by decide) (.list (es.map entD)) (by simp only [PyData.leavesShort]; exact h3)
  have w : (PyData.list (es.map entD)).weight ≤ 56800 := by
    simp only [PyData.weight]
    omega
  rw [sizeLine_eq]
  omega
theorem shw_keys {ks : List Str} (h : ∀ k ∈ ks, Sh 20 k) (hl : ks.length ≤ 40) : Shw (.list (ks.map .str)) := by
  have hf : (ks.map PyData.str).all lf = true := by
    refine List.all_eq_true.mpr fun d hd => ?_
    obtain ⟨k, hk, rfl⟩ := List.mem_map.mp hd
    exact str_leaf (h k hk) (by decide)
  obtain ⟨h1, h2, h3, h4, _⟩ := lf_all hf
  refine ⟨by simp only [PyData.showable]; exact h1, by simp only [PyData.depth, h2]; decide, ?_⟩
  have z := PyData.shown_le 200 (by decide) (.list (ks.map .str)) (by simp only [PyData.leavesShort]; exact h3)
  rw [List.length_map] at h4
  have w : (PyData.list (ks.map .str)).weight ≤ 8040 := by
    simp only [PyData.weight]
    omega
  rw [sizeLine_eq]
  omega
/-! ### rows in the heap -/
/-- tuples stand -/
def Tk (H H' : Hp) : Prop := ∀ b xs, H b = some (.tup xs) → H' b = some (.tup xs)
theorem same_tk {H H' : Hp} (k : Same H H') : Tk H H' := fun b xs e => k b _ e
def PairAt (H : Hp) (p : Addr) (e : Ent) : Prop := ∃ sa wa : Addr, H p = some (.tup [.ref sa, .ref wa]) ∧ H sa = some (.tup [.int e.t, .int e.s, .int e.h]) ∧ H wa = some (.tup (e.w.map V.int))
inductive PrA (H : Hp) : List Addr → List Ent → Prop
  | nil : PrA H [] []
  | cons {p : Addr} {e : Ent} {ps : List Addr} {es : List Ent} (a : PairAt H p e) (r : PrA H ps es) : PrA H (p :: ps) (e :: es)
theorem PairAt.tk {H H' : Hp} (k : Tk H H') {p : Addr} {e : Ent} (h : PairAt H p e) : PairAt H' p e := by
  obtain ⟨sa, wa, a, b, c⟩ := h
  exact ⟨sa, wa, k _ _ a, k _ _ b, k _ _ c⟩
theorem PrA.tk {H H' : Hp} (k : Tk H H') : ∀ {ps : List Addr} {es : List Ent}, PrA H ps es → PrA H' ps es
  | _, _, .nil => .nil
  | _, _, .cons a r => .cons (a.tk k) (PrA.tk k r)
theorem PrA.len {H : Hp} : ∀ {ps : List Addr} {es : List Ent}, PrA H ps es → ps.length = es.length
  | _, _, .nil => rfl
  | _, _, .cons a r => congrArg Nat.succ (PrA.len r)
theorem PrA.get {H : Hp} : ∀ {ps : List Addr} {es : List Ent}, PrA H ps es → ∀ {i : Nat} {p : Addr}, ps[i]? = some p → ∃ e, es[i]? = some e ∧ PairAt H p e
  | _, _, .nil, i, p, e => by simp at e
  | _, _, .cons a r, 0, p, e => by
    simp at e
    subst e
    exact ⟨_, rfl, a⟩
  | _, _, .cons a r, i + 1, p, e => PrA.get r (i := i) (by simpa using e)
theorem PrA.app {H : Hp} : ∀ {ps qs : List Addr} {es fs : List Ent}, PrA H ps es → PrA H qs fs → PrA H (ps ++ qs) (es ++ fs)
  | _, _, _, _, .nil, h => h
  | _, _, _, _, .cons a r, h => .cons a (PrA.app r h)
theorem PairAt.dp {K : PySem.W.Frag} {H : Hp} {p : Addr} {e : Ent} (h : PairAt H p e) : Dp K H (.ref p) (entD e) := by
  obtain ⟨sa, wa, a, b, c⟩ := h
  exact .tup (SqT.of a) (.cons (.tup (SqT.of b) (.cons (.int _) (.cons (.int _) (.cons (.int _) .nil)))) (.cons (.tup (SqT.of c) (dpall_ints _)) .nil))
theorem PrA.dp {K : PySem.W.Frag} {H : Hp} : ∀ {ps : List Addr} {es : List Ent}, PrA H ps es → DpAll K H (ps.map V.ref) (es.map entD)
  | _, _, .nil => .nil
  | _, _, .cons a r => .cons a.dp (PrA.dp r)
def RowAt (H : Hp) (a : Addr) (es : List Ent) : Prop := ∃ ps, H a = some (.lst (ps.map V.ref)) ∧ PrA H ps es
theorem RowAt.same {H H' : Hp} (k : Same H H') {a : Addr} {es : List Ent} (h : RowAt H a es) : RowAt H' a es := by
  obtain ⟨ps, e, r⟩ := h
  exact ⟨ps, k _ _ e, r.tk (same_tk k)⟩
theorem RowAt.dp {K : PySem.W.Frag} {H : Hp} {a : Addr} {es : List Ent} (h : RowAt H a es) : Dp K H (.ref a) (.list (es.map entD)) := by
  obtain ⟨ps, e, r⟩ := h
  exact .lst (SqL.of e) r.dp
/-! ### tables -/
abbrev Tab := List (Str × Addr × List Ent)
def kvT (m : Tab) : List (Key × V) := m.map fun p => (Sum.inr p.1, V.ref p.2.1)
def atT (m : Tab) (k : Str) : Option (Addr × List Ent) := (m.find? fun p => decide (p.1 = k)).map (·.2)
def esT (m : Tab) (k : Str) : List Ent := ((atT m k).map (·.2)).getD []
theorem val_kvT (m : Tab) (k : Str) : valV (kvT m) (Sum.inr k) = (atT m k).map fun p => V.ref p.1 := by
  unfold valV kvT atT
  rw [List.find?_map, Option.map_map, Option.map_map]
  have e : ((fun kv : Key × V => decide (kv.1 = Sum.inr k)) ∘ fun p : Str × Addr × List Ent => ((Sum.inr p.1 : Key), V.ref p.2.1)) = fun p => decide (p.1 = k) := by
    funext p
    exact decide_eq_decide.mpr ⟨fun z => Sum.inr.inj z, fun z => congrArg Sum.inr z⟩
  rw [e]
  rfl
structure TabAt (H : Hp) (d : Addr) (m : Tab) : Prop where
  dict : H d = some (.dK (kvT m))
  row : ∀ p ∈ m, RowAt H p.2.1 p.2.2
  nd : (m.map (·.1)).Nodup
  na : (m.map (·.2.1)).Nodup
theorem atT_mem {m : Tab} {k : Str} {q : Addr × List Ent} (h : atT m k = some q) : (k, q) ∈ m := by
  unfold atT at h
  cases e : m.find? fun p => decide (p.1 = k) with
  | none => rw [e] at h; cases h
  | some p =>
    rw [e] at h
    have z := List.find?_some e
    have y := List.mem_of_find?_eq_some e
    cases h
    have z' : p.1 = k := of_decide_eq_true z
    rw [← z']
    exact y
theorem atT_none {m : Tab} {k : Str} (h : atT m k = none) : ∀ p ∈ m, p.1 ≠ k := fun p hp e => by
  unfold atT at h
  have z := List.find?_eq_none.mp (Option.map_eq_none_iff.mp h) p hp
  simp [e] at z
theorem TabAt.same {H H' : Hp} {d : Addr} {m : Tab} (T : TabAt H d m) (k : Same H H') : TabAt H' d m := ⟨k _ _ T.dict, fun p hp => (T.row p hp).same k, T.nd, T.na⟩
theorem TabAt.es {H : Hp} {d : Addr} {m : Tab} (T : TabAt H d m) {k : Str} {q : Addr × List Ent} (h : atT m k = some q) : RowAt H q.1 (esT m k) := by
  have z := T.row _ (atT_mem h)
  unfold esT
  rw [h]
  exact z
theorem nodup_eq {α β : Type} {f : α → β} {l : List α} (h : (l.map f).Nodup) {a b : α} (ha : a ∈ l) (hb : b ∈ l) (e : f a = f b) : a = b := by
  induction l with
  | nil => cases ha
  | cons x r ih =>
    rw [List.map_cons, List.nodup_cons] at h
    rcases List.mem_cons.mp ha with rfl | ha' <;> rcases List.mem_cons.mp hb with rfl | hb'
    · rfl
    · exact absurd (e ▸ List.mem_map_of_mem hb') h.1
    · exact absurd (e ▸ List.mem_map_of_mem ha') h.1
    · exact ih h.2 ha' hb'
/-- put at the row that is there, or a new one at n -/
def putT (m : Tab) (k : Str) (n : Addr) (e : Ent) : Tab := match atT m k with
  | some _ => m.map fun p => if p.1 = k then (p.1, p.2.1, p.2.2 ++ [e]) else p
  | none => m ++ [(k, n, [e])]
/-- put in a new row at n -/
def putN (m : Tab) (k : Str) (n : Addr) (e : Ent) : Tab := match atT m k with
  | some _ => m.map fun p => if p.1 = k then (p.1, n, p.2.2 ++ [e]) else p
  | none => m ++ [(k, n, [e])]
theorem putK_kv {m : Tab} {k : Str} {q : Addr × List Ent} {v : V} (h : atT m k = some q) : putK (kvT m) (Sum.inr k) v = m.map fun p => if p.1 = k then (Sum.inr p.1, v) else (Sum.inr p.1, V.ref p.2.1) := by
  unfold putK
  rw [valV_any, val_kvT, h, if_pos (show (Option.map (fun p : Addr × List Ent => V.ref p.1) (some q)).isSome = true from rfl)]
  unfold kvT
  rw [List.map_map]
  refine List.map_congr_left fun p _ => ?_
  show (if (Sum.inr p.1 : Key) = Sum.inr k then ((Sum.inr p.1 : Key), v) else ((Sum.inr p.1 : Key), V.ref p.2.1)) = _
  by_cases e : p.1 = k
  · rw [if_pos (congrArg Sum.inr e), if_pos e]
  · rw [if_neg (fun z => e (Sum.inr.inj z)), if_neg e]
theorem TabAt.put {H H' : Hp} {rd r n : Addr} {m : Tab} {k : Str} {e : Ent} (T : TabAt H rd m) (hr : (∃ es, atT m k = some (r, es)) ∨ (atT m k = none ∧ H r = none ∧ n = r)) (hd : H' rd = some (.dK (putK (kvT m) (Sum.inr k) (.ref r)))) (hrow : RowAt H' r (esT m k ++ [e]))
    (keep : ∀ b o, H b = some o → b ≠ rd → b ≠ r → H' b = some o) : TabAt H' rd (putT m k n e) := by
  rcases hr with ⟨es, ha⟩ | ⟨ha, hn, rfl⟩
  · have hmem := atT_mem ha
    have hrl := T.row _ hmem
    obtain ⟨ps0, hrl, _⟩ := hrl
    have e1 : putT m k n e = m.map fun p => if p.1 = k then (p.1, p.2.1, p.2.2 ++ [e]) else p := by unfold putT; rw [ha]
    have tk : Tk H H' := fun b xs z => keep b _ z (ne_of z T.dict (by intro q; cases q)) (ne_of z hrl (by intro q; cases q))
    have uniq : ∀ p ∈ m, p.1 = k → p = (k, r, es) := fun p hp z => nodup_eq T.nd hp hmem z
    refine ⟨?_, ?_, ?_, ?_⟩
    · rw [hd, e1, putK_kv ha]
      congr 2
      unfold kvT
      rw [List.map_map]
      refine List.map_congr_left fun p hp => ?_
      by_cases z : p.1 = k
      · have := uniq p hp z
        subst this
        simp
      · simp [z]
    · rw [e1]
      intro p hp
      obtain ⟨q, hq, rfl⟩ := List.mem_map.mp hp
      by_cases z : q.1 = k
      · have y := uniq q hq z
        subst y
        have w : esT m k = es := by unfold esT; rw [ha]; rfl
        rw [w] at hrow
        simpa using hrow
      · rw [if_neg z]
        obtain ⟨ps, hl, pr⟩ := T.row q hq
        refine ⟨ps, keep _ _ hl (ne_of hl T.dict (by intro q; cases q)) (fun y => z ?_), pr.tk tk⟩
        have := nodup_eq T.na hq hmem y
        rw [this]
    · rw [e1, List.map_map]
      have : m.map ((fun p : Str × Addr × List Ent => p.1) ∘ fun p => if p.1 = k then (p.1, p.2.1, p.2.2 ++ [e]) else p) = m.map (·.1) := List.map_congr_left fun p _ => by
        by_cases z : p.1 = k <;> simp [z]
      rw [this]
      exact T.nd
    · rw [e1, List.map_map]
      have : m.map ((fun p : Str × Addr × List Ent => p.2.1) ∘ fun p => if p.1 = k then (p.1, p.2.1, p.2.2 ++ [e]) else p) = m.map (·.2.1) := List.map_congr_left fun p _ => by
        by_cases z : p.1 = k <;> simp [z]
      rw [this]
      exact T.na
  · have e1 : putT m k n e = m ++ [(k, n, [e])] := by unfold putT; rw [ha]
    have w : esT m k = [] := by unfold esT; rw [ha]; rfl
    rw [w] at hrow
    have tk : Tk H H' := fun b xs z => keep b _ z (ne_of z T.dict (by intro q; cases q)) (ne_of_none z hn)
    refine ⟨?_, ?_, ?_, ?_⟩
    · rw [hd, e1, putK_new _ (by rw [val_kvT, ha]; rfl)]
      unfold kvT
      rw [List.map_append]
      rfl
    · rw [e1]
      intro p hp
      rcases List.mem_append.mp hp with hq | hq
      · obtain ⟨ps, hl, pr⟩ := T.row p hq
        exact ⟨ps, keep _ _ hl (ne_of hl T.dict (by intro q; cases q)) (ne_of_none hl hn), pr.tk tk⟩
      · rw [List.mem_singleton.mp hq]
        exact hrow
    · rw [e1, List.map_append, List.nodup_append]
      refine ⟨T.nd, by simp, fun a ha' b hb => ?_⟩
      obtain ⟨p, hp, rfl⟩ := List.mem_map.mp ha'
      rw [List.mem_singleton.mp hb]
      exact atT_none ha p hp
    · rw [e1, List.map_append, List.nodup_append]
      refine ⟨T.na, by simp, fun a ha' b hb => ?_⟩
      obtain ⟨p, hp, rfl⟩ := List.mem_map.mp ha'
      rw [List.mem_singleton.mp hb]
      obtain ⟨ps, hl, _⟩ := T.row p hp
      exact ne_of_none hl hn
theorem TabAt.putN {H H' : Hp} {rd n : Addr} {m : Tab} {k : Str} {e : Ent} (T : TabAt H rd m) (hn : H n = none) (hd : H' rd = some (.dK (putK (kvT m) (Sum.inr k) (.ref n)))) (hrow : RowAt H' n (esT m k ++ [e]))
    (keep : ∀ b o, H b = some o → b ≠ rd → H' b = some o) : TabAt H' rd (putN m k n e) := by
  have tk : Tk H H' := fun b xs z => keep b _ z (ne_of z T.dict (by intro q; cases q))
  have old : ∀ p ∈ m, RowAt H' p.2.1 p.2.2 := fun p hp => by
    obtain ⟨ps, hl, pr⟩ := T.row p hp
    exact ⟨ps, keep _ _ hl (ne_of hl T.dict (by intro q; cases q)), pr.tk tk⟩
  have new : ∀ p ∈ m, p.2.1 ≠ n := fun p hp => by
    obtain ⟨ps, hl, pr⟩ := T.row p hp
    exact ne_of_none hl hn
  cases ha : atT m k with
  | some q =>
    obtain ⟨r, es⟩ := q
    have hmem := atT_mem ha
    have e1 : M.putN m k n e = m.map fun p => if p.1 = k then (p.1, n, p.2.2 ++ [e]) else p := by unfold M.putN; rw [ha]
    have uniq : ∀ p ∈ m, p.1 = k → p = (k, r, es) := fun p hp z => nodup_eq T.nd hp hmem z
    refine ⟨?_, ?_, ?_, ?_⟩
    · rw [hd, e1, putK_kv ha]
      congr 2
      unfold kvT
      rw [List.map_map]
      refine List.map_congr_left fun p hp => ?_
      by_cases z : p.1 = k <;> simp [z]
    · rw [e1]
      intro p hp
      obtain ⟨q, hq, rfl⟩ := List.mem_map.mp hp
      by_cases z : q.1 = k
      · have y := uniq q hq z
        subst y
        have w : esT m k = es := by unfold esT; rw [ha]; rfl
        rw [w] at hrow
        simpa using hrow
      · rw [if_neg z]
        exact old q hq
    · rw [e1, List.map_map]
      have : m.map ((fun p : Str × Addr × List Ent => p.1) ∘ fun p => if p.1 = k then (p.1, n, p.2.2 ++ [e]) else p) = m.map (·.1) := List.map_congr_left fun p _ => by
        by_cases z : p.1 = k <;> simp [z]
      rw [this]
      exact T.nd
    · rw [e1]
      have nd := T.nd
      have na := T.na
      clear e1 hd hrow old ha hmem uniq T
      induction m with
      | nil => simp
      | cons x l ih =>
        rw [List.map_cons, List.nodup_cons] at nd na
        rw [List.map_cons, List.map_cons, List.nodup_cons]
        refine ⟨?_, ih (fun p hp => new p (List.mem_cons_of_mem _ hp)) nd.2 na.2⟩
        intro z
        obtain ⟨y, hy, ey⟩ := List.mem_map.mp z
        obtain ⟨u, hu, rfl⟩ := List.mem_map.mp hy
        by_cases c1 : x.1 = k <;> by_cases c2 : u.1 = k
        · exact nd.1 (List.mem_map.mpr ⟨u, hu, c2.trans c1.symm⟩)
        · rw [if_pos c1, if_neg c2] at ey
          exact new u (List.mem_cons_of_mem _ hu) ey
        · rw [if_neg c1, if_pos c2] at ey
          exact new x (List.mem_cons_self ..) ey.symm
        · rw [if_neg c1, if_neg c2] at ey
          exact na.1 (List.mem_map.mpr ⟨u, hu, ey⟩)
  | none =>
    have e1 : M.putN m k n e = m ++ [(k, n, [e])] := by unfold M.putN; rw [ha]
    have w : esT m k = [] := by unfold esT; rw [ha]; rfl
    rw [w] at hrow
    refine ⟨?_, ?_, ?_, ?_⟩
    · rw [hd, e1, putK_new _ (by rw [val_kvT, ha]; rfl)]
      unfold kvT
      rw [List.map_append]
      rfl
    · rw [e1]
      intro p hp
      rcases List.mem_append.mp hp with hq | hq
      · exact old p hq
      · rw [List.mem_singleton.mp hq]
        exact hrow
    · rw [e1, List.map_append, List.nodup_append]
      refine ⟨T.nd, by simp, fun a ha' b hb => ?_⟩
      obtain ⟨p, hp, rfl⟩ := List.mem_map.mp ha'
      rw [List.mem_singleton.mp hb]
      exact atT_none ha p hp
    · rw [e1, List.map_append, List.nodup_append]
      refine ⟨T.na, by simp, fun a ha' b hb => ?_⟩
      obtain ⟨p, hp, rfl⟩ := List.mem_map.mp ha'
      rw [List.mem_singleton.mp hb]
      exact new p hp
/-! ### contents -/
abbrev Ct := List (Str × List Ent)
def ct (m : Tab) : Ct := m.map fun p => (p.1, p.2.2)
def esC (c : Ct) (k : Str) : List Ent := ((c.find? fun p => decide (p.1 = k)).map (·.2)).getD []
def hasC (c : Ct) (k : Str) : Bool := c.any fun p => decide (p.1 = k)
def putC (c : Ct) (k : Str) (e : Ent) : Ct := if hasC c k = true then c.map fun p => if p.1 = k then (p.1, p.2 ++ [e]) else p else c ++ [(k, [e])]
def tot (c : Ct) : Nat := (c.map fun p => p.2.length).sum
theorem esT_ct (m : Tab) (k : Str) : esT m k = esC (ct m) k := by
  unfold esT esC atT ct
  rw [List.find?_map, Option.map_map, Option.map_map]
  rfl
theorem hasC_ct (m : Tab) (k : Str) : hasC (ct m) k = (atT m k).isSome := by
  unfold hasC ct atT
  rw [Option.isSome_map]
  induction m with
  | nil => rfl
  | cons x r ih =>
    rw [List.map_cons, List.any_cons, List.find?_cons]
    by_cases z : x.1 = k
    · simp [z]
    · simp only [z, decide_false, Bool.false_or]
      exact ih
theorem ct_putT (m : Tab) (k : Str) (n : Addr) (e : Ent) : ct (putT m k n e) = putC (ct m) k e := by
  unfold putT putC
  rw [hasC_ct]
  cases atT m k with
  | none =>
    rw [if_neg (by decide)]
    unfold ct
    rw [List.map_append]
    rfl
  | some q =>
    rw [if_pos (show (some q).isSome = true from rfl)]
    unfold ct
    rw [List.map_map, List.map_map]
    refine List.map_congr_left fun p _ => ?_
    by_cases z : p.1 = k <;> simp [z]
theorem ct_putN (m : Tab) (k : Str) (n : Addr) (e : Ent) : ct (putN m k n e) = putC (ct m) k e := by
  unfold putN putC
  rw [hasC_ct]
  cases atT m k with
  | none =>
    rw [if_neg (by decide)]
    unfold ct
    rw [List.map_append]
    rfl
  | some q =>
    rw [if_pos (show (some q).isSome = true from rfl)]
    unfold ct
    rw [List.map_map, List.map_map]
    refine List.map_congr_left fun p _ => ?_
    by_cases z : p.1 = k <;> simp [z]
def Rise (es : List Ent) : Prop := es.Pairwise fun a b => a.lt b
structure CtOk (c : Ct) : Prop where
  nd : (c.map (·.1)).Nodup
  ok : ∀ p ∈ c, Sh 20 p.1 ∧ keyD (.str p.1) = true ∧ (∀ e ∈ p.2, e.Ok) ∧ Rise p.2
theorem find_key {c : Ct} {k : Str} {p : Str × List Ent} (e : (c.find? fun p => decide (p.1 = k)) = some p) : p.1 = k := by
  have z := List.find?_some e
  simpa using z
theorem esC_mem {c : Ct} {k : Str} : esC c k = [] ∨ (k, esC c k) ∈ c := by
  unfold esC
  cases e : c.find? fun p => decide (p.1 = k) with
  | none => exact .inl rfl
  | some p =>
    have z : p.1 = k := find_key e
    have y := List.mem_of_find?_eq_some e
    right
    rw [← z]
    exact y
theorem esC_of {c : Ct} {k : Str} (h : (c.map (·.1)).Nodup) {q : Str × List Ent} (hq : q ∈ c) (z : q.1 = k) : esC c k = q.2 := by
  unfold esC
  cases e1 : c.find? fun p => decide (p.1 = k) with
  | none =>
    have := List.find?_eq_none.mp e1 q hq
    simp [z] at this
  | some p =>
    have w := nodup_eq h (List.mem_of_find?_eq_some e1) hq ((find_key e1).trans z.symm)
    subst w
    rfl
theorem CtOk.es {c : Ct} (h : CtOk c) (k : Str) : (∀ e ∈ esC c k, e.Ok) ∧ Rise (esC c k) := by
  rcases esC_mem (c := c) (k := k) with e | e
  · rw [e]
    exact ⟨fun x hx => (by cases hx), List.Pairwise.nil⟩
  · exact (h.ok _ e).2.2
theorem len_tot {c : Ct} : ∀ {p : Str × List Ent}, p ∈ c → p.2.length ≤ tot c := by
  induction c with
  | nil => intro p hp; cases hp
  | cons x r ih =>
    intro p hp
    have e : tot (x :: r) = x.2.length + tot r := by unfold tot; rw [List.map_cons, List.sum_cons]
    rcases List.mem_cons.mp hp with rfl | h
    · omega
    · have := ih h
      omega
theorem esC_len (c : Ct) (k : Str) : (esC c k).length ≤ tot c := by
  rcases esC_mem (c := c) (k := k) with e | e
  · rw [e]; exact Nat.zero_le _
  · exact len_tot e
theorem tot_cons (x : Str × List Ent) (r : Ct) : tot (x :: r) = x.2.length + tot r := by unfold tot; rw [List.map_cons, List.sum_cons]
theorem tot_app (a b : Ct) : tot (a ++ b) = tot a + tot b := by
  unfold tot
  rw [List.map_append, List.sum_append]
theorem tot_putC {c : Ct} {k : Str} {e : Ent} (h : (c.map (·.1)).Nodup) : tot (putC c k e) = tot c + 1 := by
  unfold putC
  cases a : hasC c k with
  | false =>
    rw [if_neg (by decide), tot_app]
    rfl
  | true =>
    rw [if_pos rfl]
    induction c with
    | nil => cases a
    | cons x r ih =>
      rw [List.map_cons, List.nodup_cons] at h
      rw [List.map_cons, tot_cons, tot_cons]
      by_cases z : x.1 = k
      · have same : (r.map fun p => if p.1 = k then (p.1, p.2 ++ [e]) else p) = r := by
          conv => rhs; rw [← List.map_id r]
          refine List.map_congr_left fun p hp => ?_
          rw [if_neg (fun y => h.1 (List.mem_map.mpr ⟨p, hp, y.trans z.symm⟩))]
          rfl
        rw [same, if_pos z]
        show (x.2 ++ [e]).length + tot r = _
        rw [List.length_append]
        show x.2.length + 1 + tot r = _
        omega
      · rw [if_neg z]
        have a' : hasC r k = true := by
          unfold hasC at a ⊢
          rw [List.any_cons, decide_eq_false z, Bool.false_or] at a
          exact a
        have := ih h.2 a'
        omega
theorem len_putC (c : Ct) (k : Str) (e : Ent) : (putC c k e).length ≤ c.length + 1 := by
  unfold putC
  split
  · rw [List.length_map]; omega
  · rw [List.length_append]; exact Nat.le_refl _
theorem Rise.snoc {es : List Ent} {e : Ent} (h : Rise es) (hl : ∀ l, es.getLast? = some l → l.lt e) (tr : ∀ a b c : Ent, a.lt b → b.lt c → a.lt c) : Rise (es ++ [e]) := by
  unfold Rise
  rw [List.pairwise_append]
  refine ⟨h, by simp, fun a ha b hb => ?_⟩
  rw [List.mem_singleton.mp hb]
  cases es with
  | nil => cases ha
  | cons x r =>
    obtain ⟨l, e1⟩ : ∃ l, (x :: r).getLast? = some l := ⟨_, List.getLast?_eq_some_getLast (by simp)⟩
    have h1 := hl l e1
    obtain ⟨ys, e2⟩ := List.getLast?_eq_some_iff.mp e1
    rw [e2] at ha h
    rcases List.mem_append.mp ha with q | q
    · exact tr _ _ _ ((List.pairwise_append.mp h).2.2 a q l (by simp)) h1
    · rw [List.mem_singleton.mp q]
      exact h1
theorem Ent.lt_trans (a b c : Ent) (h : a.lt b) (h2 : b.lt c) : a.lt c := by
  unfold Ent.lt at *
  omega
theorem putC_ok {c : Ct} {k : Str} {e : Ent} (h : CtOk c) (hk : Sh 20 k) (hkd : keyD (.str k) = true) (he : e.Ok) (hl : ∀ l, (esC c k).getLast? = some l → l.lt e) : CtOk (putC c k e) := by
  unfold putC
  cases a : hasC c k with
  | false =>
    rw [if_neg (by decide)]
    have no : ∀ p ∈ c, p.1 ≠ k := fun p hp z => by
      have := List.any_eq_false.mp a p hp
      simp [z] at this
    refine ⟨?_, fun p hp => ?_⟩
    · rw [List.map_append, List.nodup_append]
      refine ⟨h.nd, by simp, fun x hx y hy => ?_⟩
      obtain ⟨p, hp, rfl⟩ := List.mem_map.mp hx
      rw [List.mem_singleton.mp hy]
      exact no p hp
    · rcases List.mem_append.mp hp with q | q
      · exact h.ok p q
      · rw [List.mem_singleton.mp q]
        exact ⟨hk, hkd, fun x hx => by rw [List.mem_singleton.mp hx]; exact he, List.pairwise_singleton ..⟩
  | true =>
    rw [if_pos rfl]
    refine ⟨?_, fun p hp => ?_⟩
    · rw [List.map_map]
      have : c.map ((fun p : Str × List Ent => p.1) ∘ fun p => if p.1 = k then (p.1, p.2 ++ [e]) else p) = c.map (·.1) := List.map_congr_left fun p _ => by
        by_cases z : p.1 = k <;> simp [z]
      rw [this]
      exact h.nd
    · obtain ⟨q, hq, rfl⟩ := List.mem_map.mp hp
      by_cases z : q.1 = k
      · rw [if_pos z]
        obtain ⟨a1, a2, a3, a4⟩ := h.ok q hq
        have eq : esC c k = q.2 := esC_of h.nd hq z
        rw [eq] at hl
        refine ⟨a1, a2, fun x hx => ?_, a4.snoc hl Ent.lt_trans⟩
        rcases List.mem_append.mp hx with y | y
        · exact a3 x y
        · rw [List.mem_singleton.mp y]; exact he
      · rw [if_neg z]
        exact h.ok q hq

/-! ### what is told -/
def lastD (es : List Ent) : PyData := match es.getLast? with
  | none => .none
  | some e => wD e
def atD (es : List Ent) (t : Int) : PyData := lastD (es.filter fun e => decide (e.t ≤ t))
/-- a worth, or None, as a value -/
def WAt (H : Hp) (v : V) (d : PyData) : Prop := (v = .non ∧ d = .none) ∨ ∃ (wa : Addr) (ns : List Int), v = .ref wa ∧ d = .tuple (ns.map .int) ∧ H wa = some (.tup (ns.map V.int))
theorem WAt.dp {K : PySem.W.Frag} {H : Hp} {v : V} {d : PyData} (h : WAt H v d) : Dp K H v d := by
  rcases h with ⟨rfl, rfl⟩ | ⟨wa, ns, rfl, rfl, e⟩
  · exact .non
  · exact .tup (SqT.of e) (dpall_ints _)
theorem WAt.tk {H H' : Hp} {v : V} {d : PyData} (h : WAt H v d) (k : Tk H H') : WAt H' v d := by
  rcases h with z | ⟨wa, ns, a, b, e⟩
  · exact .inl z
  · exact .inr ⟨wa, ns, a, b, k _ _ e⟩
theorem last_shaped {es : List Ent} : SeqAt.shaped (lastD es) = true := by
  unfold lastD
  cases es.getLast? with
  | none => rfl
  | some e =>
    unfold wD SeqAt.shaped
    have : ∀ ns : List Int, PyData.canLayAll0 (ns.map PyData.int) = true ∧ PyData.depthAll (ns.map PyData.int) = 0 := by
      intro ns
      induction ns with
      | nil => exact ⟨rfl, rfl⟩
      | cons n r ih => exact ⟨by simp only [List.map_cons, PyData.canLayAll0, PyData.canLay0, ih.1, Bool.and_self], by simp only [List.map_cons, PyData.depthAll, PyData.depth, ih.2, Nat.max_self]⟩
    simp only [PyData.canLay0, PyData.depth, (this e.w).1, (this e.w).2]
    rfl
theorem Rise.times {es : List Ent} (h : Rise es) : es.Pairwise fun a b => a.t ≤ b.t := h.imp fun h => by
  unfold Ent.lt at h
  omega
/-- those up to a time are a beginning -/
theorem filter_take {es : List Ent} (h : es.Pairwise fun a b => a.t ≤ b.t) (t : Int) : es.filter (fun e => decide (e.t ≤ t)) = es.take (es.filter fun e => decide (e.t ≤ t)).length := by
  induction es with
  | nil => rfl
  | cons x r ih =>
    rw [List.pairwise_cons] at h
    by_cases c : x.t ≤ t
    · rw [List.filter_cons, if_pos (decide_eq_true c), List.length_cons, List.take_succ_cons, ← ih h.2]
    · have : r.filter (fun e => decide (e.t ≤ t)) = [] := List.filter_eq_nil_iff.mpr fun e he => by
        have := h.1 e he
        simp
        omega
      rw [List.filter_cons, if_neg (by simpa using c), this]
      rfl
theorem last_take {es : List Ent} {n : Nat} {e : Ent} (h : es[n]? = some e) : lastD (es.take (n + 1)) = wD e := by
  unfold lastD
  rw [List.take_add_one, h]
  simp
theorem sorted_pair : ∀ (p : Str) (l : List Str), PyProof.Rows.risingS p l = true → (p :: l).Pairwise fun a b => a.cps.toList ≤ b.cps.toList
  | p, [], _ => by simp
  | p, x :: r, h => by
    unfold PyProof.Rows.risingS at h
    rw [Bool.and_eq_true] at h
    have ih := sorted_pair x r h.2
    have hp : p.cps.toList ≤ x.cps.toList := by
      have z := h.1
      rw [PyProof.Rows.ltCps_eq] at z
      have z2 : ¬ x.cps.toList < p.cps.toList := by simpa using z
      exact List.not_lt.mp z2
    rw [List.pairwise_cons]
    refine ⟨fun y hy => ?_, ih⟩
    rcases List.mem_cons.mp hy with rfl | hy
    · exact hp
    · exact List.le_trans hp ((List.pairwise_cons.mp ih).1 y hy)
theorem sortedS_pair {l : List Str} (h : PyProof.Rows.sortedS l = true) : l.Pairwise fun a b => a.cps.toList ≤ b.cps.toList := by
  cases l with
  | nil => exact .nil
  | cons x r => exact sorted_pair x r h
theorem sorted_one {a b c : List Str} (h1 : a.Perm c) (h2 : b.Perm c) (s1 : PyProof.Rows.sortedS a = true) (s2 : PyProof.Rows.sortedS b = true) : a = b := by
  refine List.Perm.eq_of_pairwise (le := fun a b : Str => a.cps.toList ≤ b.cps.toList) (fun x y _ _ p q => ?_) (sortedS_pair s1) (sortedS_pair s2) (h1.trans h2.symm)
  exact TL.ext_tl (List.le_antisymm p q)
theorem kv_keys (m : Tab) : (kvT m).map (·.1) = (m.map (·.1)).map Sum.inr := by
  unfold kvT
  rw [List.map_map, List.map_map]
  rfl
/-! ### the shelf -/

theorem upd_app (H : Hp) (a : Addr) (o : HO) (b : Addr) : upd H a o b = if b = a then some o else H b := by
  by_cases e : b = a
  · subst e; rw [upd_same, if_pos rfl]
  · rw [upd_ne e, if_neg e]
theorem upd_twice {H : Hp} {p : Addr} {o o' : HO} : upd (upd H p o) p o' = upd H p o' := by
  funext b
  rw [upd_app, upd_app, upd_app]
  by_cases e : b = p
  · rw [if_pos e, if_pos e]
  · rw [if_neg e, if_neg e, if_neg e]
theorem lk_hit {k : Str} {v : V} {r : List (Str × V)} : ((k, v) :: r).lookup k = some v := by simp [List.lookup]
theorem lk_skip {k k' : Str} {v : V} {r : List (Str × V)} (h : ¬ k = k') : ((k', v) :: r).lookup k = r.lookup k := by
  have e : (k == k') = false := by simpa using h
  simp [List.lookup, e]
theorem pf_hit {k : Str} {v w : V} {r : List (Str × V)} : putF k v ((k, w) :: r) = (k, v) :: r := by simp [putF]
theorem pf_skip {k k' : Str} {v w : V} {r : List (Str × V)} (h : ¬ k' = k) : putF k v ((k', w) :: r) = (k', w) :: putF k v r := by simp [putF, h]
theorem putF_le (f : Str) (v : V) : ∀ l : List (Str × V), (putF f v l).length ≤ l.length + 1
  | [] => by simp [putF]
  | (k, w) :: r => by
    by_cases e : k = f
    · subst e
      rw [pf_hit]
      simp
    · rw [pf_skip e]
      have := putF_le f v r
      simp only [List.length_cons]
      omega
theorem few0 : ([] : List (Str × V)).length ≤ 0 := by simp
theorem few_up {l : List (Str × V)} {n : Nat} (h : l.length ≤ n) (f : Str) (v : V) : (putF f v l).length ≤ n + 1 := Nat.le_trans (putF_le f v l) (by omega)

theorem take_all {ds : List PyData} {i : Nat} {e : PyData} {f : PyData → Bool} (h : (ds.take i).all f = true) (he : ds[i]? = some e) (hf : f e = true) : (ds.take (i + 1)).all f = true := by
  rw [List.take_add_one, he, List.all_append, h]
  simp [hf]
theorem mem_notall {ds : List PyData} {i : Nat} {e : PyData} {f : PyData → Bool} (he : ds[i]? = some e) (hf : f e = false) : ds.all f = false := by
  rw [← Bool.not_eq_true, List.all_eq_true]
  intro h
  have z := h e (List.mem_of_getElem? he)
  rw [hf] at z
  cases z

def sf (rd lg : V) (le : Bool) (od : Addr) : List (Str × V) := [("rows", rd), ("let_go_to", lg), ("lent", .bl le), ("own_rows", .ref od)]
theorem sf_r (rd lg : V) (le : Bool) (od : Addr) : (sf rd lg le od).lookup ("rows" : Str) = some rd := lk_hit
theorem sf_l (rd lg : V) (le : Bool) (od : Addr) : (sf rd lg le od).lookup ("let_go_to" : Str) = some lg := by unfold sf; rw [lk_skip (by decide +kernel), lk_hit]
theorem sf_t (rd lg : V) (le : Bool) (od : Addr) : (sf rd lg le od).lookup ("lent" : Str) = some (.bl le) := by unfold sf; rw [lk_skip (by decide +kernel), lk_skip (by decide +kernel), lk_hit]
theorem sf_o (rd lg : V) (le : Bool) (od : Addr) : (sf rd lg le od).lookup ("own_rows" : Str) = some (.ref od) := by unfold sf; rw [lk_skip (by decide +kernel), lk_skip (by decide +kernel), lk_skip (by decide +kernel), lk_hit]
theorem sf_no (rd lg : V) (le : Bool) (od : Addr) {m : Str} (h1 : ¬ m = "rows") (h2 : ¬ m = "let_go_to") (h3 : ¬ m = "lent") (h4 : ¬ m = "own_rows") : (sf rd lg le od).lookup m = none := by
  unfold sf
  rw [lk_skip h1, lk_skip h2, lk_skip h3, lk_skip h4]
  rfl
theorem sf_new (rd lg : V) (le : Bool) (od : Addr) : putF "own_rows" (.ref od) (putF "lent" (.bl le) (putF "let_go_to" lg (putF "rows" rd []))) = sf rd lg le od := by
  have z : ∀ (k : Str) (v : V), putF k v [] = [(k, v)] := fun _ _ => rfl
  rw [z]
  repeat (first | rw [pf_skip (by decide +kernel)] | rw [z])
  rfl
theorem putK_self {m : Tab} {k : Str} {r : Addr} {es : List Ent} (h : atT m k = some (r, es)) (nd : (m.map (·.1)).Nodup) : putK (kvT m) (Sum.inr k) (.ref r) = kvT m := by
  rw [putK_kv h]
  unfold kvT
  apply List.map_congr_left
  intro p hp
  by_cases c : p.1 = k
  · rw [if_pos c]
    have := nodup_eq nd hp (atT_mem h) c
    rw [this]
  · rw [if_neg c]
theorem TabAt.frame {H H' : Hp} {d z : Addr} {m : Tab} {w : List (Key × V)} (T : TabAt H d m) (hz : H z = some (.dK w)) (nd : d ≠ z) (keep : ∀ b o, H b = some o → b ≠ z → H' b = some o) : TabAt H' d m := by
  have tk : Tk H H' := fun b xs e => keep b _ e (ne_of e hz (by intro q; cases q))
  refine ⟨keep _ _ T.dict nd, fun q hq => ?_, T.nd, T.na⟩
  obtain ⟨ps, hl, pr⟩ := T.row q hq
  exact ⟨ps, keep _ _ hl (ne_of hl hz (by intro q; cases q)), pr.tk tk⟩
theorem take_iff {es : List Ent} {t : Int} (h : es.Pairwise fun a b => a.t ≤ b.t) {j : Nat} {e : Ent} (he : es[j]? = some e) : e.t ≤ t ↔ j < (es.filter fun e => decide (e.t ≤ t)).length := by
  have ft := filter_take h t
  generalize hF : (es.filter fun e => decide (e.t ≤ t)).length = F at ft ⊢
  constructor
  · intro ht
    rcases Nat.lt_or_ge j F with c | c
    · exact c
    · exfalso
      have e1 := List.take_append_drop F es
      have e2 : (es.filter fun e => decide (e.t ≤ t)).length = ((es.take F).filter fun e => decide (e.t ≤ t)).length + ((es.drop F).filter fun e => decide (e.t ≤ t)).length := by
        conv => lhs; rw [← e1]
        rw [List.filter_append, List.length_append]
      have e3 : (es.take F).filter (fun e => decide (e.t ≤ t)) = es.take F := by
        rw [← ft, List.filter_filter]
        simp
      rw [hF, e3, ← ft, hF] at e2
      have e4 : ((es.drop F).filter fun e => decide (e.t ≤ t)) = [] := List.eq_nil_of_length_eq_zero (by omega)
      have e5 : e ∈ (es.drop F).filter fun e => decide (e.t ≤ t) := List.mem_filter.mpr ⟨List.mem_iff_getElem?.mpr ⟨j - F, by rw [List.getElem?_drop, show F + (j - F) = j by omega]; exact he⟩, decide_eq_true ht⟩
      rw [e4] at e5
      cases e5
  · intro hj
    have : e ∈ es.take F := List.mem_iff_getElem?.mpr ⟨j, by rw [List.getElem?_take, if_pos hj]; exact he⟩
    rw [← ft] at this
    exact of_decide_eq_true (List.mem_filter.mp this).2
section
open PySem PySem.Builtin.Str
theorem take_lt {f : Nat → Bool} : ∀ {l : List Nat}, (∃ c ∈ l, f c = false) → (l.takeWhile f).length < l.length
  | [], h => by
    obtain ⟨c, hc, _⟩ := h
    cases hc
  | x :: r, h => by
    rw [List.takeWhile_cons]
    cases hx : f x with
    | false => simp
    | true =>
      obtain ⟨c, hc, e⟩ := h
      have hr : c ∈ r := by
        rcases List.mem_cons.mp hc with rfl | hc
        · rw [hx] at e
          cases e
        · exact hc
      have := take_lt (f := f) (l := r) ⟨c, hr, e⟩
      simp only [if_true, List.length_cons]
      omega
theorem take_whole {f : Nat → Bool} : ∀ {l : List Nat}, (∀ c ∈ l, f c = true) → l.takeWhile f = l
  | [], _ => rfl
  | x :: r, h => by
    rw [List.takeWhile_cons, h x (List.mem_cons_self ..), if_pos rfl, take_whole fun c hc => h c (List.mem_cons_of_mem _ hc)]
theorem take_drop_no {f : Nat → Bool} : ∀ {l : List Nat}, (∃ c ∈ l, f c = false) → ∃ c ∈ l.drop (l.takeWhile f).length, f c = false
  | [], h => by
    obtain ⟨c, hc, _⟩ := h
    cases hc
  | x :: r, h => by
    rw [List.takeWhile_cons]
    cases hx : f x with
    | false => exact ⟨x, List.mem_cons_self .., hx⟩
    | true =>
      obtain ⟨c, hc, e⟩ := h
      have hr : c ∈ r := by
        rcases List.mem_cons.mp hc with rfl | hc
        · rw [hx] at e
          cases e
        · exact hc
      obtain ⟨c2, h2, e2⟩ := take_drop_no (f := f) (l := r) ⟨c, hr, e⟩
      exact ⟨c2, by simpa using h2, e2⟩
/-- a text whose signs are all struck off at the ends -/
theorem strip_empty (z b : Str) : (Txt.stripChars z b = (⟨#[]⟩ : Str)) ↔ ∀ c ∈ z.cps.toList, b.cps.contains c = true := by
  have hz : z.length = z.cps.toList.length := (Array.length_toList (xs := z.cps)).symm
  constructor
  · intro h
    by_cases ha : ∀ c ∈ z.cps.toList, b.cps.contains c = true
    · exact ha
    · exfalso
      have hn : ∃ c ∈ z.cps.toList, b.cps.contains c = false := by
        apply Classical.byContradiction
        intro hno
        apply ha
        intro c hc
        cases e : b.cps.contains c with
        | true => rfl
        | false => exact absurd ⟨c, hc, e⟩ hno
      have l1 := take_lt hn
      have l2 := take_lt (f := b.cps.contains) (l := (z.cps.toList.drop (z.cps.toList.takeWhile b.cps.contains).length).reverse) (by
        obtain ⟨c, hc, e⟩ := take_drop_no hn
        exact ⟨c, List.mem_reverse.mpr hc, e⟩)
      rw [List.length_reverse, List.length_drop] at l2
      unfold Txt.stripChars Txt.stripBy at h
      split at h
      · have : z.cps.toList.length = 0 := by rw [h]; rfl
        omega
      · have h3 := congrArg (fun s : Str => s.cps.size) h
        simp only [stripped, strSub, Array.size_extract, stripLo, stripHi, if_true] at h3
        have hs : z.cps.size = z.cps.toList.length := (Array.length_toList (xs := z.cps)).symm
        have he : (#[] : Array Nat).size = 0 := rfl
        rw [he] at h3
        omega
  · intro ha
    have e1 := take_whole ha
    have lo : stripLo b.cps.contains true z = z.cps.toList.length := by
      unfold stripLo
      rw [if_pos rfl, e1]
    have hi : stripHi b.cps.contains true z (z.cps.toList.length) = z.cps.toList.length := by
      unfold stripHi
      rw [if_pos rfl, List.drop_length]
      exact hz
    unfold Txt.stripChars Txt.stripBy
    split
    next h =>
      unfold stripSame at h
      rw [lo, hi] at h
      simp only [Bool.and_eq_true, beq_iff_eq] at h
      have hl : z.cps.toList = [] := List.length_eq_zero_iff.mp h.1
      cases z with
      | mk cps =>
        have : cps = #[] := Array.toList_inj.mp hl
        rw [this]
    next h =>
      unfold stripped
      rw [lo, hi]
      unfold strSub
      have : z.cps.extract z.cps.toList.length z.cps.toList.length = #[] := by
        apply Array.toList_inj.mp
        simp
      rw [this]
end
theorem strip_key (z : Str) : decide (V.str (Txt.stripChars z (Str.ofString "abcdefghijklmnopqrstuvwxyz")) = V.str (Str.ofString "")) = z.cps.toList.all ltr := by
  have e0 : Str.ofString "" = (⟨#[]⟩ : Str) := by decide +kernel
  have hc : ∀ c, (Str.ofString "abcdefghijklmnopqrstuvwxyz").cps.contains c = ltr c := fun c => by
    rw [← letters_in c, Bool.eq_iff_iff]
    simp
  rw [e0, Bool.eq_iff_iff, decide_eq_true_eq, V.str.injEq, strip_empty, List.all_eq_true]
  constructor
  · intro h c m
    rw [← hc c]
    exact h c m
  · intro h c m
    rw [hc c]
    exact h c m
/-! ### a shelf whose rows may be lent -/
structure Stp (S : List Addr) (H : Hp) (S' : List Addr) (H' : Hp) : Prop where
  of ::
  fr : ∀ c o, ¬ c ∈ S → H c = some o → H' c = some o
  ow : ∀ c ∈ S', c ∈ S ∨ H c = none
theorem Stp.refl (S : List Addr) (H : Hp) : Stp S H S H := ⟨fun _ _ _ e => e, fun _ z => .inl z⟩
theorem Stp.trans {S S1 S2 : List Addr} {H H1 H2 : Hp} (a : Stp S H S1 H1) (b : Stp S1 H1 S2 H2) : Stp S H S2 H2 := by
  refine ⟨fun c o n e => b.fr c o (fun z => ?_) (a.fr c o n e), fun c z => ?_⟩
  · rcases a.ow c z with y | y
    · exact n y
    · rw [e] at y; cases y
  · rcases b.ow c z with y | y
    · exact a.ow c y
    · cases e : H c with
      | none => exact .inr rfl
      | some o =>
        by_cases n : c ∈ S
        · exact .inl n
        · rw [a.fr c o n e] at y; cases y
theorem Stp.same {S S1 : List Addr} {H H1 H2 : Hp} (a : Stp S H S1 H1) (k : Same H1 H2) : Stp S H S1 H2 := ⟨fun c o n e => k c o (a.fr c o n e), a.ow⟩
theorem Stp.pre {S S1 : List Addr} {H H1 H2 : Hp} (a : Stp S H1 S1 H2) (k : Same H H1) : Stp S H S1 H2 := ⟨fun c o n e => a.fr c o n (k c o e), fun c z => (a.ow c z).imp id fun y => k.free y⟩
def ownL (os : List Str) : List (Key × V) := os.map fun k => (Sum.inr k, V.bl true)
theorem val_ownL (os : List Str) (k : Str) : (valV (ownL os) (Sum.inr k)).isSome = decide (k ∈ os) := by
  unfold ownL valV
  rw [List.find?_map, Option.map_map, Option.isSome_map]
  induction os with
  | nil => rfl
  | cons x r ih =>
    rw [List.find?_cons]
    by_cases c : x = k
    · subst c
      simp
    · have e : ((fun kv : Key × V => decide (kv.1 = Sum.inr k)) ∘ fun k : Str => ((Sum.inr k : Key), V.bl true)) x = false := by
        show decide ((Sum.inr x : Key) = Sum.inr k) = false
        exact decide_eq_false fun z => c (Sum.inr.inj z)
      rw [e]
      show Option.isSome (List.find? _ r) = _
      rw [ih]
      exact decide_eq_decide.mpr ⟨fun h => .tail _ h, fun h => (List.mem_cons.mp h).elim (fun z => absurd z.symm c) id⟩
/-- the keys with k among them -/
def addO (os : List Str) (k : Str) : List Str := if k ∈ os then os else os ++ [k]
theorem addO_mem {os : List Str} {k j : Str} : j ∈ addO os k ↔ j ∈ os ∨ j = k := by
  unfold addO
  by_cases c : k ∈ os
  · rw [if_pos c]
    exact ⟨.inl, fun h => h.elim id fun z => z ▸ c⟩
  · rw [if_neg c, List.mem_append, List.mem_singleton]
theorem addO_nd {os : List Str} (h : os.Nodup) (k : Str) : (addO os k).Nodup := by
  unfold addO
  by_cases c : k ∈ os
  · rw [if_pos c]; exact h
  · rw [if_neg c]
    exact List.nodup_append.mpr ⟨h, List.nodup_cons.mpr ⟨fun z => (by cases z), List.nodup_nil⟩, fun a ha b hb => by
      cases List.mem_singleton.mp hb
      exact fun e => c (e ▸ ha)⟩
theorem own_add (os : List Str) (k : Str) : putK (ownL os) (Sum.inr k) (.bl true) = ownL (addO os k) := by
  unfold addO
  by_cases c : k ∈ os
  · rw [if_pos c]
    unfold putK
    rw [valV_any, val_ownL, decide_eq_true c, if_pos rfl]
    unfold ownL
    rw [List.map_map]
    refine List.map_congr_left fun p _ => ?_
    show (if (Sum.inr p : Key) = Sum.inr k then ((Sum.inr p : Key), V.bl true) else ((Sum.inr p : Key), V.bl true)) = _
    by_cases e : p = k
    · rw [if_pos (congrArg Sum.inr e)]
    · rw [if_neg (fun z => e (Sum.inr.inj z))]
  · rw [if_neg c, putK_new]
    · unfold ownL
      rw [List.map_append]
      rfl
    · have z := val_ownL os k
      rw [decide_eq_false c] at z
      cases hz : valV (ownL os) (Sum.inr k) with
      | none => rfl
      | some v => rw [hz] at z; cases z
theorem nodup_leS {α : Type} [DecidableEq α] : ∀ {l m : List α}, l.Nodup → (∀ x ∈ l, x ∈ m) → l.length ≤ m.length := by
  intro l
  induction l with
  | nil => intro m _ _; exact Nat.zero_le _
  | cons y r ih =>
    intro m hn hs
    obtain ⟨a, b⟩ := List.nodup_cons.mp hn
    have hy : y ∈ m := hs y (.head _)
    have := ih (m := m.erase y) b fun z hz => (List.mem_erase_of_ne (fun e => a (by rw [← e]; exact hz))).mpr (hs z (.tail _ hz))
    have e := List.length_erase_of_mem hy
    have hp := List.length_pos_of_mem hy
    rw [List.length_cons]
    omega
/-- addresses of the rows that are a shelf's own -/
def rowsO (os : List Str) (m : Tab) : List Addr := (m.filter fun p => decide (p.1 ∈ os)).map (·.2.1)
def ownS (x rd od : Addr) (le : Bool) (os : List Str) (m : Tab) : List Addr := x :: od :: (if le then [] else rd :: rowsO os m)
def supS (x rd od : Addr) (m : Tab) : List Addr := x :: od :: rd :: m.map (·.2.1)
theorem rowsO_mem {os : List Str} {m : Tab} {c : Addr} : c ∈ rowsO os m ↔ ∃ p ∈ m, p.1 ∈ os ∧ p.2.1 = c := by
  unfold rowsO
  rw [List.mem_map]
  constructor
  · rintro ⟨p, hp, e⟩
    obtain ⟨h1, h2⟩ := List.mem_filter.mp hp
    exact ⟨p, h1, of_decide_eq_true h2, e⟩
  · rintro ⟨p, hp, ho, e⟩
    exact ⟨p, List.mem_filter.mpr ⟨hp, decide_eq_true ho⟩, e⟩
theorem own_sup {x rd od : Addr} {le : Bool} {os : List Str} {m : Tab} {c : Addr} (h : c ∈ ownS x rd od le os m) : c ∈ supS x rd od m := by
  unfold ownS at h
  unfold supS
  rcases List.mem_cons.mp h with rfl | h
  · exact .head _
  rcases List.mem_cons.mp h with rfl | h
  · exact .tail _ (.head _)
  cases le with
  | true => cases h
  | false =>
    rcases List.mem_cons.mp h with rfl | h
    · exact .tail _ (.tail _ (.head _))
    · obtain ⟨p, hp, _, rfl⟩ := rowsO_mem.mp h
      exact .tail _ (.tail _ (.tail _ (List.mem_map_of_mem (f := fun p : Str × Addr × List Ent => p.2.1) hp)))
structure ShelfAt (C : Addr) (H : Hp) (x rd od : Addr) (le : Bool) (os : List Str) (m : Tab) (lg : V) : Prop where
  ins : ∃ dx, H x = some (.ins C dx (sf (.ref rd) lg le od))
  tab : TabAt H rd m
  own : H od = some (.dK (ownL os))
  nod : od ≠ rd
  fit : le = false → os.Nodup ∧ ∀ k ∈ os, k ∈ m.map (·.1)
theorem ShelfAt.same {C : Addr} {H H' : Hp} {x rd od : Addr} {le : Bool} {os : List Str} {m : Tab} {lg : V} (h : ShelfAt C H x rd od le os m lg) (k : Same H H') : ShelfAt C H' x rd od le os m lg := by
  obtain ⟨dx, e⟩ := h.ins
  exact ⟨⟨dx, k _ _ e⟩, h.tab.same k, k _ _ h.own, h.nod, h.fit⟩
/-- stands where its own and what it stands on stay -/
theorem TabAt.keep {H H' : Hp} {d : Addr} {m : Tab} (T : TabAt H d m) (tk : Tk H H') (kd : ∀ o, H d = some o → H' d = some o) (kr : ∀ p ∈ m, ∀ o, H p.2.1 = some o → H' p.2.1 = some o) : TabAt H' d m := by
  refine ⟨kd _ T.dict, fun q hq => ?_, T.nd, T.na⟩
  obtain ⟨ps, hl, pr⟩ := T.row q hq
  exact ⟨ps, kr q hq _ hl, pr.tk tk⟩
theorem ShelfAt.keep {C : Addr} {H H' : Hp} {x rd od : Addr} {le : Bool} {os : List Str} {m : Tab} {lg : V} (h : ShelfAt C H x rd od le os m lg) (tk : Tk H H') (k : ∀ c ∈ supS x rd od m, ∀ o, H c = some o → H' c = some o) : ShelfAt C H' x rd od le os m lg := by
  obtain ⟨dx, e⟩ := h.ins
  exact ⟨⟨dx, k _ (.head _) _ e⟩, h.tab.keep tk (k _ (.tail _ (.tail _ (.head _)))) (fun p hp => k _ (.tail _ (.tail _ (.tail _ (List.mem_map_of_mem (f := fun p : Str × Addr × List Ent => p.2.1) hp))))), k _ (.tail _ (.head _)) _ h.own, h.nod, h.fit⟩
theorem ShelfAt.al {C : Addr} {H : Hp} {x rd od : Addr} {le : Bool} {os : List Str} {m : Tab} {lg : V} (h : ShelfAt C H x rd od le os m lg) : ∀ c ∈ supS x rd od m, ∃ o, H c = some o ∧ ∀ xs, o ≠ .tup xs := by
  intro c hc
  obtain ⟨dx, e⟩ := h.ins
  rcases List.mem_cons.mp hc with rfl | hc
  · exact ⟨_, e, fun _ z => by cases z⟩
  rcases List.mem_cons.mp hc with rfl | hc
  · exact ⟨_, h.own, fun _ z => by cases z⟩
  rcases List.mem_cons.mp hc with rfl | hc
  · exact ⟨_, h.tab.dict, fun _ z => by cases z⟩
  obtain ⟨p, hp, rfl⟩ := List.mem_map.mp hc
  obtain ⟨ps, hl, _⟩ := h.tab.row p hp
  exact ⟨_, hl, fun _ z => by cases z⟩

theorem Stp.tk {S S1 : List Addr} {H H1 : Hp} (a : Stp S H S1 H1) (n : ∀ c ∈ S, ∀ xs, H c ≠ some (.tup xs)) : Tk H H1 := fun b xs e => a.fr b _ (fun z => n b z xs e) e
theorem ShelfAt.ntup {C : Addr} {H : Hp} {x rd od : Addr} {le : Bool} {os : List Str} {m : Tab} {lg : V} (h : ShelfAt C H x rd od le os m lg) : ∀ c ∈ ownS x rd od le os m, ∀ xs, H c ≠ some (.tup xs) := fun c hc xs e => by
  obtain ⟨o, e2, n⟩ := h.al c (own_sup hc)
  rw [e] at e2
  cases e2
  exact n xs rfl
/-- a shelf beside a step of another one -/
theorem ShelfAt.step {C : Addr} {H H' : Hp} {x rd od : Addr} {le : Bool} {os : List Str} {m : Tab} {lg : V} {S S' : List Addr} (h : ShelfAt C H x rd od le os m lg) (k : Stp S H S' H') (n : ∀ c ∈ S, ∀ xs, H c ≠ some (.tup xs)) (d : ∀ c ∈ supS x rd od m, ¬ c ∈ S) : ShelfAt C H' x rd od le os m lg :=
  h.keep (k.tk n) fun c hc o e => k.fr c o (d c hc) e
theorem atT_keys {m : Tab} {k : Str} : (atT m k).isSome = decide (k ∈ m.map (·.1)) := by
  rw [← hasC_ct]
  unfold hasC ct
  rw [List.any_map]
  rw [Bool.eq_iff_iff, List.any_eq_true, decide_eq_true_eq, List.mem_map]
  exact ⟨fun ⟨p, hp, e⟩ => ⟨p, hp, of_decide_eq_true e⟩, fun ⟨p, hp, e⟩ => ⟨p, hp, decide_eq_true e⟩⟩
theorem putN_keys (m : Tab) (k : Str) (n : Addr) (e : Ent) : ∀ j, j ∈ (putN m k n e).map (·.1) ↔ j ∈ m.map (·.1) ∨ j = k := fun j => by
  unfold putN
  cases ha : atT m k with
  | none =>
    show j ∈ (m ++ [(k, n, [e])]).map (·.1) ↔ _
    rw [List.map_append, List.mem_append]
    exact or_congr Iff.rfl List.mem_singleton
  | some q =>
    show j ∈ (m.map fun p => if p.1 = k then (p.1, n, p.2.2 ++ [e]) else p).map (·.1) ↔ _
    have e1 : (m.map fun p => if p.1 = k then (p.1, n, p.2.2 ++ [e]) else p).map (·.1) = m.map (·.1) := by
      rw [List.map_map]
      refine List.map_congr_left fun p _ => ?_
      by_cases z : p.1 = k <;> simp [z]
    rw [e1]
    have hk : k ∈ m.map (·.1) := List.mem_map.mpr ⟨_, atT_mem ha, rfl⟩
    exact ⟨.inl, fun h => h.elim id fun z => z ▸ hk⟩
theorem putT_keys {m : Tab} {k : Str} {q : Addr × List Ent} (ha : atT m k = some q) (n : Addr) (e : Ent) : (putT m k n e).map (·.1) = m.map (·.1) := by
  unfold putT
  rw [ha]
  show (m.map fun p => if p.1 = k then (p.1, p.2.1, p.2.2 ++ [e]) else p).map (·.1) = _
  rw [List.map_map]
  refine List.map_congr_left fun p _ => ?_
  by_cases z : p.1 = k <;> simp [z]
theorem putT_addrs {m : Tab} {k : Str} {q : Addr × List Ent} (ha : atT m k = some q) (n : Addr) (e : Ent) : ∀ p ∈ putT m k n e, ∃ p0 ∈ m, p0.1 = p.1 ∧ p0.2.1 = p.2.1 := by
  intro p hp
  unfold putT at hp
  rw [ha] at hp
  obtain ⟨p0, h0, rfl⟩ := List.mem_map.mp hp
  refine ⟨p0, h0, ?_⟩
  by_cases z : p0.1 = k <;> simp [z]
theorem putN_addrs (m : Tab) (k : Str) (n : Addr) (e : Ent) : ∀ p ∈ putN m k n e, (p.1 = k ∧ p.2.1 = n) ∨ (p.1 ≠ k ∧ p ∈ m) := by
  intro p hp
  unfold putN at hp
  cases ha : atT m k with
  | none =>
    rw [ha] at hp
    rcases List.mem_append.mp hp with h | h
    · exact .inr ⟨fun z => atT_none ha p h z, h⟩
    · cases List.mem_singleton.mp h
      exact .inl ⟨rfl, rfl⟩
  | some q =>
    rw [ha] at hp
    obtain ⟨p0, h0, rfl⟩ := List.mem_map.mp hp
    by_cases z : p0.1 = k
    · exact .inl (by simp [z])
    · exact .inr (by rw [if_neg z]; exact ⟨z, h0⟩)
structure Kok (k : Str) : Prop where
  sh : Sh 20 k
  kd : keyD (.str k) = true
theorem k6_ok : ∀ k ∈ (["a", "b", "ab", "zzzzzz", "house", "q"] : List Str), Kok k := by
  intro k hk
  simp only [List.mem_cons, List.not_mem_nil, or_false] at hk
  rcases hk with rfl | rfl | rfl | rfl | rfl | rfl <;> exact ⟨⟨by decide, by decide⟩, by decide +kernel⟩
/-- a time that was not let go -/
def LgOk (lg : V) (t : Int) : Prop := lg = .non ∨ ∃ g : Int, lg = .int g ∧ g ≤ t
/-! ### promises -/
def spWholeD (K : PySem.W.Frag) : Sp := fun vs H Q _ => ∃ (v : V) (d : PyData), vs = [v] ∧ An K H v d ∧ Q (.bl (wholeD d)) H
def spRowN (K : PySem.W.Frag) : Sp := fun vs H Q _ => ∃ (v : V) (d : PyData) (lo hi : Nat), vs = [v, .int lo, .int hi] ∧ An K H v d ∧ hi ≤ 100 ∧ ∀ H', Same H H' → Q (.bl (rowN d lo hi)) H'
def spStampT : Sp := fun vs H Q _ => ∃ (p : Addr) (t s h : Int), vs = [.ref p] ∧ H p = some (.tup [.int t, .int s, .int h]) ∧ 0 ≤ s ∧ 0 ≤ h ∧ ∀ H', Same H H' → Q (.bl true) H'
def spKeyT : Sp := fun vs H Q _ => ∃ (k : Str), vs = [.str k] ∧ Kok k ∧ ∀ H', Same H H' → Q (.bl true) H'
def spKeyN : Sp := fun vs H Q _ => ∃ (k : Str), vs = [.str k] ∧ Kok k ∧ ∀ H', Same H H' → Q .non H'
def spWorthT : Sp := fun vs H Q _ => ∃ (p : Addr) (ns : List Int), vs = [.ref p] ∧ H p = some (.tup (ns.map V.int)) ∧ 1 ≤ ns.length ∧ ns.length ≤ 4 ∧ ∀ H', Same H H' → Q (.bl true) H'
def spTimeN : Sp := fun vs H Q _ => ∃ (t : Int), vs = [.int t] ∧ Q .non H
def spMany : Sp := fun vs H Q _ => ∃ (a : Addr) (es : List Ent) (t : Int), vs = [.ref a, .int t] ∧ RowAt H a es ∧ es.length ≤ 1000 ∧ es.Pairwise (fun a b => a.t ≤ b.t) ∧ ∀ H', Same H H' → Q (.int (es.filter fun e => decide (e.t ≤ t)).length) H'
def spRowOf (C : Addr) : Sp := fun vs H Q _ => ∃ (x rd od : Addr) (le : Bool) (os : List Str) (k : Str) (m : Tab) (lg : V), vs = [.ref x, .str k] ∧ ShelfAt C H x rd od le os m lg ∧ Kok k ∧ ∀ (r : Addr) (H' : Hp), Same H H' → RowAt H' r (esT m k) → ((∃ es, atT m k = some (r, es)) ∨ (atT m k = none ∧ H r = none)) → Q (.ref r) H'
def spVersions (C : Addr) : Sp := fun vs H Q _ => ∃ (x rd od : Addr) (le : Bool) (os : List Str) (k : Str) (m : Tab) (lg : V), vs = [.ref x, .str k] ∧ ShelfAt C H x rd od le os m lg ∧ Kok k ∧ ∀ (r : Addr) (H' : Hp), H r = none → Same H H' → RowAt H' r (esT m k) → Q (.ref r) H'
def spKeys (C : Addr) : Sp := fun vs H Q _ => ∃ (x rd od : Addr) (le : Bool) (os : List Str) (m : Tab) (lg : V), vs = [.ref x] ∧ ShelfAt C H x rd od le os m lg ∧ m.length ≤ 40 ∧ ∀ (r : Addr) (ys : List Str) (H' : Hp), H r = none → Same H H' → H' r = some (.lst (ys.map V.str)) → ys.Perm (m.map (·.1)) → PyProof.Rows.sortedS ys = true → Q (.ref r) H'
def spNewest (K : PySem.W.Frag) (C : Addr) : Sp := fun vs H Q _ => ∃ (x rd od : Addr) (le : Bool) (os : List Str) (k : Str) (m : Tab) (lg : V), vs = [.ref x, .str k] ∧ ShelfAt C H x rd od le os m lg ∧ Kok k ∧ ∀ (v : V) (H' : Hp), Same H H' → WAt H' v (lastD (esT m k)) → Q v H'
def spAt (K : PySem.W.Frag) (C : Addr) : Sp := fun vs H Q _ => ∃ (x rd od : Addr) (le : Bool) (os : List Str) (k : Str) (t : Int) (m : Tab) (lg : V), vs = [.ref x, .str k, .int t] ∧ ShelfAt C H x rd od le os m lg ∧ LgOk lg t ∧ Kok k ∧ (esT m k).length ≤ 1000 ∧ (esT m k).Pairwise (fun a b => a.t ≤ b.t) ∧ ∀ (v : V) (H' : Hp), Same H H' → WAt H' v (atD (esT m k) t) → Q v H'
def spGoneN (C : Addr) : Sp := fun vs H Q _ => ∃ (x rd od : Addr) (le : Bool) (os : List Str) (m : Tab) (t : Int) (lg : V), vs = [.ref x, .int t] ∧ ShelfAt C H x rd od le os m lg ∧ LgOk lg t ∧ Q .non H
def spLen (C : Addr) : Sp := fun vs H Q _ => ∃ (x rd od : Addr) (le : Bool) (os : List Str) (m : Tab) (lg : V), vs = [.ref x] ∧ ShelfAt C H x rd od le os m lg ∧ tot (ct m) ≤ 1000 ∧ ∀ H', Same H H' → Q (.int (tot (ct m) : Nat)) H'
theorem last_at {α : Type} {l : List α} {x : α} (h : l.getLast? = some x) : atI l (-1) = some x := by
  cases l with
  | nil => cases h
  | cons a r =>
    obtain ⟨ys, e⟩ := List.getLast?_eq_some_iff.mp h
    rw [e]
    exact atI_last _ _

theorem iq {Q : VK} {H : Hp} {i j : Int} (e : i = j) (q : Q (.int i) H) : Q (.int j) H := e ▸ q
theorem ge_no {l e : Ent} (h : l.lt e) : Ob.lexAt (fun j => decide ([l.t, l.s, l.h].getD j 0 = [e.t, e.s, e.h].getD j 0)) (fun j => decide ([e.t, e.s, e.h].getD j 0 ≤ [l.t, l.s, l.h].getD j 0)) (decide ([l.t, l.s, l.h].length ≥ [e.t, e.s, e.h].length)) 0 (min [l.t, l.s, l.h].length [e.t, e.s, e.h].length) = false := by
  show (if decide (l.t = e.t) = true then (if decide (l.s = e.s) = true then (if decide (l.h = e.h) = true then true else decide (e.h ≤ l.h)) else decide (e.s ≤ l.s)) else decide (e.t ≤ l.t)) = false
  unfold Ent.lt at h
  by_cases a : l.t = e.t
  · rw [if_pos (decide_eq_true a)]
    by_cases b : l.s = e.s
    · rw [if_pos (decide_eq_true b)]
      have c : ¬ l.h = e.h := by omega
      rw [decide_eq_false c, if_neg (by decide)]
      exact decide_eq_false (by omega)
    · rw [decide_eq_false b, if_neg (by decide)]
      exact decide_eq_false (by omega)
  · rw [decide_eq_false a, if_neg (by decide)]
    exact decide_eq_false (by omega)
theorem keys_kv (m : Tab) : ((kvT m).map fun kv => kV kv.1) = (m.map (·.1)).map V.str := by
  unfold kvT
  rw [List.map_map, List.map_map]
  rfl
theorem TabAt.at_kind {H : Hp} {d : Addr} {m : Tab} (T : TabAt H d m) {p : Str × Addr × List Ent} (hp : p ∈ m) : p.2.1 ≠ d := by
  obtain ⟨ps, hl, _⟩ := T.row p hp
  exact ne_of hl T.dict (by intro q; cases q)
section
variable {J : It} {n : Nat} {G : Hp → Prop} {Y : Nat → Hp → V → Hp → Prop}
theorem lc2_it (w : Walk J n G Y) {g g1 : TG} {tt tt1 : TT} {wi1 : TI} {te : TE} {vs vs1 : List Nat} {σ : L2.St} {H1 : Hp} {D : Addr} {Qd : Hp → Prop} (Pv : Nat → Hp → Prop) (h0 : Pv 0 (upd H1 D (.lst []))) (hG : ∀ i H, i ≤ n → Pv i H → G H)
    (hs : ∀ i x H H', i < n → Pv i H → Y i H x H' → g x (wipe σ vs) H' fun σ2 H2 => wipe σ2 vs = wipe σ vs ∧ tt σ2 H2 fun b H3 =>
      if b = true then wi1 σ2 H3 fun J1 H4 => ∃ W1 : Nat → Nat → Hp → Prop, (∃ m, W1 0 m H4) ∧ ∀ j k H, W1 j k H →
        (J1.stop j H ∧ Pv (i + 1) H) ∨ (J1.go j H ∧ ∃ Nx1 : Hp → Prop, (∀ H', Nx1 H' → ∃ k', k' < k ∧ W1 (j + 1) k' H') ∧ ∀ x H', J1.yld j H x H' → g1 x (wipe σ2 vs1) H' fun σ3 H5 => wipe σ3 vs1 = wipe σ2 vs1 ∧ tt1 σ3 H5 fun b H6 =>
          if b = true then te σ3 H6 fun y H7 => ∃ acc, H7 D = some (.lst acc) ∧ acc.length < sizeLine ∧ Nx1 (upd H7 D (.lst (acc ++ [y]))) else Nx1 H6)
      else Pv (i + 1) H3) (hd : ∀ H, Pv n H → Qd H) :
    ∃ W : Nat → Nat → Hp → Prop, (∃ m, W 0 m (upd H1 D (.lst []))) ∧ ∀ i m H, W i m H →
      (J.stop i H ∧ Qd H) ∨ (J.go i H ∧ ∃ Nx : Hp → Prop, (∀ H', Nx H' → ∃ m', m' < m ∧ W (i + 1) m' H') ∧ ∀ x H', J.yld i H x H' → g x (wipe σ vs) H' fun σ2 H2 => wipe σ2 vs = wipe σ vs ∧ tt σ2 H2 fun b H3 =>
        if b = true then wi1 σ2 H3 fun J1 H4 => ∃ W1 : Nat → Nat → Hp → Prop, (∃ m, W1 0 m H4) ∧ ∀ j k H, W1 j k H →
          (J1.stop j H ∧ Nx H) ∨ (J1.go j H ∧ ∃ Nx1 : Hp → Prop, (∀ H', Nx1 H' → ∃ k', k' < k ∧ W1 (j + 1) k' H') ∧ ∀ x H', J1.yld j H x H' → g1 x (wipe σ2 vs1) H' fun σ3 H5 => wipe σ3 vs1 = wipe σ2 vs1 ∧ tt1 σ3 H5 fun b H6 =>
            if b = true then te σ3 H6 fun y H7 => ∃ acc, H7 D = some (.lst acc) ∧ acc.length < sizeLine ∧ Nx1 (upd H7 D (.lst (acc ++ [y]))) else Nx1 H6)
        else Nx H3) := by
  refine ⟨fun i m H => m = n - i ∧ i ≤ n ∧ Pv i H, ⟨n, by simp, Nat.zero_le _, h0⟩, ?_⟩
  rintro i m H ⟨rfl, hi, p⟩
  have q := hG i H hi p
  by_cases hlt : i < n
  · refine .inr ⟨w.goes i H hlt q, Pv (i + 1), fun H' p' => ⟨n - (i + 1), by omega, rfl, hlt, p'⟩, fun x H' y => hs i x H H' hlt p (w.yields i H x H' hlt q y)⟩
  · have e : i = n := by omega
    subst e
    exact .inl ⟨w.stops H q, hd H p⟩
theorem in_it (w : Walk J n G Y) {g1 : TG} {tt1 : TT} {te : TE} {vs1 : List Nat} {σ2 : L2.St} {H4 : Hp} {D : Addr} {Nx : Hp → Prop} (Pv : Nat → Hp → Prop) (h0 : Pv 0 H4) (hG : ∀ i H, i ≤ n → Pv i H → G H)
    (hs : ∀ i x H H', i < n → Pv i H → Y i H x H' → g1 x (wipe σ2 vs1) H' fun σ3 H5 => wipe σ3 vs1 = wipe σ2 vs1 ∧ tt1 σ3 H5 fun b H6 =>
      if b = true then te σ3 H6 fun y H7 => ∃ acc, H7 D = some (.lst acc) ∧ acc.length < sizeLine ∧ Pv (i + 1) (upd H7 D (.lst (acc ++ [y]))) else Pv (i + 1) H6) (hd : ∀ H, Pv n H → Nx H) :
    ∃ W1 : Nat → Nat → Hp → Prop, (∃ m, W1 0 m H4) ∧ ∀ j k H, W1 j k H →
      (J.stop j H ∧ Nx H) ∨ (J.go j H ∧ ∃ Nx1 : Hp → Prop, (∀ H', Nx1 H' → ∃ k', k' < k ∧ W1 (j + 1) k' H') ∧ ∀ x H', J.yld j H x H' → g1 x (wipe σ2 vs1) H' fun σ3 H5 => wipe σ3 vs1 = wipe σ2 vs1 ∧ tt1 σ3 H5 fun b H6 =>
        if b = true then te σ3 H6 fun y H7 => ∃ acc, H7 D = some (.lst acc) ∧ acc.length < sizeLine ∧ Nx1 (upd H7 D (.lst (acc ++ [y]))) else Nx1 H6) := by
  refine ⟨fun i m H => m = n - i ∧ i ≤ n ∧ Pv i H, ⟨n, by simp, Nat.zero_le _, h0⟩, ?_⟩
  rintro i m H ⟨rfl, hi, p⟩
  have q := hG i H hi p
  by_cases hlt : i < n
  · refine .inr ⟨w.goes i H hlt q, Pv (i + 1), fun H' p' => ⟨n - (i + 1), by omega, rfl, hlt, p'⟩, fun x H' y => hs i x H H' hlt p (w.yields i H x H' hlt q y)⟩
  · have e : i = n := by omega
    subst e
    exact .inl ⟨w.stops H q, hd H p⟩
end

def spInit (C : Addr) : Sp := fun vs H Q _ => ∃ (x dx : Addr), vs = [.ref x] ∧ H x = some (.ins C dx []) ∧ ∀ (rd od : Addr) (H' : Hp), H rd = none → H od = none → (∀ b o, b ≠ x → H b = some o → H' b = some o) → ShelfAt C H' x rd od false [] [] .non → Q .non H'
def spOwn (C : Addr) : Sp := fun vs H Q _ => ∃ (x rd od : Addr) (le : Bool) (os : List Str) (m : Tab) (lg : V), vs = [.ref x] ∧ ShelfAt C H x rd od le os m lg ∧ ∀ (rd' od' : Addr) (H' : Hp), ShelfAt C H' x rd' od' false (if le then [] else os) m lg → (∀ b o, b ≠ x → H b = some o → H' b = some o) → (rd' = rd ∨ H rd' = none) → (od' = od ∨ H od' = none) → (le = false → rd' = rd ∧ od' = od) → (le = true → H rd' = none ∧ H od' = none) → Q .non H'
def spPut (C : Addr) : Sp := fun vs H Q _ => ∃ (x rd od sa wa : Addr) (le : Bool) (os : List Str) (k : Str) (m : Tab) (lg : V) (e : Ent), vs = [.ref x, .str k, .ref sa, .ref wa] ∧ ShelfAt C H x rd od le os m lg ∧ Kok k ∧ H sa = some (.tup [.int e.t, .int e.s, .int e.h]) ∧ H wa = some (.tup (e.w.map V.int)) ∧ e.Ok ∧ m.length ≤ 1000 ∧ (esT m k).length ≤ 1000 ∧ (∀ l, (esT m k).getLast? = some l → l.lt e) ∧
  ∀ (rd' od' : Addr) (os' : List Str) (m' : Tab) (H' : Hp), ShelfAt C H' x rd' od' false os' m' lg → ct m' = putC (ct m) k e → Stp (ownS x rd od le os m) H (ownS x rd' od' false os' m') H' → (∀ c ∈ supS x rd' od' m', c ∈ supS x rd od m ∨ H c = none) → Q .non H'
def spParts (C : Addr) : Sp := fun vs H Q _ => ∃ (x rd od : Addr) (le : Bool) (os : List Str) (m : Tab) (lg : V), vs = [.ref x] ∧ ShelfAt C H x rd od le os m lg ∧ ∀ (p : Addr) (H' : Hp), ShelfAt C H' x rd od true os m lg → (∀ b o, b ≠ x → H b = some o → H' b = some o) → H p = none → H' p = some (.tup [.ref rd, lg]) → Q (.ref p) H'
def spPutParts (C : Addr) : Sp := fun vs H Q _ => ∃ (x rd0 od p rd : Addr) (le : Bool) (os : List Str) (m0 m : Tab) (lg0 lg : V), vs = [.ref x, .ref p] ∧ ShelfAt C H x rd0 od le os m0 lg0 ∧ H p = some (.tup [.ref rd, lg]) ∧ TabAt H rd m ∧ od ≠ rd ∧ ∀ (H' : Hp), ShelfAt C H' x rd od true os m lg → (∀ b o, b ≠ x → H b = some o → H' b = some o) → Q .non H'
def spTwin (C : Addr) : Sp := fun vs H Q _ => ∃ (x rd od : Addr) (le : Bool) (os : List Str) (m : Tab) (lg : V), vs = [.ref x] ∧ ShelfAt C H x rd od le os m lg ∧ ∀ (y ody : Addr) (H' : Hp), H y = none → H ody = none → ShelfAt C H' x rd od true os m lg → ShelfAt C H' y rd ody true [] m lg → (∀ b o, b ≠ x → H b = some o → H' b = some o) → Q (.ref y) H'

theorem TabAt.setN {H H' : Hp} {rd n r : Addr} {m : Tab} {k : Str} {es es0 : List Ent} (T : TabAt H rd m) (ha : atT m k = some (r, es0)) (hn : H n = none) (hd : H' rd = some (.dK (putK (kvT m) (Sum.inr k) (.ref n)))) (hrow : RowAt H' n es)
    (keep : ∀ b o, H b = some o → b ≠ rd → H' b = some o) : TabAt H' rd (m.map fun p => if p.1 = k then (p.1, n, es) else p) := by
  have tk : Tk H H' := fun b xs z => keep b _ z (ne_of z T.dict (by intro q; cases q))
  have old : ∀ p ∈ m, RowAt H' p.2.1 p.2.2 := fun p hp => by
    obtain ⟨ps, hl, pr⟩ := T.row p hp
    exact ⟨ps, keep _ _ hl (ne_of hl T.dict (by intro q; cases q)), pr.tk tk⟩
  have new : ∀ p ∈ m, p.2.1 ≠ n := fun p hp => by
    obtain ⟨ps, hl, pr⟩ := T.row p hp
    exact ne_of_none hl hn
  refine ⟨?_, ?_, ?_, ?_⟩
  · rw [hd, putK_kv ha]
    congr 2
    unfold kvT
    rw [List.map_map]
    refine List.map_congr_left fun p hp => ?_
    by_cases z : p.1 = k <;> simp [z]
  · intro p hp
    obtain ⟨q, hq, rfl⟩ := List.mem_map.mp hp
    by_cases z : q.1 = k
    · rw [if_pos z]
      exact hrow
    · rw [if_neg z]
      exact old q hq
  · rw [List.map_map]
    have : m.map ((fun p : Str × Addr × List Ent => p.1) ∘ fun p => if p.1 = k then (p.1, n, es) else p) = m.map (·.1) := List.map_congr_left fun p _ => by
      by_cases z : p.1 = k <;> simp [z]
    rw [this]
    exact T.nd
  · have nd := T.nd
    have na := T.na
    clear hd old ha T
    induction m with
    | nil => simp
    | cons x l ih =>
      rw [List.map_cons, List.nodup_cons] at nd na
      rw [List.map_cons, List.map_cons, List.nodup_cons]
      refine ⟨?_, ih (fun p hp => new p (List.mem_cons_of_mem _ hp)) nd.2 na.2⟩
      intro z
      obtain ⟨y, hy, ey⟩ := List.mem_map.mp z
      obtain ⟨u, hu, rfl⟩ := List.mem_map.mp hy
      by_cases c1 : x.1 = k <;> by_cases c2 : u.1 = k
      · exact nd.1 (List.mem_map.mpr ⟨u, hu, c2.trans c1.symm⟩)
      · rw [if_pos c1, if_neg c2] at ey
        exact new u (List.mem_cons_of_mem _ hu) ey
      · rw [if_neg c1, if_pos c2] at ey
        exact new x (List.mem_cons_self ..) ey.symm
      · rw [if_neg c1, if_neg c2] at ey
        exact na.1 (List.mem_map.mpr ⟨u, hu, ey⟩)
theorem TabAt.addN {H H' : Hp} {rd n : Addr} {m : Tab} {k : Str} {es : List Ent} (T : TabAt H rd m) (ha : atT m k = none) (hn : H n = none) (hd : H' rd = some (.dK (putK (kvT m) (Sum.inr k) (.ref n)))) (hrow : RowAt H' n es)
    (keep : ∀ b o, H b = some o → b ≠ rd → H' b = some o) : TabAt H' rd (m ++ [(k, n, es)]) := by
  have tk : Tk H H' := fun b xs z => keep b _ z (ne_of z T.dict (by intro q; cases q))
  refine ⟨?_, ?_, ?_, ?_⟩
  · rw [hd, putK_new _ (by rw [val_kvT, ha]; rfl)]
    unfold kvT
    rw [List.map_append]
    rfl
  · intro p hp
    rcases List.mem_append.mp hp with hq | hq
    · obtain ⟨ps, hl, pr⟩ := T.row p hq
      exact ⟨ps, keep _ _ hl (ne_of hl T.dict (by intro q; cases q)), pr.tk tk⟩
    · rw [List.mem_singleton.mp hq]
      exact hrow
  · rw [List.map_append, List.nodup_append]
    refine ⟨T.nd, by simp, fun a ha' b hb => ?_⟩
    obtain ⟨p, hp, rfl⟩ := List.mem_map.mp ha'
    rw [List.mem_singleton.mp hb]
    exact atT_none ha p hp
  · rw [List.map_append, List.nodup_append]
    refine ⟨T.na, by simp, fun a ha' b hb => ?_⟩
    obtain ⟨p, hp, rfl⟩ := List.mem_map.mp ha'
    rw [List.mem_singleton.mp hb]
    obtain ⟨ps, hl, _⟩ := T.row p hp
    exact ne_of_none hl hn
/-- what is left of a row where elder ones are let go up to t -/
def goE (t : Int) (es : List Ent) : List Ent := es.drop ((es.filter fun e => decide (e.t ≤ t)).length - 1)
def goC (t : Int) (c : Ct) : Ct := c.map fun p => (p.1, goE t p.2)
theorem cut_from (xs : List V) (j : Nat) (h : j ≤ xs.length) : cutV xs (some (j : Int)) none = xs.drop j := by
  unfold cutV
  have e1 : HT.sIx xs.length 0 (some (j : Int)) = j := by
    unfold HT.sIx
    simp
    first
      | omega
      | (rw [if_neg (by omega)]; omega)
  have e2 : HT.sIx xs.length xs.length none = xs.length := rfl
  rw [e1, e2, List.take_of_length_le (by rw [List.length_drop]; exact Nat.le_refl _)]
theorem PrA.drop {H : Hp} : ∀ {ps : List Addr} {es : List Ent} (j : Nat), PrA H ps es → PrA H (ps.drop j) (es.drop j)
  | _, _, 0, h => h
  | _, _, j + 1, .nil => by simp only [List.drop_nil]; exact .nil
  | _, _, j + 1, .cons a r => PrA.drop j r
theorem val_mem2 {m : Tab} (nd : (m.map (·.1)).Nodup) {p : Str × Addr × List Ent} (hp : p ∈ m) : atT m p.1 = some p.2 := by
  cases h : atT m p.1 with
  | none => exact absurd rfl (atT_none h p hp)
  | some q =>
    have := nodup_eq nd (atT_mem h) hp rfl
    rw [← this]

theorem sf_put_r (rd rd' lg : V) (le : Bool) (od : Addr) : putF "rows" rd' (sf rd lg le od) = sf rd' lg le od := by unfold sf; rw [pf_hit]
theorem sf_put_l (rd lg lg' : V) (le : Bool) (od : Addr) : putF "let_go_to" lg' (sf rd lg le od) = sf rd lg' le od := by unfold sf; rw [pf_skip (by decide +kernel), pf_hit]
theorem sf_len (rd lg : V) (le : Bool) (od : Addr) : (sf rd lg le od).length < 1000 := by show 4 < 1000; decide
def lgMax (lg : V) (t : Int) : V := match lg with
  | .int g => if g < t then .int t else .int g
  | _ => .int t
def LgK (lg : V) : Prop := lg = .non ∨ ∃ g : Int, lg = .int g

def spLetGo (C : Addr) : Sp := fun vs H Q _ => ∃ (x rd od : Addr) (le : Bool) (os : List Str) (m : Tab) (lg : V) (t : Int), vs = [.ref x, .int t] ∧ ShelfAt C H x rd od le os m lg ∧ LgK lg ∧ m.length ≤ 1000 ∧ (∀ p ∈ m, p.2.2.length ≤ 1000 ∧ p.2.2.Pairwise fun a b => a.t ≤ b.t) ∧
  ∀ (rd' od' : Addr) (os' : List Str) (m' : Tab) (H' : Hp), ShelfAt C H' x rd' od' false os' m' (lgMax lg t) → ct m' = goC t (ct m) → Stp (ownS x rd od le os m) H (ownS x rd' od' false os' m') H' → (∀ c ∈ supS x rd' od' m', c ∈ supS x rd od m ∨ H c = none) → Q .non H'
section
variable {J : It} {n : Nat} {G : Hp → Prop} {Y : Nat → Hp → V → Hp → Prop}
theorem dc_it (w : Walk J n G Y) {g : TG} {tt : TT} {tk tv : TE} {vs : List Nat} {σ : L2.St} {H1 : Hp} {D : Addr} {Qd : Hp → Prop} (Pv : Nat → Hp → Prop) (h0 : Pv 0 (upd H1 D (.dK []))) (hG : ∀ i H, i ≤ n → Pv i H → G H)
    (hs : ∀ i x H H', i < n → Pv i H → Y i H x H' → g x (wipe σ vs) H' fun σ2 H2 => wipe σ2 vs = wipe σ vs ∧ tt σ2 H2 fun b H3 =>
      if b = true then tk σ2 H3 fun y H4 => tv σ2 H4 fun z H5 => ∃ kvs k, y = kV k ∧ H5 D = some (.dK kvs) ∧ kvs.length < sizeLine ∧ Pv (i + 1) (upd H5 D (.dK (putK kvs k z))) else Pv (i + 1) H3) (hd : ∀ H, Pv n H → Qd H) :
    ∃ W : Nat → Nat → Hp → Prop, (∃ m, W 0 m (upd H1 D (.dK []))) ∧ ∀ i m H, W i m H →
      (J.stop i H ∧ Qd H) ∨ (J.go i H ∧ ∃ Nx : Hp → Prop, (∀ H', Nx H' → ∃ m', m' < m ∧ W (i + 1) m' H') ∧ ∀ x H', J.yld i H x H' → g x (wipe σ vs) H' fun σ2 H2 => wipe σ2 vs = wipe σ vs ∧ tt σ2 H2 fun b H3 =>
        if b = true then tk σ2 H3 fun y H4 => tv σ2 H4 fun z H5 => ∃ kvs k, y = kV k ∧ H5 D = some (.dK kvs) ∧ kvs.length < sizeLine ∧ Nx (upd H5 D (.dK (putK kvs k z))) else Nx H3) := by
  refine ⟨fun i m H => m = n - i ∧ i ≤ n ∧ Pv i H, ⟨n, by simp, Nat.zero_le _, h0⟩, ?_⟩
  rintro i m H ⟨rfl, hi, p⟩
  have q := hG i H hi p
  by_cases hlt : i < n
  · refine .inr ⟨w.goes i H hlt q, Pv (i + 1), fun H' p' => ⟨n - (i + 1), by omega, rfl, hlt, p'⟩, fun x H' y => hs i x H H' hlt p (w.yields i H x H' hlt q y)⟩
  · have e : i = n := by omega
    subst e
    exact .inl ⟨w.stops H q, hd H p⟩
end
/-- contents with the first j keys let go -/
def goJ (t : Int) (c : Ct) (j : Nat) : Ct := c.map fun p => if p.1 ∈ (c.map (·.1)).take j then (p.1, goE t p.2) else p
theorem goJ_0 (t : Int) (c : Ct) : goJ t c 0 = c := by
  unfold goJ
  conv => rhs; rw [← List.map_id c]
  refine List.map_congr_left fun p _ => ?_
  rw [List.take_zero, if_neg (by simp)]
  rfl
theorem goJ_all (t : Int) (c : Ct) : goJ t c c.length = goC t c := by
  unfold goJ goC
  refine List.map_congr_left fun p hp => ?_
  rw [List.take_of_length_le (by rw [List.length_map]; exact Nat.le_refl _), if_pos (List.mem_map.mpr ⟨p, hp, rfl⟩)]
theorem goJ_keys (t : Int) (c : Ct) (j : Nat) : (goJ t c j).map (·.1) = c.map (·.1) := by
  unfold goJ
  rw [List.map_map]
  refine List.map_congr_left fun p _ => ?_
  show (if p.1 ∈ _ then (p.1, goE t p.2) else p).1 = p.1
  split <;> rfl
theorem not_take {l : List Str} (h : l.Nodup) {j : Nat} {k : Str} (hk : l[j]? = some k) : k ∉ l.take j := by
  intro z
  obtain ⟨i, hi, e⟩ := List.getElem_of_mem z
  have hl : i < j := by
    rw [List.length_take] at hi
    omega
  rw [List.getElem_take] at e
  obtain ⟨hj, ej⟩ := List.getElem?_eq_some_iff.mp hk
  exact List.pairwise_iff_getElem.mp h i j (by rw [List.length_take] at hi; omega) hj hl (e.trans ej.symm)
theorem goJ_step {t : Int} {c : Ct} (h : (c.map (·.1)).Nodup) {j : Nat} {p : Str × List Ent} (hp : c[j]? = some p) : (goJ t c j).map (fun q => if q.1 = p.1 then (q.1, goE t p.2) else q) = goJ t c (j + 1) ∧ esC (goJ t c j) p.1 = p.2 := by
  have hk : (c.map (·.1))[j]? = some p.1 := by rw [List.getElem?_map, hp]; rfl
  have nt := not_take h hk
  have et : (c.map (·.1)).take (j + 1) = (c.map (·.1)).take j ++ [p.1] := by rw [List.take_add_one, hk]; rfl
  refine ⟨?_, ?_⟩
  · unfold goJ
    rw [List.map_map]
    refine List.map_congr_left fun q hq => ?_
    show (if (if q.1 ∈ _ then (q.1, goE t q.2) else q).1 = p.1 then ((if q.1 ∈ _ then (q.1, goE t q.2) else q).1, goE t p.2) else (if q.1 ∈ _ then (q.1, goE t q.2) else q)) = _
    by_cases c1 : q.1 ∈ (c.map (·.1)).take j
    · have c2 : q.1 ∈ (c.map (·.1)).take (j + 1) := by rw [et]; exact List.mem_append.mpr (.inl c1)
      have c3 : ¬ q.1 = p.1 := fun z => nt (z ▸ c1)
      rw [if_pos c1, if_pos c2, if_neg c3]
    · by_cases c3 : q.1 = p.1
      · have c2 : q.1 ∈ (c.map (·.1)).take (j + 1) := by rw [et, c3]; simp
        have e : q = p := nodup_eq h hq (List.mem_of_getElem? hp) c3
        rw [if_neg c1, if_pos c2, if_pos c3, e]
      · have c2 : ¬ q.1 ∈ (c.map (·.1)).take (j + 1) := by
          rw [et]
          intro z
          rcases List.mem_append.mp z with z | z
          · exact c1 z
          · exact c3 (List.mem_singleton.mp z)
        rw [if_neg c1, if_neg c2, if_neg c3]
  · have hm : p ∈ goJ t c j := by
      unfold goJ
      exact List.mem_map.mpr ⟨p, List.mem_of_getElem? hp, if_neg nt⟩
    exact esC_of (by rw [goJ_keys]; exact h) hm rfl
theorem ct_get {m : Tab} {j : Nat} {p : Str × Addr × List Ent} (h : m[j]? = some p) : (ct m)[j]? = some (p.1, p.2.2) := by
  unfold ct
  rw [List.getElem?_map, h]
  rfl
theorem ct_nd {m : Tab} : (ct m).map (·.1) = m.map (·.1) := by
  unfold ct
  rw [List.map_map]
  rfl
theorem ct_set (m : Tab) (k : Str) (n : Addr) (es : List Ent) : ct (m.map fun p => if p.1 = k then (p.1, n, es) else p) = (ct m).map fun q => if q.1 = k then (q.1, es) else q := by
  unfold ct
  rw [List.map_map, List.map_map]
  refine List.map_congr_left fun p _ => ?_
  by_cases z : p.1 = k <;> simp [z]
theorem ct_len (m : Tab) : (ct m).length = m.length := by unfold ct; rw [List.length_map]
theorem len_of_ct {m m2 : Tab} (h : ct m = ct m2) : m.length = m2.length := by rw [← ct_len, ← ct_len, h]
theorem at_of_es {m : Tab} {k : Str} {es : List Ent} (h : (k, es) ∈ ct m) (nd : (m.map (·.1)).Nodup) : ∃ a, atT m k = some (a, es) := by
  unfold ct at h
  obtain ⟨p, hp, e⟩ := List.mem_map.mp h
  cases e
  exact ⟨p.2.1, val_mem2 nd hp⟩
theorem sf_put_o (rd lg : V) (le : Bool) (od od' : Addr) : putF "own_rows" (.ref od') (sf rd lg le od) = sf rd lg le od' := by unfold sf; rw [pf_skip (by decide +kernel), pf_skip (by decide +kernel), pf_skip (by decide +kernel), pf_hit]
theorem sf_put_t (rd lg : V) (le b : Bool) (od : Addr) : putF "lent" (.bl b) (sf rd lg le od) = sf rd lg b od := by unfold sf; rw [pf_skip (by decide +kernel), pf_skip (by decide +kernel), pf_hit]
theorem putN_some {m : Tab} {k : Str} {r n : Addr} {es : List Ent} {e : Ent} (h : atT m k = some (r, es)) (nd : (m.map (·.1)).Nodup) : putN m k n e = m.map fun p => if p.1 = k then (p.1, n, es ++ [e]) else p := by
  unfold putN
  rw [h]
  refine List.map_congr_left fun p hp => ?_
  by_cases c : p.1 = k
  · rw [if_pos c, if_pos c, nodup_eq nd hp (atT_mem h) c]
  · rw [if_neg c, if_neg c]
theorem esT_some {m : Tab} {k : Str} {r : Addr} {es : List Ent} (h : atT m k = some (r, es)) : esT m k = es := by unfold esT; rw [h]; rfl
theorem esT_none {m : Tab} {k : Str} (h : atT m k = none) : esT m k = [] := by unfold esT; rw [h]; rfl
/-- the keys that are own once all is its own -/
def os1 (le : Bool) (os : List Str) : List Str := if le then [] else os
theorem own_in {x rd od : Addr} {os : List Str} {m : Tab} {p : Str × Addr × List Ent} (hp : p ∈ m) (ho : p.1 ∈ os) : p.2.1 ∈ ownS x rd od false os m :=
  .tail _ (.tail _ (.tail _ (rowsO_mem.mpr ⟨p, hp, ho, rfl⟩)))
theorem own_rd {x rd od : Addr} {os : List Str} {m : Tab} : rd ∈ ownS x rd od false os m := .tail _ (.tail _ (.head _))
theorem own_x {x rd od : Addr} {le : Bool} {os : List Str} {m : Tab} : x ∈ ownS x rd od le os m := .head _
theorem own_od {x rd od : Addr} {le : Bool} {os : List Str} {m : Tab} : od ∈ ownS x rd od le os m := .tail _ (.head _)
theorem ownF {x rd od c : Addr} {os : List Str} {m : Tab} (h : c ∈ ownS x rd od false os m) : c = x ∨ c = od ∨ c = rd ∨ ∃ p ∈ m, p.1 ∈ os ∧ p.2.1 = c := by
  rcases List.mem_cons.mp h with h | h
  · exact .inl h
  rcases List.mem_cons.mp h with h | h
  · exact .inr (.inl h)
  rcases List.mem_cons.mp h with h | h
  · exact .inr (.inr (.inl h))
  · exact .inr (.inr (.inr (rowsO_mem.mp h)))
theorem supF {x rd od c : Addr} {m : Tab} : c ∈ supS x rd od m ↔ c = x ∨ c = od ∨ c = rd ∨ ∃ p ∈ m, p.2.1 = c := by
  unfold supS
  rw [List.mem_cons, List.mem_cons, List.mem_cons, List.mem_map]

def spLgo (C : Addr) : Sp := fun vs H Q _ => ∃ (x rd od : Addr) (le : Bool) (os : List Str) (m : Tab) (lg : V), vs = [.ref x] ∧ ShelfAt C H x rd od le os m lg ∧ Q lg H
theorem ShelfAt.lend {C : Addr} {H : Hp} {x rd od : Addr} {le : Bool} {os : List Str} {m : Tab} {lg : V} (h : ShelfAt C H x rd od le os m lg) {dx : Addr} (hx : H x = some (.ins C dx (sf (.ref rd) lg le od))) : ShelfAt C (upd H x (.ins C dx (sf (.ref rd) lg true od))) x rd od true os m lg := by
  have k1 : ∀ b o, b ≠ x → H b = some o → (upd H x (.ins C dx (sf (.ref rd) lg true od))) b = some o := fun b o n e => by rw [upd_ne n]; exact e
  refine ⟨⟨dx, upd_same⟩, h.tab.keep (fun b xs e => k1 b _ (ne_of e hx (by intro z; cases z)) e) (k1 _ · (ne_of h.tab.dict hx (by intro z; cases z))) (fun w hw => ?_), k1 _ _ (ne_of h.own hx (by intro z; cases z)) h.own, h.nod, fun z => by cases z⟩
  obtain ⟨ps, hl, _⟩ := h.tab.row w hw
  exact fun o e => k1 _ o (ne_of hl hx (by intro z; cases z)) e

def spLaw (K : PySem.W.Frag) : Sp := fun vs H Q _ => ∃ (a : Addr) (ns : List Int), vs = [.ref a] ∧ SqL K H a (ns.map V.int) ∧ ns.length ≤ 63 ∧ ∀ H', Q (.bl true) H'
def spWorth : Sp := fun vs H Q _ => ∃ (s : Addr), vs = [.ref s] ∧ StAt H s ∧ ∀ (p : Addr) (ns : List Int) (H' : Hp), 1 ≤ ns.length → ns.length ≤ 4 → (∀ n ∈ ns, -1000000000000000000000000000000 ≤ n ∧ n ≤ 1000000000000000000000000000000) → H p = none → Kp s H H' → H' p = some (.tup (ns.map V.int)) → Q (.ref p) H'
def K6 : List Str := ["a", "b", "ab", "zzzzzz", "house", "q"]
def spLKey : Sp := fun vs H Q _ => ∃ (s : Addr), vs = [.ref s] ∧ StAt H s ∧ ∀ (k : Str) (H' : Hp), k ∈ K6 → Kp s H H' → Q (.str k) H'
theorem StAt.same {H H' : Hp} {s : Addr} (h : StAt H s) (k : Same H H') : StAt H' s := by
  obtain ⟨a, b, c, e, r⟩ := h
  exact ⟨a, b, c, k _ _ e, r⟩
theorem Kp.up {s : Addr} {H H1 H2 : Hp} (k : Kp s H H1) (e : Same H1 H2) : Kp s H H2 := ⟨fun b o n z => e _ _ (k.1 b o n z), k.2.same e⟩
theorem putT_addr {m : Tab} {k : Str} {n : Addr} {e : Ent} {p : Str × Addr × List Ent} (h : p ∈ putT m k n e) : p.2.1 = n ∨ ∃ q ∈ m, p.2.1 = q.2.1 := by
  unfold putT at h
  cases ha : atT m k with
  | none =>
    rw [ha] at h
    rcases List.mem_append.mp h with q | q
    · exact .inr ⟨p, q, rfl⟩
    · rw [List.mem_singleton.mp q]
      exact .inl rfl
  | some v =>
    rw [ha] at h
    obtain ⟨q, hq, rfl⟩ := List.mem_map.mp h
    refine .inr ⟨q, hq, ?_⟩
    by_cases z : q.1 = k <;> simp [z]
theorem putN_addr {m : Tab} {k : Str} {n : Addr} {e : Ent} {p : Str × Addr × List Ent} (h : p ∈ putN m k n e) : p.2.1 = n ∨ ∃ q ∈ m, p.2.1 = q.2.1 := by
  unfold putN at h
  cases ha : atT m k with
  | none =>
    rw [ha] at h
    rcases List.mem_append.mp h with q | q
    · exact .inr ⟨p, q, rfl⟩
    · rw [List.mem_singleton.mp q]
      exact .inl rfl
  | some v =>
    rw [ha] at h
    obtain ⟨q, hq, rfl⟩ := List.mem_map.mp h
    by_cases z : q.1 = k
    · exact .inl (by simp [z])
    · exact .inr ⟨q, hq, by simp [z]⟩
theorem putC_all {c : Ct} {k : Str} {e : Ent} {P : Ent → Prop} (h : ∀ p ∈ c, ∀ x ∈ p.2, P x) (he : P e) : ∀ p ∈ putC c k e, ∀ x ∈ p.2, P x := by
  intro p hp x hx
  unfold putC at hp
  split at hp
  · obtain ⟨q, hq, rfl⟩ := List.mem_map.mp hp
    by_cases z : q.1 = k
    · rw [if_pos z] at hx
      rcases List.mem_append.mp hx with y | y
      · exact h q hq x y
      · rw [List.mem_singleton.mp y]; exact he
    · rw [if_neg z] at hx
      exact h q hq x hx
  · rcases List.mem_append.mp hp with q | q
    · exact h p q x hx
    · rw [List.mem_singleton.mp q] at hx
      rw [List.mem_singleton.mp hx]
      exact he
theorem eqv_nil (ds : List PyData) : PyData.eqv (.list ds) (.list []) = ds.isEmpty := by
  cases ds <;> simp [PyData.eqv, PyData.eqvAll]

/-! ### texts that are shown -/
def Asc (d : PyData) : Prop := ∀ c ∈ d.shown.cps.toList, c < 128
theorem asc_int (i : Int) : Asc (.int i) := fun c hc => by
  by_cases h : c < 128
  · exact h
  · exact absurd hc (PyProof.Rows.shown_int_free' (k := c) ⟨by omega, .inr (by omega)⟩ i)
theorem asc_all : ∀ {xs : List PyData}, (∀ x ∈ xs, Asc x) → ∀ t ∈ PyData.shownAll xs, ∀ c ∈ t.cps.toList, c < 128
  | [], _, t, ht => by rw [PyData.shownAll_nil] at ht; cases ht
  | x :: r, h, t, ht => by
    rw [PyData.shownAll_cons, List.mem_cons] at ht
    rcases ht with e | ht
    · rw [e]; exact h x (List.mem_cons_self ..)
    · exact asc_all (fun y hy => h y (List.mem_cons_of_mem _ hy)) t ht
theorem asc_sep : ∀ c ∈ ((", " : String) : Str).cps.toList, c < 128 := by decide +kernel
theorem asc_list {xs : List PyData} (h : ∀ x ∈ xs, Asc x) : Asc (.list xs) := fun c hc => by
  rw [PyData.shown_list, PyProof.Rows.mem_cps_append, PyProof.Rows.mem_cps_append, PyProof.Rows.mem_join, PyProof.Rows.signs_lbrack, PyProof.Rows.signs_rbrack] at hc
  rcases hc with (hm | (⟨t, ht, hc⟩ | ⟨_, hc⟩)) | hm
  · rw [List.mem_singleton.mp hm]; decide
  · exact asc_all h t ht c hc
  · exact asc_sep c hc
  · rw [List.mem_singleton.mp hm]; decide
theorem asc_tuple {xs : List PyData} (h : ∀ x ∈ xs, Asc x) : Asc (.tuple xs) := fun c hc => by
  rw [PyData.shown_tuple, PyProof.Rows.mem_cps_append, PyProof.Rows.mem_cps_append, PyProof.Rows.mem_join, PyProof.Rows.signs_lparen] at hc
  rcases hc with (hm | (⟨t, ht, hc⟩ | ⟨_, hc⟩)) | hm
  · rw [List.mem_singleton.mp hm]; decide
  · exact asc_all h t ht c hc
  · exact asc_sep c hc
  · rw [PyProof.Rows.signs_tuple_end] at hm
    split at hm
    · simp at hm
      omega
    · simp at hm
      omega
theorem asc_ent (e : Ent) : Asc (entD e) := by
  refine asc_tuple fun x hx => ?_
  simp only [List.mem_cons, List.not_mem_nil, or_false] at hx
  rcases hx with rfl | rfl
  · refine asc_tuple fun x hx => ?_
    simp only [List.mem_cons, List.not_mem_nil, or_false] at hx
    rcases hx with rfl | rfl | rfl <;> exact asc_int _
  · refine asc_tuple fun x hx => ?_
    obtain ⟨n, _, rfl⟩ := List.mem_map.mp hx
    exact asc_int n
theorem asc_key {k : Str} (h : k ∈ K6) : Asc (.str k) := by
  have h' : k ∈ (["a", "b", "ab", "zzzzzz", "house", "q"] : List Str) := h
  simp only [List.mem_cons, List.not_mem_nil, or_false] at h'
  unfold Asc
  rcases h' with rfl | rfl | rfl | rfl | rfl | rfl <;> (rw [PyData.shown_str]; decide +kernel)
def heldD (es : List Ent) (ys : List Str) : PyData := .list [.list (es.map entD), .list (ys.map .str)]
theorem asc_held {es : List Ent} {ys : List Str} (h : ∀ k ∈ ys, k ∈ K6) : Asc (heldD es ys) := by
  refine asc_list fun x hx => ?_
  simp only [List.mem_cons, List.not_mem_nil, or_false] at hx
  rcases hx with rfl | rfl
  · refine asc_list fun x hx => ?_
    obtain ⟨e, _, rfl⟩ := List.mem_map.mp hx
    exact asc_ent e
  · refine asc_list fun x hx => ?_
    obtain ⟨k, hk, rfl⟩ := List.mem_map.mp hx
    exact asc_key (h k hk)
theorem keys_all {ks : List Str} (h : ∀ k ∈ ks, Sh 20 k) : PyData.showableAll (ks.map .str) = true ∧ PyData.depthAll (ks.map .str) = 0 ∧ PyData.leavesShortAll 200 (ks.map .str) = true ∧ PyData.weightAll (ks.map .str) ≤ 201 * ks.length := by
  have hf : (ks.map PyData.str).all lf = true := by
    refine List.all_eq_true.mpr fun d hd => ?_
    obtain ⟨k, hk, rfl⟩ := List.mem_map.mp hd
    exact str_leaf (h k hk) (by decide)
  obtain ⟨h1, h2, h3, h4, _⟩ := lf_all hf
  rw [List.length_map] at h4
  exact ⟨h1, h2, h3, h4⟩
theorem shw_held {es : List Ent} {ys : List Str} (h : ∀ e ∈ es, e.Ok) (hl : es.length ≤ 40) (hy : ∀ k ∈ ys, Sh 20 k) (hyl : ys.length ≤ 40) : Shw (heldD es ys) := by
  obtain ⟨h1, h2, h3, h4⟩ := ent_all h
  obtain ⟨k1, k2, k3, k4⟩ := keys_all hy
  refine ⟨?_, ?_, ?_⟩
  · simp only [heldD, PyData.showable, PyData.showableAll, h1, k1, Bool.and_self]
  · simp only [heldD, PyData.depth, PyData.depthAll, k2]
    omega
  have z := PyData.shown_le 200 (by decide) (heldD es ys) (by simp only [heldD, PyData.leavesShort, PyData.leavesShortAll, h3, k3, Bool.and_self])
  have w : (heldD es ys).weight ≤ 65000 := by
    simp only [heldD, PyData.weight, PyData.weightAll]
    omega
  rw [sizeLine_eq]
  omega
/-! ### all of a shelf shown -/
def allD (c : Ct) : PyData := .list ((K6.map fun k => PyData.list ((esC c k).map entD)) ++ [.int (tot c)])
def allS (c : Ct) : Str := (allD c).shown
theorem esC_cons (x : Str × List Ent) (r : Ct) (k : Str) : esC (x :: r) k = if x.1 = k then x.2 else esC r k := by
  unfold esC
  rw [List.find?_cons]
  by_cases z : x.1 = k
  · simp [z]
  · simp [z]
theorem sum_es {ks : List Str} (hn : ks.Nodup) : ∀ (c : Ct), (ks.map fun k => (esC c k).length).sum ≤ tot c
  | [] => by
    have : ∀ ks : List Str, (ks.map fun k => (esC [] k).length).sum = 0 := by
      intro ks
      induction ks with
      | nil => rfl
      | cons k r ih => rw [List.map_cons, List.sum_cons, ih]; rfl
    rw [this]
    exact Nat.zero_le _
  | x :: r => by
    have ih := sum_es hn r
    have step : ∀ ks : List Str, ks.Nodup → (ks.map fun k => (esC (x :: r) k).length).sum ≤ x.2.length + (ks.map fun k => (esC r k).length).sum ∧ (x.1 ∉ ks → (ks.map fun k => (esC (x :: r) k).length).sum = (ks.map fun k => (esC r k).length).sum) := by
      intro ks
      induction ks with
      | nil => exact fun _ => ⟨Nat.zero_le _, fun _ => rfl⟩
      | cons k l ihl =>
        intro hk
        rw [List.nodup_cons] at hk
        obtain ⟨i1, i2⟩ := ihl hk.2
        refine ⟨?_, fun hx => ?_⟩
        · rw [List.map_cons, List.sum_cons, List.map_cons, List.sum_cons, esC_cons]
          by_cases z : x.1 = k
          · rw [if_pos z, i2 (z ▸ hk.1)]
            omega
          · rw [if_neg z]
            omega
        · rw [List.map_cons, List.sum_cons, List.map_cons, List.sum_cons, esC_cons, if_neg (fun z : x.1 = k => hx (by rw [z]; exact List.mem_cons_self ..)), i2 (fun z => hx (List.mem_cons_of_mem _ z))]
    have := (step ks hn).1
    rw [tot_cons]
    omega
theorem rows_all {c : Ct} (h : ∀ k, ∀ e ∈ esC c k, e.Ok) : ∀ ks : List Str, PyData.showableAll (ks.map fun k => PyData.list ((esC c k).map entD)) = true ∧ PyData.depthAll (ks.map fun k => PyData.list ((esC c k).map entD)) ≤ 3 ∧ PyData.leavesShortAll 200 (ks.map fun k => PyData.list ((esC c k).map entD)) = true ∧ PyData.weightAll (ks.map fun k => PyData.list ((esC c k).map entD)) ≤ 1420 * (ks.map fun k => (esC c k).length).sum + ks.length
  | [] => ⟨rfl, Nat.zero_le 3, rfl, Nat.zero_le _⟩
  | k :: r => by
    obtain ⟨a1, a2, a3, a4⟩ := rows_all h r
    obtain ⟨b1, b2, b3, b4⟩ := ent_all (h k)
    refine ⟨?_, ?_, ?_, ?_⟩
    · simp only [List.map_cons, PyData.showableAll, PyData.showable, a1, b1, Bool.and_self]
    · simp only [List.map_cons, PyData.depthAll, PyData.depth]
      omega
    · simp only [List.map_cons, PyData.leavesShortAll, PyData.leavesShort, a3, b3, Bool.and_self]
    · simp only [List.map_cons, PyData.weightAll, PyData.weight, List.sum_cons, List.length_cons]
      omega
theorem app_show : ∀ (xs ys : List PyData), PyData.showableAll (xs ++ ys) = (PyData.showableAll xs && PyData.showableAll ys) ∧ PyData.depthAll (xs ++ ys) = max (PyData.depthAll xs) (PyData.depthAll ys) ∧ PyData.leavesShortAll 200 (xs ++ ys) = (PyData.leavesShortAll 200 xs && PyData.leavesShortAll 200 ys) ∧ PyData.weightAll (xs ++ ys) = PyData.weightAll xs + PyData.weightAll ys
  | [], ys => ⟨by simp [PyData.showableAll], by simp [PyData.depthAll], by simp [PyData.leavesShortAll], by simp [PyData.weightAll]⟩
  | x :: r, ys => by
    obtain ⟨a1, a2, a3, a4⟩ := app_show r ys
    refine ⟨by simp only [List.cons_append, PyData.showableAll, a1, Bool.and_assoc], ?_, by simp only [List.cons_append, PyData.leavesShortAll, a3, Bool.and_assoc], ?_⟩
    · simp only [List.cons_append, PyData.depthAll, a2]
      omega
    · simp only [List.cons_append, PyData.weightAll, a4]
      omega
theorem shw_all {c : Ct} (h : CtOk c) (ht : tot c ≤ 40) : Shw (allD c) := by
  obtain ⟨a1, a2, a3, a4⟩ := rows_all (c := c) (fun k => (h.es k).1) K6
  have sm := sum_es (ks := K6) (by decide +kernel) c
  have lfi : lf (.int (tot c : Int)) = true := int_leaf2 (by omega) (by omega)
  obtain ⟨i1, i2, i3, i4, _⟩ := lf_all (ds := [.int (tot c : Int)]) (by rw [List.all_cons, lfi]; rfl)
  obtain ⟨p1, p2, p3, p4⟩ := app_show (K6.map fun k => PyData.list ((esC c k).map entD)) [.int (tot c : Int)]
  refine ⟨?_, ?_, ?_⟩
  · simp only [allD, PyData.showable, p1, a1, i1, Bool.and_self]
  · simp only [allD, PyData.depth, p2, i2]
    omega
  have z := PyData.shown_le 200 (by decide) (allD c) (by simp only [allD, PyData.leavesShort, p3, a3, i3, Bool.and_self])
  have hk : K6.length = 6 := rfl
  have i5 : PyData.weightAll [PyData.int (tot c : Int)] ≤ 201 * 1 := i4
  have w : (allD c).weight ≤ 58000 := by
    simp only [allD, PyData.weight, p4]
    omega
  rw [sizeLine_eq]
  omega
theorem dpall_of {K : PySem.W.Frag} {H : Hp} {f : Str → PyData} : ∀ {rs : List Addr} {ks : List Str}, rs.length = ks.length → (∀ (u : Nat) (r : Addr), rs[u]? = some r → ∃ k, ks[u]? = some k ∧ Dp K H (.ref r) (f k)) → DpAll K H (rs.map V.ref) (ks.map f)
  | [], [], _, _ => .nil
  | [], _ :: _, h, _ => by cases h
  | _ :: _, [], h, _ => by cases h
  | r :: rs, k :: ks, h, g => by
    obtain ⟨k', e, d⟩ := g 0 r rfl
    cases e
    exact .cons d (dpall_of (Nat.succ.inj h) fun u r hu => g (u + 1) r hu)
theorem RowAt.updD {H : Hp} {r D : Addr} {es : List Ent} {ws zs : List V} (h : RowAt H r es) (n : r ≠ D) (hD : H D = some (.lst ws)) : RowAt (upd H D (.lst zs)) r es := by
  obtain ⟨ps, hl, pr⟩ := h
  exact ⟨ps, by rw [upd_ne n]; exact hl, pr.tk fun b xs z => by rw [upd_ne (ne_of z hD (by intro q; cases q))]; exact z⟩
/-! ### what was read stays -/
theorem esC_put (c : Ct) (k k' : Str) (e : Ent) : esC (putC c k e) k' = if k' = k then esC c k ++ [e] else esC c k' := by
  have mapc : ∀ c : Ct, esC (c.map fun p => if p.1 = k then (p.1, p.2 ++ [e]) else p) k' = if k' = k then (if hasC c k = true then esC c k ++ [e] else []) else esC c k' := by
    intro c
    induction c with
    | nil =>
      by_cases z : k' = k
      · rw [if_pos z]; rfl
      · rw [if_neg z]; rfl
    | cons x r ih =>
      rw [List.map_cons, esC_cons, ih]
      by_cases x1 : x.1 = k
      · have hh : hasC (x :: r) k = true := by unfold hasC; rw [List.any_cons, decide_eq_true x1]; rfl
        rw [if_pos x1, hh, esC_cons, if_pos x1]
        by_cases z : k' = k
        · subst z
          rw [if_pos x1, if_pos rfl, if_pos rfl]
        · rw [if_neg z, if_neg z, if_neg (fun y => z (y.symm.trans x1)), esC_cons, if_neg (fun y => z (y.symm.trans x1))]
      · have hh : hasC (x :: r) k = hasC r k := by unfold hasC; rw [List.any_cons, decide_eq_false x1]; rfl
        rw [if_neg x1, hh]
        by_cases z : k' = k
        · subst z
          rw [if_neg x1, if_pos rfl, if_pos rfl, esC_cons, if_neg x1]
        · rw [if_neg z, if_neg z, esC_cons]
  have appc : ∀ c : Ct, hasC c k = false → esC (c ++ [(k, [e])]) k' = if k' = k then esC c k ++ [e] else esC c k' := by
    intro c
    induction c with
    | nil =>
      intro _
      rw [List.nil_append, esC_cons]
      by_cases z : k' = k
      · subst z
        rw [if_pos rfl, if_pos rfl]
        rfl
      · rw [if_neg z, if_neg (fun y => z y.symm)]
    | cons x r ih =>
      intro h
      have x1 : ¬ x.1 = k := fun z => by unfold hasC at h; rw [List.any_cons, decide_eq_true z] at h; cases h
      have hr : hasC r k = false := by unfold hasC at h ⊢; rw [List.any_cons, decide_eq_false x1, Bool.false_or] at h; exact h
      rw [List.cons_append, esC_cons, ih hr]
      by_cases z : k' = k
      · subst z
        rw [if_neg x1, if_pos rfl, if_pos rfl, esC_cons, if_neg x1]
      · rw [if_neg z, if_neg z, esC_cons]
  unfold putC
  cases h : hasC c k with
  | true => rw [if_pos rfl, mapc, h, if_pos rfl]
  | false => rw [if_neg (by decide), appc c h]
theorem at_put {c : Ct} {k k' : Str} {e : Ent} {w : Int} (h : w < e.t) : atD (esC (putC c k e) k') w = atD (esC c k') w := by
  rw [esC_put]
  by_cases z : k' = k
  · subst z
    rw [if_pos rfl]
    unfold atD
    rw [List.filter_append]
    have : [e].filter (fun e => decide (e.t ≤ w)) = [] := by simp; omega
    rw [this, List.append_nil]
  · rw [if_neg z]
theorem filter_drop {es : List Ent} (h : es.Pairwise fun a b => a.t ≤ b.t) (w : Int) : ∀ j, j ≤ (es.filter fun e => decide (e.t ≤ w)).length → (es.drop j).filter (fun e => decide (e.t ≤ w)) = (es.filter fun e => decide (e.t ≤ w)).drop j := by
  induction es with
  | nil => intro j _; simp
  | cons x r ih =>
    rw [List.pairwise_cons] at h
    intro j hj
    cases j with
    | zero => rfl
    | succ j =>
      by_cases c : x.t ≤ w
      · rw [List.filter_cons, if_pos (decide_eq_true c)] at hj ⊢
        rw [List.length_cons] at hj
        rw [List.drop_succ_cons, List.drop_succ_cons]
        exact ih h.2 j (by omega)
      · have : r.filter (fun e => decide (e.t ≤ w)) = [] := List.filter_eq_nil_iff.mpr fun e he => by
          have := h.1 e he
          simp
          omega
        rw [List.filter_cons, if_neg (by simpa using c), this] at hj
        simp at hj
theorem at_go {es : List Ent} (h : es.Pairwise fun a b => a.t ≤ b.t) {t w : Int} (hw : t ≤ w) : atD (goE t es) w = atD es w := by
  unfold atD goE
  have sub : (es.filter fun e => decide (e.t ≤ t)).length ≤ (es.filter fun e => decide (e.t ≤ w)).length := by
    induction es with
    | nil => exact Nat.le_refl _
    | cons x r ih =>
      rw [List.pairwise_cons] at h
      have := ih h.2
      rw [List.filter_cons, List.filter_cons]
      by_cases c : x.t ≤ t
      · rw [if_pos (decide_eq_true c), if_pos (decide_eq_true (by omega)), List.length_cons, List.length_cons]
        omega
      · rw [if_neg (by simpa using c)]
        by_cases d : x.t ≤ w
        · rw [if_pos (decide_eq_true d), List.length_cons]
          omega
        · rw [if_neg (by simpa using d)]
          exact this
  rw [filter_drop h w _ (by omega)]
  generalize es.filter (fun e => decide (e.t ≤ w)) = fs at sub
  generalize (es.filter fun e => decide (e.t ≤ t)).length = c at sub
  unfold lastD
  rw [List.getLast?_drop]
  by_cases z : fs.length ≤ c - 1
  · have : fs = [] := List.eq_nil_of_length_eq_zero (by omega)
    subst this
    simp
  · rw [if_neg z]
/-- what was read: (key, time, worth) -/
def SeenAt (H : Hp) (a : Addr) (c : Ct) (T : Int) (n : Nat) : Prop := ∃ ps : List Addr, H a = some (.lst (ps.map V.ref)) ∧ ps.length ≤ n ∧ ∀ p ∈ ps, ∃ (k : Str) (w : Int) (v : V), H p = some (.tup [.str k, .int w, v]) ∧ k ∈ K6 ∧ w < T ∧ WAt H v (atD (esC c k) w)
theorem SeenAt.tk {H H' : Hp} {a : Addr} {c : Ct} {T : Int} {n : Nat} (h : SeenAt H a c T n) (k : Tk H H') (ka : ∀ o, H a = some o → H' a = some o) : SeenAt H' a c T n := by
  obtain ⟨ps, e, l, r⟩ := h
  refine ⟨ps, ka _ e, l, fun p hp => ?_⟩
  obtain ⟨k1, w, v, a1, a2, a3, a4⟩ := r p hp
  exact ⟨k1, w, v, k _ _ a1, a2, a3, a4.tk k⟩
theorem SeenAt.same {H H' : Hp} {a : Addr} {c : Ct} {T : Int} {n : Nat} (h : SeenAt H a c T n) (k : Same H H') : SeenAt H' a c T n := h.tk (same_tk k) fun o e => k _ _ e
theorem SeenAt.mono {H : Hp} {a : Addr} {c : Ct} {T T' : Int} {n n' : Nat} (h : SeenAt H a c T n) (e1 : T ≤ T') (e2 : n ≤ n') : SeenAt H a c T' n' := by
  obtain ⟨ps, e, l, r⟩ := h
  refine ⟨ps, e, Nat.le_trans l e2, fun p hp => ?_⟩
  obtain ⟨k1, w, v, a1, a2, a3, a4⟩ := r p hp
  exact ⟨k1, w, v, a1, a2, by omega, a4⟩
theorem SeenAt.put {H : Hp} {a : Addr} {c : Ct} {T : Int} {n : Nat} {k : Str} {e : Ent} (h : SeenAt H a c T n) (he : T ≤ e.t) : SeenAt H a (putC c k e) T n := by
  obtain ⟨ps, e1, l, r⟩ := h
  refine ⟨ps, e1, l, fun p hp => ?_⟩
  obtain ⟨k1, w, v, a1, a2, a3, a4⟩ := r p hp
  exact ⟨k1, w, v, a1, a2, a3, by rw [at_put (by omega)]; exact a4⟩
def spAgain (K : PySem.W.Frag) (C : Addr) : Sp := fun vs H Q _ => ∃ (x rd od : Addr) (le : Bool) (os : List Str) (sl : Addr) (m : Tab) (lg : V) (ps : List Addr), vs = [.ref x, .ref sl] ∧ ShelfAt C H x rd od le os m lg ∧ H sl = some (.lst (ps.map V.ref)) ∧ (∀ p ∈ ps, ∃ (k : Str) (w : Int) (v : V), H p = some (.tup [.str k, .int w, v]) ∧ k ∈ K6 ∧ LgOk lg w ∧ WAt H v (atD (esT m k) w) ∧ (esT m k).length ≤ 1000 ∧ (esT m k).Pairwise fun a b => a.t ≤ b.t) ∧ ∀ H', Same H H' → Q (.bl true) H'
def spAll (C : Addr) : Sp := fun vs H Q _ => ∃ (x rd od : Addr) (le : Bool) (os : List Str) (m : Tab) (lg : V), vs = [.ref x] ∧ ShelfAt C H x rd od le os m lg ∧ CtOk (ct m) ∧ tot (ct m) ≤ 40 ∧ ∀ H', Same H H' → Q (.str (allS (ct m))) H'
theorem at_shaped (es : List Ent) (t : Int) : SeqAt.shaped (atD es t) = true := last_shaped
theorem at_eqv (es : List Ent) (t : Int) : PyData.eqv (atD es t) (atD es t) = true := SeqAt.eqv_refl _ (by
  have h := at_shaped es t
  unfold SeqAt.shaped at h
  rw [Bool.and_eq_true] at h
  exact h.1)
theorem last_eqv (es : List Ent) : PyData.eqv (lastD es) (lastD es) = true := SeqAt.eqv_refl _ (by
  have h := last_shaped (es := es)
  unfold SeqAt.shaped at h
  rw [Bool.and_eq_true] at h
  exact h.1)
theorem ints_lay (ns : List Int) : PyData.canLayAll0 (ns.map PyData.int) = true ∧ PyData.depthAll (ns.map PyData.int) = 0 := by
  induction ns with
  | nil => exact ⟨rfl, rfl⟩
  | cons n r ih => exact ⟨by simp only [List.map_cons, PyData.canLayAll0, PyData.canLay0, ih.1, Bool.and_self], by simp only [List.map_cons, PyData.depthAll, PyData.depth, ih.2, Nat.max_self]⟩
theorem one_shaped (e : Ent) : SeqAt.shaped (.list [entD e]) = true := by
  obtain ⟨a, b⟩ := ints_lay e.w
  unfold SeqAt.shaped entD stD wD
  simp only [PyData.canLay0, PyData.canLayAll0, PyData.depth, PyData.depthAll, a, b]
  rfl
theorem two_shaped {z : Str} (h : ∀ c ∈ z.cps.toList, c < 128) : SeqAt.shaped (.list [.bool false, .str z]) = true ∧ PyData.eqv (.list [.bool false, .str z]) (.list [.bool false, .str z]) = true := by
  have e5 : (PyData.str z).canLay0 = true := by
    show z.cps.all (· < 0x110000) = true
    rw [← Array.all_toList]
    refine List.all_eq_true.mpr fun c hc => decide_eq_true ?_
    have := h c hc
    omega
  have e6 : (PyData.list [.bool false, .str z]).canLay0 = true := by simp only [PyData.canLay0, PyData.canLayAll0] at e5 ⊢; simp [e5]
  refine ⟨?_, SeqAt.eqv_refl _ e6⟩
  unfold SeqAt.shaped
  rw [e6]
  rfl
theorem cut_end {xs : List V} {v : V} (h : xs.getLast? = some v) : cutV xs (some (-1)) none = [v] := by
  obtain ⟨ys, e⟩ := List.getLast?_eq_some_iff.mp h
  subst e
  unfold cutV
  have e1 : HT.sIx (ys ++ [v]).length 0 (some (-1)) = ys.length := by
    unfold HT.sIx
    simp
    first
      | omega
      | (rw [if_neg (by omega)]; omega)
  have e2 : HT.sIx (ys ++ [v]).length (ys ++ [v]).length none = (ys ++ [v]).length := rfl
  rw [e1, e2, List.drop_left]
  simp
/-- the law's world -/
structure W17 (C : Addr) (H H' : Hp) (x rd od : Addr) (le : Bool) (os : List Str) (sl y rdy ody : Addr) (ley : Bool) (osy : List Str) (el : Addr) (m my : Tab) (T : Int) (i : Nat) : Prop where
  sm : Same H H'
  sx : ShelfAt C H' x rd od le os m .non
  sy : ShelfAt C H' y rdy ody ley osy my .non
  okx : CtOk (ct m)
  oky : CtOk (ct my)
  kx : ∀ p ∈ ct m, p.1 ∈ K6
  tx : tot (ct m) ≤ i
  ty : tot (ct my) ≤ i + 1
  lx : m.length ≤ i
  ly : my.length ≤ i + 1
  bx : ∀ p ∈ ct m, ∀ e ∈ p.2, e.t < T
  dxy : ∀ c ∈ supS y rdy ody my, ¬ c ∈ ownS x rd od le os m
  dyx : ∀ c ∈ supS x rd od m, ¬ c ∈ ownS y rdy ody ley osy my
  slx : ∀ c ∈ supS x rd od m, c ≠ sl ∧ c ≠ el ∧ H c = none
  sly : ∀ c ∈ supS y rdy ody my, c ≠ sl ∧ c ≠ el ∧ H c = none
  nsl : sl ≠ el
  f2 : H sl = none
  T0 : 0 ≤ T
  T1 : T ≤ 3 * (i : Int)
theorem Kp.tk {s : Addr} {H H' : Hp} (k : Kp s H H') (h0 : StAt H s) : Tk H H' := fun b xs z => k.tup h0 z
section
variable {C s : Addr} {H H' H2 : Hp} {x rd od : Addr} {le : Bool} {os : List Str} {sl y rdy ody : Addr} {ley : Bool} {osy : List Str} {el : Addr} {m my : Tab} {T : Int} {i : Nat}
theorem W17.same (w : W17 C H H' x rd od le os sl y rdy ody ley osy el m my T i) (k : Same H' H2) : W17 C H H2 x rd od le os sl y rdy ody ley osy el m my T i :=
  { w with sm := w.sm.trans k, sx := w.sx.same k, sy := w.sy.same k }
theorem W17.app {ws zs : List V} (w : W17 C H H' x rd od le os sl y rdy ody ley osy el m my T i) (hs : H' sl = some (.lst ws)) : W17 C H (upd H' sl (.lst zs)) x rd od le os sl y rdy ody ley osy el m my T i := by
  have tk : Tk H' (upd H' sl (.lst zs)) := fun b xs e => by rw [upd_ne (ne_of e hs (by intro z; cases z))]; exact e
  exact { w with sm := (fun b o z => by rw [upd_ne (ne_of_none z w.f2)]; exact w.sm b o z), sx := w.sx.keep tk fun c hc o e => by rw [upd_ne (w.slx c hc).1]; exact e, sy := w.sy.keep tk fun c hc o e => by rw [upd_ne (w.sly c hc).1]; exact e }
theorem W17.kp (w : W17 C H H' x rd od le os sl y rdy ody ley osy el m my T i) (k : Kp s H' H2) (h0 : StAt H' s) (f : H s = none) (nm : ∀ c ∈ supS x rd od m, c ≠ s) (ny : ∀ c ∈ supS y rdy ody my, c ≠ s) : W17 C H H2 x rd od le os sl y rdy ody ley osy el m my T i :=
  { w with sm := Kp.same w.sm f k, sx := w.sx.keep (k.tk h0) fun c hc o e => k.1 c o (nm c hc) e, sy := w.sy.keep (k.tk h0) fun c hc o e => k.1 c o (ny c hc) e }
/-- its fields are lent -/
theorem W17.lend (w : W17 C H H' x rd od le os sl y rdy ody ley osy el m my T i) (hs : ShelfAt C H2 x rd od true os m .non) (k : ∀ b o, b ≠ x → H' b = some o → H2 b = some o) : W17 C H H2 x rd od true os sl y rdy ody ley osy el m my T i := by
  obtain ⟨dx, hx⟩ := w.sx.ins
  have tk : Tk H' H2 := fun b xs e => k b _ (ne_of e hx (by intro z; cases z)) e
  have nx : ∀ c ∈ supS y rdy ody my, c ≠ x := fun c hc z => w.dxy c hc (z ▸ own_x)
  have hn := (w.slx x (.head _)).2.2
  refine { w with sm := fun b o e => k b o (ne_of_none e hn) (w.sm _ _ e), sx := hs, sy := w.sy.keep tk fun c hc o e => k c o (nx c hc) e, dxy := fun c hc z => w.dxy c hc ?_ }
  rcases List.mem_cons.mp z with z | z
  · exact z ▸ own_x
  rcases List.mem_cons.mp z with z | z
  · exact z ▸ own_od
  · cases z
/-- its first shelf makes a step -/
theorem W17.step (w : W17 C H H' x rd od le os sl y rdy ody ley osy el m my T i) {rd' od' : Addr} {os' : List Str} {m' : Tab} {lg : V} (hs : ShelfAt C H2 x rd' od' false os' m' lg) (st : Stp (ownS x rd od le os m) H' (ownS x rd' od' false os' m') H2) (sp : ∀ c ∈ supS x rd' od' m', c ∈ supS x rd od m ∨ H' c = none) (asl : ∃ o, H' sl = some o) (ael : ∃ o, H' el = some o) :
    Same H H2 ∧ ShelfAt C H2 y rdy ody ley osy my .non ∧ (∀ c ∈ supS y rdy ody my, ¬ c ∈ ownS x rd' od' false os' m') ∧ (∀ c ∈ supS x rd' od' m', ¬ c ∈ ownS y rdy ody ley osy my) ∧ (∀ c ∈ supS x rd' od' m', c ≠ sl ∧ c ≠ el ∧ H c = none) := by
  refine ⟨fun b o e => st.fr b o (fun z => ?_) (w.sm _ _ e), w.sy.step st w.sx.ntup w.dxy, fun c hc z => ?_, fun c hc z => ?_, fun c hc => ?_⟩
  · have := (w.slx b (own_sup z)).2.2
    rw [e] at this
    cases this
  · rcases st.ow c z with h | h
    · exact w.dxy c hc h
    · obtain ⟨o, eo, _⟩ := w.sy.al c hc
      rw [h] at eo
      cases eo
  · rcases sp c hc with h | h
    · exact w.dyx c h z
    · obtain ⟨o, eo, _⟩ := w.sy.al c (own_sup z)
      rw [h] at eo
      cases eo
  · rcases sp c hc with h | h
    · exact w.slx c h
    · obtain ⟨_, e1⟩ := asl
      obtain ⟨_, e2⟩ := ael
      exact ⟨Ne.symm (ne_of_none e1 h), Ne.symm (ne_of_none e2 h), w.sm.free h⟩
end
/-- the law's state of draws lies apart -/
structure Ap (H H' : Hp) (s sl el rv rk ph : Addr) (sx sy : List Addr) : Prop where
  st : StAt H' s
  nm : ∀ c ∈ sx, c ≠ s
  ny : ∀ c ∈ sy, c ≠ s
  f : H s = none
  n1 : sl ≠ s
  n2 : el ≠ s
  n3 : rv ≠ s
  n4 : rk ≠ s
  n5 : ph ≠ s
  o3 : rv ≠ sl
  o4 : rk ≠ sl
  o5 : ph ≠ sl
theorem SeenAt.kp {s : Addr} {H H' : Hp} {a : Addr} {c : Ct} {T : Int} {n : Nat} (h : SeenAt H a c T n) (k : Kp s H H') (h0 : StAt H s) (na : a ≠ s) : SeenAt H' a c T n := h.tk (k.tk h0) fun o e => k.1 _ _ na e
theorem RowAt.kp {s : Addr} {H H' : Hp} {a : Addr} {es : List Ent} (h : RowAt H a es) (k : Kp s H H') (h0 : StAt H s) (na : a ≠ s) : RowAt H' a es := by
  obtain ⟨ps, hl, pr⟩ := h
  exact ⟨ps, k.1 _ _ na hl, pr.tk (k.tk h0)⟩
theorem SeenAt.snoc {H : Hp} {a p : Addr} {c : Ct} {T w : Int} {n : Nat} {k : Str} {v : V} {ps : List Addr} (hl : H a = some (.lst (ps.map V.ref))) (hn : ps.length ≤ n) (hall : ∀ p ∈ ps, ∃ (k : Str) (w : Int) (v : V), H p = some (.tup [.str k, .int w, v]) ∧ k ∈ K6 ∧ w < T ∧ WAt H v (atD (esC c k) w))
    (hp : H p = some (.tup [.str k, .int w, v])) (hk : k ∈ K6) (hw : w < T) (wa : WAt H v (atD (esC c k) w)) : SeenAt (upd H a (.lst (ps.map V.ref ++ [.ref p]))) a c T (n + 1) := by
  have tk : Tk H (upd H a (.lst (ps.map V.ref ++ [.ref p]))) := fun b xs z => by rw [upd_ne (ne_of z hl (by intro q; cases q))]; exact z
  refine ⟨ps ++ [p], ?_, ?_, fun q hq => ?_⟩
  · rw [upd_same, List.map_append]
    rfl
  · rw [List.length_append]
    show ps.length + 1 ≤ n + 1
    omega
  · rcases List.mem_append.mp hq with z | z
    · obtain ⟨k1, w1, v1, a1, a2, a3, a4⟩ := hall q z
      exact ⟨k1, w1, v1, tk _ _ a1, a2, a3, a4.tk tk⟩
    · rw [List.mem_singleton.mp z]
      exact ⟨k, w, v, tk _ _ hp, hk, hw, wa.tk tk⟩
theorem K6_kok {k : Str} (h : k ∈ K6) : Kok k := k6_ok k h

theorem ok_Shelf___init__ {P : Program} {w : World} {K : PySem.W.Frag} {mg : Str → Option Value} {base : Heap} {a : Nat → Addr} {d : Nat → FuncData} (T : Txt K mg a d) : FnOk P w K mg base CX0 1 (a 8) (d 8) ["self"] (spInit (a 29)) := by
  refine T.F_Shelf___init__.ok sc_Shelf___init__ (fun vs H Q E h => ?_) (fun cdv A outer s0 H vs Q E hr h => ?_)
  · obtain ⟨x, dx, rfl, hx, q⟩ := h
    rfl
  · obtain ⟨x, dx, rfl, hx, q⟩ := h
    refine ⟨_, (pss_cons (ps_fld (pv 0) pe_dnewK rfl) (pss_cons (ps_fld (pv 0) pe_non rfl) (pss_cons (ps_fld (pv 0) pe_bl rfl) (pss_one (ps_fld (pv 0) pe_dnewK rfl))))), ?_⟩
    intro rd nrd
    have hxr : x ≠ rd := ne_of_none hx nrd
    refine ⟨_, rfl, x, _, dx, _, rfl, (by rw [upd_ne hxr]; exact hx), T.cl, T.n_rows, (by decide), ?_⟩
    refine ⟨_, rfl, x, _, dx, _, rfl, upd_same, T.cl, T.n_let_go_to, (by show 1 < 1000; decide), ?_⟩
    refine ⟨_, rfl, x, _, dx, _, rfl, upd_same, T.cl, T.n_lent, Nat.lt_of_le_of_lt (few_up (few_up few0 _ _) _ _) (by decide), ?_⟩
    rw [upd_twice, upd_twice]
    intro od nod
    have hxo : x ≠ od := fun z => by rw [z, upd_same] at nod; cases nod
    have nod1 : (upd H rd (.dK [])) od = none := by rw [upd_ne (Ne.symm hxo)] at nod; exact nod
    have nrr : od ≠ rd := fun z => by rw [z, upd_same] at nod1; cases nod1
    have nod2 : H od = none := by rw [upd_ne nrr] at nod1; exact nod1
    refine ⟨_, rfl, x, _, dx, _, rfl, (by rw [upd_ne hxo]; exact upd_same), T.cl, T.n_own_rows, Nat.lt_of_le_of_lt (few_up (few_up (few_up few0 _ _) _ _) _ _) (by decide), ?_⟩
    rw [sf_new]
    refine q rd od _ nrd nod2 (fun b o n e => ?_) ⟨⟨dx, upd_same⟩, ⟨?_, (fun p hp => by cases hp), by simp, by simp⟩, ?_, nrr, fun _ => ⟨List.nodup_nil, fun k hk => by cases hk⟩⟩
    · rw [upd_ne n, upd_ne (ne_of_none e nod2), upd_ne n, upd_ne (ne_of_none e nrd)]
      exact e
    · rw [upd_ne (Ne.symm hxr), upd_ne (Ne.symm nrr), upd_ne (Ne.symm hxr), upd_same]
      rfl
    · rw [upd_ne (Ne.symm hxo), upd_same]
      rfl

theorem ok_is_whole {P : Program} {w : World} {K : PySem.W.Frag} {mg : Str → Option Value} {base : Heap} {a : Nat → Addr} {d : Nat → FuncData} (T : Txt K mg a d) : FnOk P w K mg base CX0 1 (a 0) (d 0) ["thing"] (spWholeD K) := by
  refine T.F_is_whole.ok sc_is_whole (fun vs H Q E h => ?_) (fun cdv A outer s0 H vs Q E hr h => ?_)
  · obtain ⟨v, d', rfl, ha, q⟩ := h
    rfl
  · obtain ⟨v, d', rfl, ha, q⟩ := h
    refine ⟨_, (pss_one (ps_ret (pe_and (pe_callB call_isi (by rfl) T.z_isinstance (by decide +kernel) (pa_cons (pv 0) (pa_cons (pe_bltn (v := .ty "int") (by rfl) T.z_int (by decide +kernel) rfl) pa_nil))) (pe_one (pe_not (pe_callB call_isi (by rfl) T.z_isinstance (by decide +kernel) (pa_cons (pv 0) (pa_cons (pe_bltn (v := .ty "bool") (by rfl) T.z_bool (by decide +kernel) rfl) pa_nil)))))))), ?_⟩
    obtain ⟨t, i, b, c, ty, ei, eb, _, ew, _⟩ := ha.is
    refine ⟨_, rfl, v, .ty "int", t, .type "int", i, rfl, .ty "int", ty, ei, i, rfl, ?_⟩
    cases i with
    | false => exact iteF (bq (Q := Q) ew.symm q)
    | true => exact iteT ⟨_, rfl, v, .ty "bool", t, .type "bool", b, rfl, .ty "bool", ty, eb, b, rfl, bq (Q := Q) ew.symm q⟩

theorem ok_is_row_of_whole {P : Program} {w : World} {K : PySem.W.Frag} {mg : Str → Option Value} {base : Heap} {a : Nat → Addr} {d : Nat → FuncData} (T : Txt K mg a d) : FnOk P w K mg base CX0 2 (a 1) (d 1) ["thing", "least", "most"] (spRowN K) := by
  refine T.F_is_row_of_whole.ok sc_is_row_of_whole (fun vs H Q E h => ?_) (fun cdv A outer s0 H vs Q E hr h => ?_)
  · obtain ⟨v, d', lo, hi, rfl, ha, hk, q⟩ := h
    rfl
  · obtain ⟨v, d', lo, hi, rfl, ha, hk, q⟩ := h
    refine ⟨_, (pss_cons (ps_if (PW.pt (pw_or (pt_not (pt_truth (pe_callB call_isi (by rfl) T.z_isinstance (by decide +kernel) (pa_cons (pv 0) (pa_cons (pe_bltn (v := .ty "tuple") (by rfl) T.z_tuple (by decide +kernel) rfl) pa_nil))) (by intro _; rfl))) (pw_or1 (pt_not (pt_chain op_le op_le (pv 1) (pe_callB call_len_seq (by rfl) T.z_len PySem.boot_len (pa_cons (pv 0) pa_nil)) (pv 2)))))) (pss_one (ps_ret pe_bl)) pss_nil) (pss_cons (ps_for PassesOwn.never rfl (pi_tup (pv 0)) (pg_name (i := 3) sc_is_row_of_whole.nd rfl (.inl rfl)) (pss_one (ps_if (PW.pt (pw_or (pt_not (pt_truth (pe_callB call_isi (by rfl) T.z_isinstance (by decide +kernel) (pa_cons (pv 3) (pa_cons (pe_bltn (v := .ty "int") (by rfl) T.z_int (by decide +kernel) rfl) pa_nil))) (by intro _; rfl))) (pw_or1 (pt_truth (pe_callB call_isi (by rfl) T.z_isinstance (by decide +kernel) (pa_cons (pv 3) (pa_cons (pe_bltn (v := .ty "bool") (by rfl) T.z_bool (by decide +kernel) rfl) pa_nil))) (by intro _; rfl))))) (pss_one (ps_ret pe_bl)) pss_nil))) (pss_one (ps_ret pe_bl)))), ?_⟩
    obtain ⟨t, _, _, c, ty, _, _, et, _, ec⟩ := ha.is
    refine ⟨_, rfl, v, .ty "tuple", t, .type "tuple", c, rfl, .ty "tuple", ty, et, c, rfl, ?_⟩
    cases c with
    | false => exact iteT (bq (Q := Q) (row_no ec.symm) (q H (Same.refl H)))
    | true =>
      refine iteF ?_
      obtain ⟨ds, rfl⟩ := istup ec.symm
      obtain ⟨p, xs, rfl, hS, hall⟩ := ha.tup
      have hlen := dpall_len hall
      refine ⟨_, rfl, _, rfl, p, _, rfl, .inr hS, lo, _, rfl, rfl, _, rfl, ?_⟩
      by_cases h1 : (lo : Int) ≤ (xs.length : Int)
      · refine iteDT h1 ⟨_, rfl, _, hi, rfl, rfl, _, rfl, ?_⟩
        by_cases h2 : (xs.length : Int) ≤ (hi : Int)
        · refine iteNS h2 ?_
          refine ⟨_, rfl, p, rfl, ⟨_, hS⟩, ?_⟩
          refine for_tup (K := K) (a := p) (xs := xs) (fun i σ H' => H' = H ∧ (ds.take i).all wholeD = true ∧ ∃ z : Option V, σ = [some (.ref p), some (.int lo), some (.int hi), z]) ⟨rfl, rfl, none, rfl⟩ (fun i σ H' _ z => by rw [z.1]; exact hS) ?_ ?_
          · rintro i x σ H' hx ⟨rfl, hT, z, rfl⟩
            obtain ⟨e, he, hd⟩ := dpall_get hall hx
            obtain ⟨t', i', b, _, ty', ei, eb, _, ew, _⟩ := (An.dp hd).is
            refine ⟨_, rfl, x, .ty "int", t', .type "int", i', rfl, .ty "int", ty', ei, i', rfl, ?_⟩
            have no : wholeD e = false → rowN (.tuple ds) lo hi = false := fun z => by
              simp only [rowN, mem_notall he z, Bool.and_false]
            cases i' with
            | false => exact iteT (bq (Q := Q) (no ew.symm) (q _ (Same.refl _)))
            | true =>
              refine iteF ⟨_, rfl, x, .ty "bool", t', .type "bool", b, rfl, .ty "bool", ty', eb, b, rfl, ?_⟩
              cases b with
              | true => exact iteT (bq (Q := Q) (no ew.symm) (q _ (Same.refl _)))
              | false => exact iteF ⟨rfl, take_all hT he ew.symm, _, rfl⟩
          · rintro σ H' ⟨rfl, hT, z, rfl⟩
            refine bq (Q := Q) ?_ (q _ (Same.refl _))
            rw [hlen, List.take_length] at hT
            have g1 : lo ≤ ds.length := by omega
            have g2 : ds.length ≤ hi := by omega
            simp only [rowN, g1, g2, hT, decide_true, Bool.and_self]
        · refine iteND h2 ?_
          refine bq (Q := Q) ?_ (q H (Same.refl H))
          have g2 : ¬ ds.length ≤ hi := by omega
          simp only [rowN, g2, decide_false, Bool.false_and, Bool.and_false]
      · refine iteDF h1 ⟨false, rfl, iteT ?_⟩
        refine bq (Q := Q) ?_ (q H (Same.refl H))
        have g2 : ¬ lo ≤ ds.length := by omega
        simp only [rowN, g2, decide_false, Bool.false_and]

theorem ok_is_stamp {P : Program} {w : World} {K : PySem.W.Frag} {mg : Str → Option Value} {base : Heap} {a : Nat → Addr} {d : Nat → FuncData} (T : Txt K mg a d) : FnOk P w K mg base CX0 3 (a 2) (d 2) ["thing"] spStampT := by
  refine T.F_is_stamp.ok sc_is_stamp (fun vs H Q E h => ?_) (fun cdv A outer s0 H vs Q E hr h => ?_)
  · obtain ⟨p, t, s, h, rfl, hp, hs, hh, q⟩ := h
    rfl
  · obtain ⟨p, t, s, h, rfl, hp, hs, hh, q⟩ := h
    refine ⟨_, (pss_one (ps_ret (pe_and (pe_call (ok_is_row_of_whole T) (hr.mono (by decide)) (by rfl) T.g_is_row_of_whole T.F_is_row_of_whole.kp T.b_is_row_of_whole .nil pass0 (pa_cons (pv 0) (pa_cons pe_int (pa_cons pe_int pa_nil)))) (pe_and (pe_cmpR op_ge (pe_ix ix_tup (pv 0) pe_int (fun _ _ => rfl)) pe_int (nomark _)) (pe_one (pe_cmpR op_ge (pe_ix ix_tup (pv 0) pe_int (fun _ _ => rfl)) pe_int (nomark _))))))), ?_⟩
    refine ⟨_, rfl, .ref p, .tuple [.int t, .int s, .int h], 3, 3, rfl, .dp (.tup (SqT.of hp) (.cons (.int _) (.cons (.int _) (.cons (.int _) .nil)))), by decide, fun H1 s1 => ?_⟩
    refine ⟨_, rfl, iteBT rfl ?_⟩
    refine ⟨_, rfl, p, _, 1, _, rfl, rfl, SqT.of (s1 _ _ hp), rfl, s, 0, rfl, rfl, _, rfl, iteDT hs ?_⟩
    exact ⟨_, rfl, p, _, 2, _, rfl, rfl, SqT.of (s1 _ _ hp), rfl, h, 0, rfl, rfl, bl_of (Q := Q) hh (q H1 s1)⟩

theorem ok_is_key {P : Program} {w : World} {K : PySem.W.Frag} {mg : Str → Option Value} {base : Heap} {a : Nat → Addr} {d : Nat → FuncData} (T : Txt K mg a d) : FnOk P w K mg base CX0 2 (a 3) (d 3) ["thing"] spKeyT := by
  refine T.F_is_key.ok sc_is_key (fun vs H Q E h => ?_) (fun cdv A outer s0 H vs Q E hr h => ?_)
  · obtain ⟨z, rfl, hk, q⟩ := h
    rfl
  · obtain ⟨z, rfl, hk, q⟩ := h
    refine ⟨_, (pss_cons (ps_if (PW.pt (pw_or (pt_not (pt_truth (pe_callB call_isi (by rfl) T.z_isinstance (by decide +kernel) (pa_cons (pv 0) (pa_cons (pe_bltn (v := .ty "str") (by rfl) T.z_str (by decide +kernel) rfl) pa_nil))) (by intro _; rfl))) (pw_or1 (pt_not (pt_chain op_le op_le pe_int (pe_callB call_len_str (by rfl) T.z_len PySem.boot_len (pa_cons (pv 0) pa_nil)) (pe_glob (v := .int (6)) (by rfl) (Exists.choose_spec T.g_MOST_LETTERS) ⟨_, rfl⟩)))))) (pss_one (ps_ret pe_bl)) pss_nil) (pss_one (ps_ret (pe_cmpR op_eq (pe_bm PySem.F.plainAttrs_str PySem.F.slot_str_strip PySem.F.type_str_strip mt_stripChars (pv 0) (pa_cons (pe_glob (v := .str "abcdefghijklmnopqrstuvwxyz") (by rfl) (Exists.choose_spec T.g_LETTERS) ⟨_, rfl⟩) pa_nil)) pe_str (nomark _))))), ?_⟩
    have hz := hk.sh
    have kd := hk.kd
    simp only [keyD, Bool.and_eq_true, decide_eq_true_eq] at kd
    obtain ⟨⟨g1, g2⟩, g3⟩ := kd
    have lz : z.length = z.cps.toList.length := (Array.length_toList (xs := z.cps)).symm
    refine ⟨_, rfl, .str z, .ty "str", _, .type "str", true, rfl, .ty "str", .base (.str z), kit_ty (by decide +kernel), true, rfl, iteF ?_⟩
    refine ⟨_, rfl, z, rfl, Nat.le_trans hz.len (by decide), 1, _, rfl, rfl, _, rfl, ?_⟩
    refine iteDT (by omega) ⟨_, 6, rfl, rfl, _, rfl, iteNS (by omega) ?_⟩
    refine ⟨_, rfl, rfl, z, _, rfl, rfl, Nat.le_trans hz.len (by decide), rfl, ?_⟩
    refine bq (Q := Q) ?_ (q H (Same.refl H))
    rw [strip_key]
    exact g3.symm

theorem ok_is_worth {P : Program} {w : World} {K : PySem.W.Frag} {mg : Str → Option Value} {base : Heap} {a : Nat → Addr} {d : Nat → FuncData} (T : Txt K mg a d) : FnOk P w K mg base CX0 3 (a 4) (d 4) ["thing"] spWorthT := by
  refine T.F_is_worth.ok sc_is_worth (fun vs H Q E h => ?_) (fun cdv A outer s0 H vs Q E hr h => ?_)
  · obtain ⟨p, ns, rfl, hp, h1, h2, q⟩ := h
    rfl
  · obtain ⟨p, ns, rfl, hp, h1, h2, q⟩ := h
    refine ⟨_, (pss_one (ps_ret (pe_call (ok_is_row_of_whole T) (hr.mono (by decide)) (by rfl) T.g_is_row_of_whole T.F_is_row_of_whole.kp T.b_is_row_of_whole .nil pass0 (pa_cons (pv 0) (pa_cons pe_int (pa_cons (pe_glob (v := .int (4)) (by rfl) (Exists.choose_spec T.g_MOST_FIELDS) ⟨_, rfl⟩) pa_nil)))))), ?_⟩
    refine ⟨_, rfl, .ref p, .tuple (ns.map .int), 1, 4, rfl, .dp (.tup (SqT.of hp) (dpall_ints _)), by decide, fun H1 s1 => bq (Q := Q) ?_ (q H1 s1)⟩
    have : ∀ l : List Int, (l.map PyData.int).all wholeD = true := fun l => List.all_eq_true.mpr fun d hd => by
      obtain ⟨n, _, rfl⟩ := List.mem_map.mp hd
      rfl
    simp only [rowN, List.length_map, h1, h2, this, decide_true, Bool.and_self]

theorem ok_refuse_no_key {P : Program} {w : World} {K : PySem.W.Frag} {mg : Str → Option Value} {base : Heap} {a : Nat → Addr} {d : Nat → FuncData} (T : Txt K mg a d) : FnOk P w K mg base CX0 3 (a 5) (d 5) ["thing"] spKeyN := by
  refine T.F_refuse_no_key.ok sc_refuse_no_key (fun vs H Q E h => ?_) (fun cdv A outer s0 H vs Q E hr h => ?_)
  · obtain ⟨k, rfl, hk, q⟩ := h
    rfl
  · obtain ⟨k, rfl, hk, q⟩ := h
    refine ⟨_, (pss_one (ps_if (pt_not (pt_truth (pe_call (ok_is_key T) (hr.mono (by decide)) (by rfl) T.g_is_key T.F_is_key.kp T.b_is_key .nil pass0 (pa_cons (pv 0) pa_nil)) (by intro _; rfl))) (pss_one ps_never) pss_nil)), ?_⟩
    exact ⟨_, rfl, k, rfl, hk, fun H1 s1 => ⟨true, rfl, iteF (q H1 s1)⟩⟩

theorem ok_refuse_no_time {P : Program} {w : World} {K : PySem.W.Frag} {mg : Str → Option Value} {base : Heap} {a : Nat → Addr} {d : Nat → FuncData} (T : Txt K mg a d) : FnOk P w K mg base CX0 2 (a 6) (d 6) ["thing"] spTimeN := by
  refine T.F_refuse_no_time.ok sc_refuse_no_time (fun vs H Q E h => ?_) (fun cdv A outer s0 H vs Q E hr h => ?_)
  · obtain ⟨t, rfl, q⟩ := h
    rfl
  · obtain ⟨t, rfl, q⟩ := h
    refine ⟨_, (pss_one (ps_if (pt_not (pt_truth (pe_call (ok_is_whole T) (hr.mono (by decide)) (by rfl) T.g_is_whole T.F_is_whole.kp T.b_is_whole .nil pass0 (pa_cons (pv 0) pa_nil)) (by intro _; rfl))) (pss_one ps_never) pss_nil)), ?_⟩
    exact ⟨_, rfl, .int t, .int t, rfl, .dp (.int t), true, rfl, iteF q⟩

theorem ok_many_up_to {P : Program} {w : World} {K : PySem.W.Frag} {mg : Str → Option Value} {base : Heap} {a : Nat → Addr} {d : Nat → FuncData} (T : Txt K mg a d) : FnOk P w K mg base CX0 1 (a 7) (d 7) ["row", "time"] spMany := by
  refine T.F_many_up_to.ok sc_many_up_to (fun vs H Q E h => ?_) (fun cdv A outer s0 H vs Q E hr h => ?_)
  · obtain ⟨r, es, t, rfl, hr0, hl, hpw, q⟩ := h
    rfl
  · obtain ⟨r, es, t, rfl, hr0, hl, hpw, q⟩ := h
    refine ⟨_, (pss_cons (ps_set (i := 2) sc_many_up_to.nd rfl (Or.inl rfl) pe_int) (pss_cons (ps_set (i := 3) sc_many_up_to.nd rfl (Or.inl rfl) (pe_callB call_len_seq (by rfl) T.z_len PySem.boot_len (pa_cons (pv 0) pa_nil))) (pss_cons (ps_if (PW.pt (pw_or (pt_cmpR op_eq (pv 3) pe_int (nomark _)) (pw_or1 (pt_cmpR op_le (pe_ix ix_tup (pe_ix ix_tup (pe_ix ix_list (pv 0) (pe_un un_neg pe_int) (fun _ _ => rfl)) pe_int (fun _ _ => rfl)) pe_int (fun _ _ => rfl)) (pv 1) (nomark _))))) (pss_one (ps_ret (pv 3))) pss_nil) (pss_cons (ps_while PassesOwn.never (pt_cmpR op_lt (pv 2) (pv 3) (nomark _)) (pss_cons (ps_set (i := 4) sc_many_up_to.nd rfl (Or.inl rfl) (pe_op op_fdiv (pe_op op_add (pv 2) (pv 3)) pe_int)) (pss_one (ps_if (pt_cmpR op_le (pe_ix ix_tup (pe_ix ix_tup (pe_ix ix_list (pv 0) (pv 4) (fun _ _ => rfl)) pe_int (fun _ _ => rfl)) pe_int (fun _ _ => rfl)) (pv 1) (nomark _)) (pss_one (ps_set (i := 2) sc_many_up_to.nd rfl (Or.inl rfl) (pe_op op_add (pv 4) pe_int))) (pss_one (ps_set (i := 3) sc_many_up_to.nd rfl (Or.inl rfl) (pv 4))))))) (pss_one (ps_ret (pv 2))))))), ?_⟩
    obtain ⟨ps, hr1, pr⟩ := hr0
    have lp := pr.len
    have hlen : (ps.map V.ref).length = es.length := by rw [List.length_map]; exact lp
    have hle := List.length_filter_le (fun e : Ent => decide (e.t ≤ t)) es
    have at_ : ∀ {j : Nat}, j < es.length → ∃ (p sa wa : Addr) (e : Ent), ps[j]? = some p ∧ atI (ps.map V.ref) (j : Int) = some (.ref p) ∧ es[j]? = some e ∧ H p = some (.tup [.ref sa, .ref wa]) ∧ H sa = some (.tup [.int e.t, .int e.s, .int e.h]) := fun {j} hj => by
      obtain ⟨p, hp⟩ : ∃ p, ps[j]? = some p := ⟨_, List.getElem?_eq_getElem (by omega)⟩
      obtain ⟨e, he, sa, wa, e1, e2, _⟩ := pr.get hp
      exact ⟨p, sa, wa, e, hp, atI_nat (by rw [List.getElem?_map, hp]; rfl), he, e1, e2⟩
    refine ⟨_, rfl, r, _, rfl, .inl (SqL.of hr1), ?_⟩
    rw [hlen]
    refine ⟨_, rfl, rfl, _, rfl, ?_⟩
    by_cases e0 : es.length = 0
    · refine iteDT (by rw [e0]; rfl) ⟨_, rfl, iq (Q := Q) ?_ (q H (Same.refl H))⟩
      omega
    refine iteDF (fun z => e0 (by have := V.int.inj z; omega)) ?_
    obtain ⟨p, sa, wa, e, hp0, hp, he, e1, e2⟩ := at_ (j := es.length - 1) (by omega)
    have lst : atI (ps.map V.ref) (-1) = some (.ref p) := last_at (by rw [List.getLast?_map, List.getLast?_eq_getElem?, lp, hp0]; rfl)
    refine ⟨_, rfl, 1, rfl, r, _, -1, .ref p, rfl, rfl, SqL.of hr1, lst, p, _, 0, _, rfl, rfl, SqT.of e1, rfl, sa, _, 0, _, rfl, rfl, SqT.of e2, rfl, _, rfl, _, _, rfl, rfl, _, rfl, ?_⟩
    by_cases c : e.t ≤ t
    · refine iteDT c ⟨_, rfl, iq (Q := Q) ?_ (q H (Same.refl H))⟩
      have := (take_iff hpw he).mp c
      omega
    refine iteDF c ?_
    refine ⟨fun k σ H' => H' = H ∧ ∃ (lo hi : Nat) (v4 : Option V), σ = [some (.ref r), some (.int t), some (.int (lo : Int)), some (.int (hi : Int)), v4] ∧ k = hi - lo ∧ lo ≤ (es.filter fun e => decide (e.t ≤ t)).length ∧ (es.filter fun e => decide (e.t ≤ t)).length ≤ hi ∧ hi ≤ es.length, ⟨_, rfl, 0, es.length, _, rfl, rfl, Nat.zero_le _, hle, Nat.le_refl _⟩, ?_⟩
    rintro k σ H' ⟨rfl, lo, hi, v4, rfl, rfl, h1, h2, h3⟩
    refine ⟨_, rfl, _, rfl, _, _, rfl, rfl, _, rfl, ?_⟩
    by_cases lt : lo < hi
    · refine iteDT (by omega) ⟨_, fun _ _ z => z, ?_⟩
      have em : ((lo : Int) + (hi : Int)) / 2 = (((lo + hi) / 2 : Nat) : Int) := by omega
      refine ⟨_, rfl, _, rfl, _, _, rfl, rfl, _, 2, rfl, rfl, ⟨by decide, by decide⟩, ?_⟩
      generalize ev : ((fun i j : Int => V.int (i / j)) ((lo : Int) + (hi : Int)) 2) = vm
      obtain ⟨md, hmd⟩ : ∃ md, md = (lo + hi) / 2 := ⟨_, rfl⟩
      have ev2 : vm = V.int (md : Int) := by rw [← ev]; show V.int (((lo : Int) + (hi : Int)) / 2) = _; rw [em, hmd]
      subst ev2
      clear ev
      obtain ⟨p2, sa2, wa2, e', _, hp2, he2, e12, e22⟩ := at_ (j := md) (by omega)
      refine ⟨_, rfl, _, rfl, r, _, (md : Int), .ref p2, rfl, rfl, SqL.of hr1, hp2, p2, _, 0, _, rfl, rfl, SqT.of e12, rfl, sa2, _, 0, _, rfl, rfl, SqT.of e22, rfl, _, rfl, _, _, rfl, rfl, _, rfl, ?_⟩
      have ti := take_iff (t := t) hpw he2
      by_cases c2 : e'.t ≤ t
      · have := ti.mp c2
        refine iteDT c2 ⟨_, rfl, _, 1, rfl, rfl, ?_⟩
        exact ⟨hi - (md + 1), by omega, rfl, md + 1, hi, _, rfl, rfl, by omega, by omega, h3⟩
      · have : ¬ md < _ := fun z => c2 (ti.mpr z)
        refine iteDF c2 ⟨_, rfl, ?_⟩
        exact ⟨md - lo, by omega, rfl, lo, md, _, rfl, rfl, by omega, by omega, by omega⟩
    · refine iteDF (by omega) ?_
      refine ⟨_, rfl, iq (Q := Q) ?_ (q H' (Same.refl H'))⟩
      omega

theorem ok_Shelf_row_of {P : Program} {w : World} {K : PySem.W.Frag} {mg : Str → Option Value} {base : Heap} {a : Nat → Addr} {d : Nat → FuncData} (T : Txt K mg a d) : FnOk P w K mg base CX0 4 (a 9) (d 9) ["self", "key"] (spRowOf (a 29)) := by
  refine T.F_Shelf_row_of.ok sc_Shelf_row_of (fun vs H Q E h => ?_) (fun cdv A outer s0 H vs Q E hr h => ?_)
  · obtain ⟨x, rd, od, le, os, k, m, lg, rfl, hs, hk, q⟩ := h
    rfl
  · obtain ⟨x, rd, od, le, os, k, m, lg, rfl, hs, hk, q⟩ := h
    obtain ⟨dx, hx⟩ := hs.ins
    refine ⟨_, (pss_cons (ps_expr (pe_call (ok_refuse_no_key T) (hr.mono (by decide)) (by rfl) T.g_refuse_no_key T.F_refuse_no_key.kp T.b_refuse_no_key .nil pass0 (pa_cons (pv 1) pa_nil))) (pss_one (ps_ret (pe_dget2 (hu_of hr) (pe_fld (pv 0) rfl) (pv 1) (pe_lst pa_nil) ⟨rfl, rfl, rfl, rfl⟩)))), ?_⟩
    refine ⟨_, rfl, k, rfl, hk, fun H1 s1 => ?_⟩
    have hd := s1 _ _ hs.tab.dict
    refine ⟨_, rfl, x, _, dx, _, _, rfl, s1 _ _ hx, T.cl, T.n_rows, sf_r _ _ _ _, rd, rfl, .inl ⟨_, .inl hd⟩, _, rfl, Nat.zero_le _, fun n nn => ?_⟩
    refine ⟨_, DGet.k (k := Sum.inr k) (by rw [upd_ne (ne_of_none hd nn)]; exact hd), ?_⟩
    rw [val_kvT]
    have sn : Same H (upd H1 n (.lst [])) := same_new s1 nn
    cases ha : atT m k with
    | some p => exact q p.1 _ sn ((hs.tab.es ha).same sn) (.inl ⟨p.2, ha⟩)
    | none =>
      refine q n _ sn ⟨[], upd_same, ?_⟩ (.inr ⟨ha, s1.free nn⟩)
      unfold esT
      rw [ha]
      exact .nil

theorem ok_Shelf_versions {P : Program} {w : World} {K : PySem.W.Frag} {mg : Str → Option Value} {base : Heap} {a : Nat → Addr} {d : Nat → FuncData} (T : Txt K mg a d) : FnOk P w K mg base CX0 5 (a 12) (d 12) ["self", "key"] (spVersions (a 29)) := by
  refine T.F_Shelf_versions.ok sc_Shelf_versions (fun vs H Q E h => ?_) (fun cdv A outer s0 H vs Q E hr h => ?_)
  · obtain ⟨x, rd, od, le, os, k, m, lg, rfl, hs, hk, q⟩ := h
    rfl
  · obtain ⟨x, rd, od, le, os, k, m, lg, rfl, hs, hk, q⟩ := h
    obtain ⟨dx, hx⟩ := hs.ins
    refine ⟨_, (pss_one (ps_ret (pe_callTy call_list_of (by rfl) T.z_list (by decide +kernel) (pa_cons (pe_meth (pv 0) T.cl T.m_Shelf_row_of (ok_Shelf_row_of T) (hr.mono (by decide)) T.b_Shelf_row_of .nil pass0 (pa_cons (pv 1) pa_nil)) pa_nil)))), ?_⟩
    refine ⟨_, rfl, x, dx, _, rfl, hx, sf_no _ _ _ _ (by decide +kernel) (by decide +kernel) (by decide +kernel) (by decide +kernel), _, rfl, x, rd, od, le, os, k, m, lg, rfl, hs, hk, fun r H1 s1 hrow hr => ?_⟩
    obtain ⟨ps, hl, pr⟩ := hrow
    refine ⟨r, _, rfl, .inl (SqL.of hl), fun l nl => ?_⟩
    have sn : Same H1 (upd H1 l (.lst (ps.map V.ref))) := same_new (Same.refl H1) nl
    exact q l _ (s1.free nl) (s1.trans sn) ⟨ps, upd_same, pr.tk (same_tk sn)⟩

theorem ok_Shelf_all_keys {P : Program} {w : World} {K : PySem.W.Frag} {mg : Str → Option Value} {base : Heap} {a : Nat → Addr} {d : Nat → FuncData} (T : Txt K mg a d) : FnOk P w K mg base CX0 1 (a 13) (d 13) ["self"] (spKeys (a 29)) := by
  refine T.F_Shelf_all_keys.ok sc_Shelf_all_keys (fun vs H Q E h => ?_) (fun cdv A outer s0 H vs Q E hr h => ?_)
  · obtain ⟨x, rd, od, le, os, m, lg, rfl, hs, hm, q⟩ := h
    rfl
  · obtain ⟨x, rd, od, le, os, m, lg, rfl, hs, hm, q⟩ := h
    obtain ⟨dx, hx⟩ := hs.ins
    refine ⟨_, (pss_one (ps_ret (pe_callB cr_sortedS (by rfl) T.z_sorted (by decide +kernel) (pa_cons (pe_callTy (call_list_dK rfl) (by rfl) T.z_list (by decide +kernel) (pa_cons (pe_fld (pv 0) rfl) pa_nil)) pa_nil)))), ?_⟩
    refine ⟨_, rfl, x, _, dx, _, _, rfl, hx, T.cl, T.n_rows, sf_r _ _ _ _, rd, _, rfl, hs.tab.dict, fun n nn => ?_⟩
    rw [keys_kv]
    have sn : Same H (upd H n (.lst ((m.map (·.1)).map V.str))) := same_new (Same.refl H) nn
    refine ⟨n, m.map (·.1), rfl, SqL.of upd_same, (by rw [List.length_map]; omega), fun ys p perm srt np => ?_⟩
    exact q p ys _ (sn.free np) (same_new sn np) upd_same perm srt

theorem ok_Shelf_newest {P : Program} {w : World} {K : PySem.W.Frag} {mg : Str → Option Value} {base : Heap} {a : Nat → Addr} {d : Nat → FuncData} (T : Txt K mg a d) : FnOk P w K mg base CX0 5 (a 14) (d 14) ["self", "key"] (spNewest K (a 29)) := by
  refine T.F_Shelf_newest.ok sc_Shelf_newest (fun vs H Q E h => ?_) (fun cdv A outer s0 H vs Q E hr h => ?_)
  · obtain ⟨x, rd, od, le, os, k, m, lg, rfl, hs, hk, q⟩ := h
    rfl
  · obtain ⟨x, rd, od, le, os, k, m, lg, rfl, hs, hk, q⟩ := h
    obtain ⟨dx, hx⟩ := hs.ins
    refine ⟨_, (pss_cons (ps_set (i := 2) sc_Shelf_newest.nd rfl (Or.inl rfl) (pe_meth (pv 0) T.cl T.m_Shelf_row_of (ok_Shelf_row_of T) (hr.mono (by decide)) T.b_Shelf_row_of .nil pass0 (pa_cons (pv 1) pa_nil))) (pss_one (ps_ret (pe_ifExp (pt_truth (pv 2) (by intro _; rfl)) (pe_ix ix_tup (pe_ix ix_list (pv 2) (pe_un un_neg pe_int) (fun _ _ => rfl)) pe_int (fun _ _ => rfl)) pe_non)))), ?_⟩
    refine ⟨_, rfl, x, dx, _, rfl, hx, sf_no _ _ _ _ (by decide +kernel) (by decide +kernel) (by decide +kernel) (by decide +kernel), _, rfl, x, rd, od, le, os, k, m, lg, rfl, hs, hk, fun r H1 s1 hrow hr => ?_⟩
    obtain ⟨ps, hl, pr⟩ := hrow
    refine ⟨_, rfl, !(ps.map V.ref).isEmpty, .inl ⟨_, SqL.of hl, rfl⟩, ?_⟩
    cases el : ps.getLast? with
    | none =>
      have e0 : ps = [] := List.getLast?_eq_none_iff.mp el
      subst e0
      have e1 : esT m k = [] := List.eq_nil_of_length_eq_zero pr.len.symm
      refine iteBF rfl (q .non H1 s1 ?_)
      rw [e1]
      exact .inl ⟨rfl, rfl⟩
    | some pl =>
      have hne : ps ≠ [] := fun z => by rw [z] at el; cases el
      refine iteBT (by cases ps with | nil => exact absurd rfl hne | cons _ _ => rfl) ?_
      have hpl : ps[ps.length - 1]? = some pl := by rw [← List.getLast?_eq_getElem?]; exact el
      obtain ⟨l, hle, sl, wl, e1, e2, e3⟩ := pr.get hpl
      have hlst : (esT m k).getLast? = some l := by rw [List.getLast?_eq_getElem?, ← pr.len]; exact hle
      refine ⟨_, rfl, 1, rfl, r, _, -1, .ref pl, rfl, rfl, SqL.of hl, last_at (by rw [List.getLast?_map, el]; rfl), pl, _, 1, _, rfl, rfl, SqT.of e1, rfl, q _ H1 s1 ?_⟩
      unfold lastD
      rw [hlst]
      exact .inr ⟨wl, l.w, rfl, rfl, e3⟩

theorem ok_Shelf_refuse_gone {P : Program} {w : World} {K : PySem.W.Frag} {mg : Str → Option Value} {base : Heap} {a : Nat → Addr} {d : Nat → FuncData} (T : Txt K mg a d) : FnOk P w K mg base CX0 1 (a 15) (d 15) ["self", "time"] (spGoneN (a 29)) := by
  refine T.F_Shelf_refuse_gone.ok sc_Shelf_refuse_gone (fun vs H Q E h => ?_) (fun cdv A outer s0 H vs Q E hr h => ?_)
  · obtain ⟨x, rd, od, le, os, m, t, lg, rfl, hs, hlg, q⟩ := h
    rfl
  · obtain ⟨x, rd, od, le, os, m, t, lg, rfl, hs, hlg, q⟩ := h
    obtain ⟨dx, hx⟩ := hs.ins
    refine ⟨_, (pss_one (ps_if (PW.pt (pw_and (pt_cmpR op_notN (pe_fld (pv 0) rfl) pe_non (nomark _)) (pw_and1 (pt_cmpR op_lt (pv 1) (pe_fld (pv 0) rfl) (nomark _))))) (pss_one ps_never) pss_nil)), ?_⟩
    rcases hlg with rfl | ⟨g, rfl, hg⟩
    · exact ⟨_, rfl, x, _, dx, _, _, rfl, hx, T.cl, T.n_let_go_to, sf_l _ _ _ _, rfl, _, rfl, iteBF rfl (iteF q)⟩
    · refine ⟨_, rfl, x, _, dx, _, _, rfl, hx, T.cl, T.n_let_go_to, sf_l _ _ _ _, rfl, _, rfl, iteBT rfl ?_⟩
      exact ⟨_, rfl, _, rfl, x, _, dx, _, _, rfl, hx, T.cl, T.n_let_go_to, sf_l _ _ _ _, t, g, rfl, rfl, _, rfl, iteDF (by omega) q⟩

theorem ok_Shelf_at {P : Program} {w : World} {K : PySem.W.Frag} {mg : Str → Option Value} {base : Heap} {a : Nat → Addr} {d : Nat → FuncData} (T : Txt K mg a d) : FnOk P w K mg base CX0 5 (a 16) (d 16) ["self", "key", "time"] (spAt K (a 29)) := by
  refine T.F_Shelf_at.ok sc_Shelf_at (fun vs H Q E h => ?_) (fun cdv A outer s0 H vs Q E hr h => ?_)
  · obtain ⟨x, rd, od, le, os, k, t, m, lg, rfl, hs, hlg, hk, hes, hpw, q⟩ := h
    rfl
  · obtain ⟨x, rd, od, le, os, k, t, m, lg, rfl, hs, hlg, hk, hes, hpw, q⟩ := h
    obtain ⟨dx, hx⟩ := hs.ins
    refine ⟨_, (pss_cons (ps_set (i := 3) sc_Shelf_at.nd rfl (Or.inl rfl) (pe_meth (pv 0) T.cl T.m_Shelf_row_of (ok_Shelf_row_of T) (hr.mono (by decide)) T.b_Shelf_row_of .nil pass0 (pa_cons (pv 1) pa_nil))) (pss_cons (ps_expr (pe_call (ok_refuse_no_time T) (hr.mono (by decide)) (by rfl) T.g_refuse_no_time T.F_refuse_no_time.kp T.b_refuse_no_time .nil pass0 (pa_cons (pv 2) pa_nil))) (pss_cons (ps_expr (pe_meth (pv 0) T.cl T.m_Shelf_refuse_gone (ok_Shelf_refuse_gone T) (hr.mono (by decide)) T.b_Shelf_refuse_gone .nil pass0 (pa_cons (pv 2) pa_nil))) (pss_cons (ps_set (i := 4) sc_Shelf_at.nd rfl (Or.inl rfl) (pe_call (ok_many_up_to T) (hr.mono (by decide)) (by rfl) T.g_many_up_to T.F_many_up_to.kp T.b_many_up_to .nil pass0 (pa_cons (pv 3) (pa_cons (pv 2) pa_nil)))) (pss_one (ps_ret (pe_ifExp (pt_truth (pv 4) (by intro _; rfl)) (pe_ix ix_tup (pe_ix ix_list (pv 3) (pe_op op_sub (pv 4) pe_int) (fun _ _ => rfl)) pe_int (fun _ _ => rfl)) pe_non))))))), ?_⟩
    refine ⟨_, rfl, x, dx, _, rfl, hx, sf_no _ _ _ _ (by decide +kernel) (by decide +kernel) (by decide +kernel) (by decide +kernel), _, rfl, x, rd, od, le, os, k, m, lg, rfl, hs, hk, fun r H1 s1 hrow hr => ?_⟩
    refine ⟨_, rfl, t, rfl, ?_⟩
    refine ⟨_, rfl, x, dx, _, rfl, s1 _ _ hx, sf_no _ _ _ _ (by decide +kernel) (by decide +kernel) (by decide +kernel) (by decide +kernel), _, rfl, x, rd, od, le, os, m, t, lg, rfl, hs.same s1, hlg, ?_⟩
    refine ⟨_, rfl, _, rfl, r, esT m k, t, rfl, hrow, hes, hpw, fun H2 s2 => ?_⟩
    have S2 := s1.trans s2
    obtain ⟨ps, hl, pr⟩ := hrow.same s2
    refine ⟨_, rfl, _, rfl, ?_⟩
    have ft := filter_take hpw t
    have hle := List.length_filter_le (fun e : Ent => decide (e.t ≤ t)) (esT m k)
    generalize hn : ((esT m k).filter fun e => decide (e.t ≤ t)).length = n at ft hle ⊢
    cases n with
    | zero =>
      refine iteBF rfl (q .non H2 S2 ?_)
      unfold atD
      rw [ft]
      exact .inl ⟨rfl, rfl⟩
    | succ j =>
      refine iteBT (bne_iff_ne.mpr (by omega)) ?_
      obtain ⟨p, hp⟩ : ∃ p, ps[j]? = some p := ⟨_, List.getElem?_eq_getElem (by rw [pr.len]; omega)⟩
      obtain ⟨e, he, sa, wa, e1, e2, e3⟩ := pr.get hp
      refine ⟨_, rfl, _, rfl, _, 1, rfl, rfl, r, _, _, .ref p, rfl, rfl, SqL.of hl, ?_, p, _, 1, _, rfl, rfl, SqT.of e1, rfl, q _ H2 S2 ?_⟩
      · have ej : ((j + 1 : Nat) : Int) - 1 = (j : Int) := by omega
        rw [ej]
        exact atI_nat (j := j) (by rw [List.getElem?_map, hp]; rfl)
      · unfold atD
        rw [ft, last_take he]
        exact .inr ⟨wa, e.w, rfl, rfl, e3⟩

theorem ok_Shelf___len__ {P : Program} {w : World} {K : PySem.W.Frag} {mg : Str → Option Value} {base : Heap} {a : Nat → Addr} {d : Nat → FuncData} (T : Txt K mg a d) : FnOk P w K mg base CX0 1 (a 17) (d 17) ["self"] (spLen (a 29)) := by
  refine T.F_Shelf___len__.ok sc_Shelf___len__ (fun vs H Q E h => ?_) (fun cdv A outer s0 H vs Q E hr h => ?_)
  · obtain ⟨x, rd, od, le, os, m, lg, rfl, hs, ht, q⟩ := h
    rfl
  · obtain ⟨x, rd, od, le, os, m, lg, rfl, hs, ht, q⟩ := h
    obtain ⟨dx, hx⟩ := hs.ins
    refine ⟨_, (pss_one (ps_ret (pe_callB call_len_seq (by rfl) T.z_len PySem.boot_len (pa_cons (pe_lock (pe_lc2 (own := [("row", 1), ("pair", 2)]) (vs1 := [2]) (g := (gName 1)) (g1 := (gName 2)) (wi1 := iList K (tVar 1)) (te := (tVar 2)) (by rfl) sc_Shelf___len__.nd (pi_values (pe_fld (pv 0) rfl)) (blkOk_by (own := [("row", 1), ("pair", 2)]) (N := ["self", "row", "pair"]) (sc := defScope s_Shelf___len__) (by decide +kernel)) (by decide) (fun _ _ _ _ _ => (pg_name (i := 1) sc_Shelf___len__.nd rfl (.inl rfl))) (fun _ _ _ _ _ => pts_nil) (fun _ _ _ _ _ => (pi_list (pv 1))) (fun _ _ _ _ _ => (pg_name (i := 2) sc_Shelf___len__.nd rfl (.inl rfl))) (fun _ _ _ _ _ => pts_nil) (fun _ _ _ _ _ => (pv 2)))) pa_nil)))), ?_⟩
    refine ⟨rd, _, hs.tab.dict, trivial, fun od => ?_⟩
    have hxd : x ≠ rd := ne_of hx hs.tab.dict (by intro q; cases q)
    have back : ∀ {b : Addr} {o : HO}, b ≠ rd → H b = some o → (upd H rd (.frz od (.dK (kvT m)))) b = some o := fun n e => by rw [upd_ne n]; exact e
    have hfz : (upd H rd (.frz od (.dK (kvT m)))) rd = some (.frz od (.dK (kvT m))) := upd_same
    refine ⟨_, rfl, x, _, dx, _, _, rfl, back hxd hx, T.cl, T.n_rows, sf_r _ _ _ _, rd, od, _, rfl, hfz, fun D nD => ?_⟩
    have hDr : D ≠ rd := fun z => by rw [z, hfz] at nD; cases nD
    have rows : ∀ p ∈ m, ∃ ps : List Addr, (upd H rd (.frz od (.dK (kvT m)))) p.2.1 = some (.lst (ps.map V.ref)) ∧ ps.length = p.2.2.length := fun p hp => by
      obtain ⟨ps, hl, pr⟩ := hs.tab.row p hp
      exact ⟨ps, back (hs.tab.at_kind hp) hl, pr.len⟩
    have tail : ∀ (H' : Hp), Same (upd H rd (.frz od (.dK (kvT m)))) H' → Same H (upd H' rd (.dK (kvT m))) := fun H' s b o z => by
      by_cases e : b = rd
      · subst e
        rw [upd_same, ← z]
        exact hs.tab.dict.symm
      · rw [upd_ne e]
        exact s _ _ (back e z)
    generalize (upd H rd (.frz od (.dK (kvT m)))) = Hf at *
    refine lc2_it walk_values (fun i H' => Same Hf H' ∧ ∃ zs, H' D = some (.lst zs) ∧ zs.length = tot (ct (m.take i))) ⟨same_new (Same.refl Hf) nD, [], (upd_same : upd Hf D (.lst []) D = some (.lst [])), rfl⟩ (fun i H' _ z => z.1 _ _ hfz) ?_ ?_
    · rintro i v H' H'' hi ⟨s1, zs, hD, hz⟩ ⟨rfl, k, hk⟩
      unfold kvT at hk
      rw [List.getElem?_map] at hk
      obtain ⟨p, hp, ep⟩ := Option.map_eq_some_iff.mp hk
      cases ep
      obtain ⟨ps, hl, hlen⟩ := rows p (List.mem_of_getElem? hp)
      have etot : tot (ct (m.take (i + 1))) = tot (ct (m.take i)) + p.2.2.length := by
        rw [List.take_add_one, hp]
        unfold ct
        rw [List.map_append, tot_app]
        show _ + tot [(p.1, p.2.2)] = _
        rw [tot_cons]
        rfl
      have hsub : tot (ct (m.take (i + 1))) ≤ tot (ct m) := by
        have e := List.take_append_drop (i + 1) m
        have : tot (ct m) = tot (ct (m.take (i + 1))) + tot (ct (m.drop (i + 1))) := by
          conv => lhs; rw [← e]
          unfold ct
          rw [List.map_append, tot_app]
        omega
      refine ⟨rfl, _, rfl, p.2.1, rfl, ⟨_, SqL.of (s1 _ _ hl)⟩, ?_⟩
      refine in_it (walk_list (xs := ps.map V.ref)) (fun j H' => Same Hf H' ∧ ∃ zs, H' D = some (.lst zs) ∧ zs.length = tot (ct (m.take i)) + j) ⟨s1, zs, hD, by omega⟩ (fun j H' _ z => SqL.of (z.1 _ _ hl)) ?_ ?_
      · rintro j y G G' hj ⟨s2, ys, hD2, hy⟩ ⟨rfl, hyy⟩
        rw [List.length_map] at hj
        refine ⟨rfl, _, rfl, ys, hD2, ?_, fun u o z => ?_, _, upd_same, ?_⟩
        · exact Nat.lt_of_le_of_lt (show ys.length ≤ 1000 by omega) (by decide)
        · rw [upd_ne (ne_of_none z nD)]
          exact s2 u o z
        · rw [List.length_append, hy]
          rfl
      · rintro G ⟨s2, ys, hD2, hy⟩
        rw [List.length_map] at hy
        exact ⟨s2, ys, hD2, by omega⟩
    · rintro H' ⟨s1, zs, hD, hz⟩
      have hlen : (kvT m).length = m.length := by unfold kvT; rw [List.length_map]
      rw [hlen, List.take_length] at hz
      refine ⟨s1 _ _ hfz, D, zs, rfl, .inl (SqL.of (by rw [upd_ne hDr]; exact hD)), iq (Q := Q) (by rw [hz]) (q _ (tail H' s1))⟩

theorem ok_Shelf_make_own {P : Program} {w : World} {K : PySem.W.Frag} {mg : Str → Option Value} {base : Heap} {a : Nat → Addr} {d : Nat → FuncData} (T : Txt K mg a d) : FnOk P w K mg base CX0 1 (a 10) (d 10) ["self"] (spOwn (a 29)) := by
  refine T.F_Shelf_make_own.ok sc_Shelf_make_own (fun vs H Q E h => ?_) (fun cdv A outer s0 H vs Q E hr h => ?_)
  · obtain ⟨x, rd, od, le, os, m, lg, rfl, hs, q⟩ := h
    rfl
  · obtain ⟨x, rd, od, le, os, m, lg, rfl, hs, q⟩ := h
    obtain ⟨dx, hx⟩ := hs.ins
    refine ⟨_, (pss_one (ps_if (pt_truth (pe_fld (pv 0) rfl) (by intro _; rfl)) (pss_cons (ps_fld (pv 0) (pe_callTy call_dictD (by rfl) T.z_dict (by decide +kernel) (pa_cons (pe_fld (pv 0) rfl) pa_nil)) rfl) (pss_cons (ps_fld (pv 0) pe_dnewK rfl) (pss_one (ps_fld (pv 0) pe_bl rfl)))) pss_nil)), ?_⟩
    cases le with
    | false => exact ⟨_, rfl, x, _, dx, _, _, rfl, hx, T.cl, T.n_lent, sf_t _ _ _ _, false, rfl, iteF (q rd od H hs (fun _ _ _ e => e) (.inl rfl) (.inl rfl) (fun _ => ⟨rfl, rfl⟩) (fun z => by cases z))⟩
    | true =>
      refine ⟨_, rfl, x, _, dx, _, _, rfl, hx, T.cl, T.n_lent, sf_t _ _ _ _, true, rfl, iteT ?_⟩
      refine ⟨_, rfl, x, _, dx, _, _, rfl, hx, T.cl, T.n_rows, sf_r _ _ _ _, rd, _, rfl, .inl hs.tab.dict, fun p np => ?_⟩
      have hxp : x ≠ p := ne_of_none hx np
      have s1 : Same H (upd H p (.dK (kvT m))) := same_new (Same.refl H) np
      have hp1 : (upd H p (.dK (kvT m))) p = some (.dK (kvT m)) := upd_same
      generalize (upd H p (.dK (kvT m))) = H1 at s1 hp1 ⊢
      refine ⟨_, rfl, x, _, dx, _, rfl, s1 _ _ hx, T.cl, T.n_rows, sf_len _ _ _ _, ?_⟩
      rw [sf_put_r]
      have k2 : ∀ b o, b ≠ x → H1 b = some o → (upd H1 x (.ins (a 29) dx (sf (.ref p) lg true od))) b = some o := fun b o n e => by rw [upd_ne n]; exact e
      have hx2 : (upd H1 x (.ins (a 29) dx (sf (.ref p) lg true od))) x = some (.ins (a 29) dx (sf (.ref p) lg true od)) := upd_same
      have f2 : ∀ b, (upd H1 x (.ins (a 29) dx (sf (.ref p) lg true od))) b = none → H b = none := fun b e => by
        by_cases c : b = x
        · rw [c, upd_same] at e; cases e
        · rw [upd_ne c] at e; exact s1.free e
      generalize (upd H1 x (.ins (a 29) dx (sf (.ref p) lg true od))) = H2 at k2 hx2 f2 ⊢
      intro d nd
      have hxd : x ≠ d := ne_of_none hx2 nd
      have s3 : Same H2 (upd H2 d (.dK [])) := same_new (Same.refl H2) nd
      have hd3 : (upd H2 d (.dK [])) d = some (.dK []) := upd_same
      have hdp : d ≠ p := Ne.symm (ne_of_none (k2 _ _ (Ne.symm hxp) hp1) nd)
      generalize (upd H2 d (.dK [])) = H3 at s3 hd3 ⊢
      refine ⟨_, rfl, x, _, dx, _, rfl, s3 _ _ hx2, T.cl, T.n_own_rows, sf_len _ _ _ _, ?_⟩
      rw [sf_put_o]
      refine ⟨_, rfl, x, _, dx, _, rfl, upd_same, T.cl, T.n_lent, sf_len _ _ _ _, ?_⟩
      rw [sf_put_t, upd_twice]
      have k4 : ∀ b o, b ≠ x → H b = some o → (upd H3 x (.ins (a 29) dx (sf (.ref p) lg false d))) b = some o := fun b o n e => by
        rw [upd_ne n]
        exact s3 _ _ (k2 _ _ n (s1 _ _ e))
      have tb : TabAt (upd H3 x (.ins (a 29) dx (sf (.ref p) lg false d))) p m := by
        refine ⟨?_, fun q hq => ?_, hs.tab.nd, hs.tab.na⟩
        · rw [upd_ne (Ne.symm hxp)]
          exact s3 _ _ (k2 _ _ (Ne.symm hxp) hp1)
        · obtain ⟨ps, hl, pr⟩ := hs.tab.row q hq
          exact ⟨ps, k4 _ _ (ne_of hl hx (by intro z; cases z)) hl, pr.tk fun b xs e => k4 _ _ (ne_of e hx (by intro z; cases z)) e⟩
      exact q p d _ ⟨⟨dx, upd_same⟩, tb, by rw [upd_ne (Ne.symm hxd)]; exact hd3, hdp, fun _ => ⟨List.nodup_nil, fun k hk => by cases hk⟩⟩ k4 (.inr np) (.inr (f2 _ nd)) (fun z => by cases z) (fun _ => ⟨np, f2 _ nd⟩)

theorem ok_Shelf_put {P : Program} {w : World} {K : PySem.W.Frag} {mg : Str → Option Value} {base : Heap} {a : Nat → Addr} {d : Nat → FuncData} (T : Txt K mg a d) : FnOk P w K mg base CX0 5 (a 11) (d 11) ["self", "key", "stamp", "worth"] (spPut (a 29)) := by
  refine T.F_Shelf_put.ok sc_Shelf_put (fun vs H Q E h => ?_) (fun cdv A outer s0 H vs Q E hr h => ?_)
  · obtain ⟨x, rd, od, sa, wa, le, os, k, m, lg, e, rfl, hs, hk, hsa, hwa, he, hm, hes, hlast, q⟩ := h
    rfl
  · obtain ⟨x, rd, od, sa, wa, le, os, k, m, lg, e, rfl, hs, hk, hsa, hwa, he, hm, hes, hlast, q⟩ := h
    obtain ⟨dx, hx⟩ := hs.ins
    refine ⟨_, (pss_cons (ps_set (i := 4) sc_Shelf_put.nd rfl (Or.inl rfl) (pe_meth (pv 0) T.cl T.m_Shelf_row_of (ok_Shelf_row_of T) (hr.mono (by decide)) T.b_Shelf_row_of .nil pass0 (pa_cons (pv 1) pa_nil))) (pss_cons (ps_if (pt_not (pt_truth (pe_call (ok_is_stamp T) (hr.mono (by decide)) (by rfl) T.g_is_stamp T.F_is_stamp.kp T.b_is_stamp .nil pass0 (pa_cons (pv 2) pa_nil)) (by intro _; rfl))) (pss_one ps_never) pss_nil) (pss_cons (ps_if (PW.pt (pw_and (pt_truth (pv 4) (by intro _; rfl)) (pw_and1 (pt_cmpR (op_geT hr.units0) (pe_ix ix_tup (pe_ix ix_list (pv 4) (pe_un un_neg pe_int) (fun _ _ => rfl)) pe_int (fun _ _ => rfl)) (pv 2) (nomark _))))) (pss_one ps_never) pss_nil) (pss_cons (ps_if (pt_not (pt_truth (pe_call (ok_is_worth T) (hr.mono (by decide)) (by rfl) T.g_is_worth T.F_is_worth.kp T.b_is_worth .nil pass0 (pa_cons (pv 3) pa_nil)) (by intro _; rfl))) (pss_one ps_never) pss_nil) (pss_cons (ps_expr (pe_meth0 (pv 0) T.cl T.m_Shelf_make_own (ok_Shelf_make_own T) (hr.mono (by decide)) T.b_Shelf_make_own .nil pass0)) (pss_cons (ps_if (pt_cmp (pc_dnotin (hu_of hr) (pv 1) (pe_fld (pv 0) rfl))) (pss_cons (ps_set (i := 4) sc_Shelf_put.nd rfl (Or.inl rfl) (pe_callTy call_list_of (by rfl) T.z_list (by decide +kernel) (pa_cons (pv 4) pa_nil))) (pss_cons (ps_dput (hu_of hr) (pe_fld (pv 0) rfl) (pv 1) (pv 4) rfl) (pss_one (ps_dput (hu_of hr) (pe_fld (pv 0) rfl) (pv 1) pe_bl rfl)))) pss_nil) (pss_one (ps_expr (pe_bm PySem.F.plainAttrs_list PySem.F.slot_list_append PySem.F.type_list_append mt_append (pv 4) (pa_cons (pe_tup (pa_cons (pv 2) (pa_cons (pv 3) pa_nil))) pa_nil)))))))))), ?_⟩
    refine ⟨_, rfl, x, dx, _, rfl, hx, sf_no _ _ _ _ (by decide +kernel) (by decide +kernel) (by decide +kernel) (by decide +kernel), _, rfl, x, rd, od, le, os, k, m, lg, rfl, hs, hk, fun r H1 s1 hrow hr => ?_⟩
    refine ⟨_, rfl, sa, e.t, e.s, e.h, rfl, s1 _ _ hsa, he.s1, he.h1, fun H2 s2 => ⟨true, rfl, iteF ?_⟩⟩
    have S2 := s1.trans s2
    obtain ⟨ps, hl2, pr2⟩ := hrow.same s2
    refine ⟨_, rfl, !(ps.map V.ref).isEmpty, .inl ⟨_, SqL.of hl2, rfl⟩, ?_⟩
    by_cases hps : ps = []
    · refine iteBF (by rw [hps]; rfl) (iteF ?_)
      refine ⟨_, rfl, wa, e.w, rfl, S2 _ _ hwa, he.w1, he.w2, fun H3 s3 => ⟨true, rfl, iteF ?_⟩⟩
      have S3 := S2.trans s3
      have hl3 := s3 _ _ hl2
      have hx3 := S3 _ _ hx
      refine ⟨_, rfl, x, dx, _, rfl, hx3, sf_no _ _ _ _ (by decide +kernel) (by decide +kernel) (by decide +kernel) (by decide +kernel), x, rd, od, le, os, m, lg, rfl, hs.same S3, fun rd1 od1 H4 hs4 fr4 o1 o2 o3 o4 => ?_⟩
      have xr : x ≠ r := ne_of hx3 hl3 (by intro q; cases q)
      have hl4 := fr4 _ _ (Ne.symm xr) hl3
      have o1 : rd1 = rd ∨ H rd1 = none := o1.imp id fun z => S3.free z
      have o2 : od1 = od ∨ H od1 = none := o2.imp id fun z => S3.free z
      have o4 : le = true → H rd1 = none ∧ H od1 = none := fun z => ⟨S3.free (o4 z).1, S3.free (o4 z).2⟩
      have K4 : ∀ b o, b ≠ x → H b = some o → H4 b = some o := fun b o n z => fr4 b o n (S3 _ _ z)
      have F4 : ∀ b, H4 b = none → H b = none := fun b z => by
        cases hb : H b with
        | none => rfl
        | some o =>
          by_cases c : b = x
          · obtain ⟨dx4, hx4⟩ := hs4.ins
            rw [c, hx4] at z
            cases z
          · rw [K4 b o c hb] at z
            cases z
      have TK4 : Tk H H4 := fun b xs z => K4 b _ (ne_of z hx (by intro q; cases q)) z
      have R4 : PrA H4 ps (esT m k) := (pr2.tk (same_tk s3)).tk fun b xs z => fr4 b _ (ne_of z hx3 (by intro q; cases q)) z
      obtain ⟨dx4, hx4⟩ := hs4.ins
      have own4 : H4 od1 = some (.dK (ownL (os1 le os))) := hs4.own
      have fit4 : (os1 le os).Nodup ∧ ∀ k ∈ os1 le os, k ∈ m.map (·.1) := hs4.fit rfl
      have hsa4 := TK4 _ _ hsa
      have hwa4 := TK4 _ _ hwa
      have hd4 := hs4.tab.dict
      refine ⟨_, rfl, _, rfl, x, _, dx4, _, _, rfl, hx4, T.cl, T.n_own_rows, sf_o _ _ _ _, od1, _, rfl, DGet.k (k := Sum.inr k) own4, _, rfl, ?_⟩
      rw [val_ownL]
      have xd : x ≠ rd1 := ne_of hx4 hd4 (by intro q; cases q)
      have xo : x ≠ od1 := ne_of hx4 own4 (by intro q; cases q)
      by_cases ho : k ∈ os1 le os
      · rw [decide_eq_true ho]
        refine iteBF rfl ?_
        have hle : le = false := by
          cases le with
          | false => rfl
          | true => cases ho
        subst hle
        obtain ⟨e1, e2⟩ := o3 rfl
        subst e1 e2
        obtain ⟨es, ha⟩ : ∃ es, atT m k = some (r, es) := by
          rcases hr with h | ⟨h, _⟩
          · exact h
          · obtain ⟨p, hp, e⟩ := List.mem_map.mp (fit4.2 k ho)
            exact absurd e (atT_none h p hp)
        have hrown : r ∈ ownS x rd1 od1 false os m := own_in (p := (k, r, es)) (atT_mem ha) ho
        refine ⟨_, rfl, .inl ⟨rfl, _, SqL.of hl4⟩, _, rfl, _, rfl, len2, fun pp npp => ?_⟩
        have hrp : r ≠ pp := ne_of_none hl4 npp
        have rrd : r ≠ rd1 := ne_of hl4 hd4 (by intro q; cases q)
        have rod : r ≠ od1 := ne_of hl4 own4 (by intro q; cases q)
        refine ⟨r, _, _, rfl, rfl, (by rw [upd_ne hrp]; exact hl4), ?_, ?_⟩
        · rw [List.length_map, R4.len]
          exact Nat.lt_of_le_of_lt hes (by decide)
        have keep : ∀ b o, H4 b = some o → b ≠ r → (upd (upd H4 pp (.tup [.ref sa, .ref wa])) r (.lst (ps.map V.ref ++ [V.ref pp]))) b = some o := fun b o z n2 => by
          rw [upd_ne n2, upd_ne (ne_of_none z npp)]
          exact z
        have hpp : (upd (upd H4 pp (.tup [.ref sa, .ref wa])) r (.lst (ps.map V.ref ++ [V.ref pp]))) pp = some (.tup [.ref sa, .ref wa]) := by
          rw [upd_ne (Ne.symm hrp), upd_same]
        have hrr : (upd (upd H4 pp (.tup [.ref sa, .ref wa])) r (.lst (ps.map V.ref ++ [V.ref pp]))) r = some (.lst (ps.map V.ref ++ [V.ref pp])) := upd_same
        generalize (upd (upd H4 pp (.tup [.ref sa, .ref wa])) r (.lst (ps.map V.ref ++ [V.ref pp]))) = H5 at keep hpp hrr ⊢
        have tk5 : ∀ b xs, H4 b = some (.tup xs) → H5 b = some (.tup xs) := fun b xs z => keep b _ z (ne_of z hl4 (by intro q; cases q))
        have hrow2 : RowAt H5 r (esT m k ++ [e]) := ⟨ps ++ [pp], by rw [hrr, List.map_append]; rfl, PrA.app (R4.tk tk5) (.cons ⟨sa, wa, hpp, tk5 _ _ hsa4, tk5 _ _ hwa4⟩ .nil)⟩
        have pk := putT_keys ha r e
        refine q rd1 od1 os (putT m k r e) H5 ⟨⟨dx4, keep _ _ hx4 xr⟩, hs4.tab.put (.inl ⟨es, ha⟩) (by rw [putK_self ha hs.tab.nd]; exact keep _ _ hd4 (Ne.symm rrd)) hrow2 (fun b o z _ n2 => keep b o z n2), keep _ _ own4 (Ne.symm rod), hs4.nod, fun _ => ⟨fit4.1, fun j hj => by rw [pk]; exact fit4.2 j hj⟩⟩ (ct_putT _ _ _ _) ⟨fun c o n z => ?_, fun c hc => ?_⟩ fun c hc => ?_
        · exact keep c o (K4 c o (fun y => n (y ▸ own_x)) z) fun y => n (y ▸ hrown)
        · rcases ownF hc with h | h | h | ⟨p, hp, hpo, h⟩
          · exact .inl (h ▸ own_x)
          · exact .inl (h ▸ own_od)
          · exact .inl (h ▸ own_rd)
          · obtain ⟨p0, h0, ek, ea⟩ := putT_addrs ha r e p hp
            left
            rw [← h, ← ea]
            exact own_in h0 (by rw [ek]; exact hpo)
        · rcases supF.mp hc with h | h | h | ⟨p, hp, h⟩
          · exact .inl (supF.mpr (.inl h))
          · exact .inl (supF.mpr (.inr (.inl h)))
          · exact .inl (supF.mpr (.inr (.inr (.inl h))))
          · obtain ⟨p0, h0, ek, ea⟩ := putT_addrs ha r e p hp
            exact .inl (supF.mpr (.inr (.inr (.inr ⟨p0, h0, ea.trans h⟩))))
      · rw [decide_eq_false ho]
        refine iteBT rfl ?_
        refine ⟨_, rfl, r, _, rfl, .inl (SqL.of hl4), fun l2 nl2 => ?_⟩
        have l2d : l2 ≠ rd1 := Ne.symm (ne_of_none hd4 nl2)
        have l2o : l2 ≠ od1 := Ne.symm (ne_of_none own4 nl2)
        have l2x : l2 ≠ x := Ne.symm (ne_of_none hx4 nl2)
        have s5 : Same H4 (upd H4 l2 (.lst (ps.map V.ref))) := same_new (Same.refl H4) nl2
        have hl5 : (upd H4 l2 (.lst (ps.map V.ref))) l2 = some (.lst (ps.map V.ref)) := upd_same
        generalize (upd H4 l2 (.lst (ps.map V.ref))) = H5 at s5 hl5 ⊢
        refine ⟨_, rfl, _, rfl, x, _, dx4, _, _, rfl, s5 _ _ hx4, T.cl, T.n_rows, sf_r _ _ _ _, _, rfl, rd1, _, rfl, DPut.k (k := Sum.inr k) (s5 _ _ hd4) ?_, ?_⟩
        · unfold kvT
          rw [List.length_map]
          exact Nat.lt_of_le_of_lt hm (by decide)
        have k6 : ∀ b o, H5 b = some o → b ≠ rd1 → (upd H5 rd1 (.dK (putK (kvT m) (Sum.inr k) (.ref l2)))) b = some o := fun b o z n => by rw [upd_ne n]; exact z
        have hd6 : (upd H5 rd1 (.dK (putK (kvT m) (Sum.inr k) (.ref l2)))) rd1 = some (.dK (putK (kvT m) (Sum.inr k) (.ref l2))) := upd_same
        generalize (upd H5 rd1 (.dK (putK (kvT m) (Sum.inr k) (.ref l2)))) = H6 at k6 hd6 ⊢
        have own6 := k6 _ _ (s5 _ _ own4) hs4.nod
        refine ⟨_, rfl, x, _, dx4, _, _, rfl, k6 _ _ (s5 _ _ hx4) xd, T.cl, T.n_own_rows, sf_o _ _ _ _, _, rfl, od1, _, rfl, DPut.k (k := Sum.inr k) own6 ?_, ?_⟩
        · unfold ownL
          rw [List.length_map]
          have : (os1 le os).length ≤ (m.map (·.1)).length := nodup_leS fit4.1 fit4.2
          rw [List.length_map] at this
          exact Nat.lt_of_le_of_lt (Nat.le_trans this hm) (by decide)
        rw [own_add]
        have k7 : ∀ b o, H6 b = some o → b ≠ od1 → (upd H6 od1 (.dK (ownL (addO (os1 le os) k)))) b = some o := fun b o z n => by rw [upd_ne n]; exact z
        have ho7 : (upd H6 od1 (.dK (ownL (addO (os1 le os) k)))) od1 = some (.dK (ownL (addO (os1 le os) k))) := upd_same
        generalize (upd H6 od1 (.dK (ownL (addO (os1 le os) k)))) = H7 at k7 ho7 ⊢
        have hl7 := k7 _ _ (k6 _ _ hl5 l2d) l2o
        refine ⟨_, rfl, .inl ⟨rfl, _, SqL.of hl7⟩, _, rfl, _, rfl, len2, fun pp npp => ?_⟩
        have lpp : l2 ≠ pp := ne_of_none hl7 npp
        refine ⟨l2, _, _, rfl, rfl, (by rw [upd_ne lpp]; exact hl7), ?_, ?_⟩
        · rw [List.length_map, R4.len]
          exact Nat.lt_of_le_of_lt hes (by decide)
        have k9 : ∀ b o, H7 b = some o → b ≠ l2 → (upd (upd H7 pp (.tup [.ref sa, .ref wa])) l2 (.lst (ps.map V.ref ++ [V.ref pp]))) b = some o := fun b o z n => by
          rw [upd_ne n, upd_ne (ne_of_none z npp)]
          exact z
        have hpp : (upd (upd H7 pp (.tup [.ref sa, .ref wa])) l2 (.lst (ps.map V.ref ++ [V.ref pp]))) pp = some (.tup [.ref sa, .ref wa]) := by
          rw [upd_ne (Ne.symm lpp), upd_same]
        have hll : (upd (upd H7 pp (.tup [.ref sa, .ref wa])) l2 (.lst (ps.map V.ref ++ [V.ref pp]))) l2 = some (.lst (ps.map V.ref ++ [V.ref pp])) := upd_same
        generalize (upd (upd H7 pp (.tup [.ref sa, .ref wa])) l2 (.lst (ps.map V.ref ++ [V.ref pp]))) = H9 at k9 hpp hll ⊢
        have k49 : ∀ b o, H4 b = some o → b ≠ rd1 → b ≠ od1 → H9 b = some o := fun b o z n1 n2 => k9 _ _ (k7 _ _ (k6 _ _ (s5 _ _ z) n1) n2) (ne_of_none z nl2)
        have tk9 : ∀ b xs, H4 b = some (.tup xs) → H9 b = some (.tup xs) := fun b xs z => k49 b _ z (ne_of z hd4 (by intro q; cases q)) (ne_of z own4 (by intro q; cases q))
        have hrow2 : RowAt H9 l2 (esT m k ++ [e]) := ⟨ps ++ [pp], by rw [hll, List.map_append]; rfl, PrA.app (R4.tk tk9) (.cons ⟨sa, wa, hpp, tk9 _ _ hsa4, tk9 _ _ hwa4⟩ .nil)⟩
        have own9 : H9 od1 = some (.dK (ownL (addO (os1 le os) k))) := k9 _ _ ho7 (Ne.symm l2o)
        have hd9 : H9 rd1 = some (.dK (putK (kvT m) (Sum.inr k) (.ref l2))) := k9 _ _ (k7 _ _ hd6 (Ne.symm hs4.nod)) (Ne.symm l2d)
        have T1 : TabAt (upd H4 od1 (.dK (ownL (addO (os1 le os) k)))) rd1 m := hs4.tab.frame own4 (Ne.symm hs4.nod) fun b o z n => by rw [upd_ne n]; exact z
        have n1 : (upd H4 od1 (.dK (ownL (addO (os1 le os) k)))) l2 = none := by rw [upd_ne l2o]; exact nl2
        have kp : ∀ b o, (upd H4 od1 (.dK (ownL (addO (os1 le os) k)))) b = some o → b ≠ rd1 → H9 b = some o := fun b o z n => by
          by_cases bo : b = od1
          · rw [bo] at z ⊢
            rw [upd_same] at z
            rw [own9]
            exact z
          · rw [upd_ne bo] at z
            exact k49 _ _ z n bo
        have T9 : TabAt H9 rd1 (putN m k l2 e) := by
          cases ha : atT m k with
          | none =>
            have e1 : putN m k l2 e = m ++ [(k, l2, [e])] := by unfold putN; rw [ha]
            rw [e1]
            rw [esT_none ha] at hrow2
            exact T1.addN ha n1 hd9 hrow2 kp
          | some qq =>
            obtain ⟨r0, es0⟩ := qq
            rw [putN_some ha hs.tab.nd]
            rw [esT_some ha] at hrow2
            exact T1.setN ha n1 hd9 hrow2 kp
        refine q rd1 od1 _ (putN m k l2 e) H9 ⟨⟨dx4, k49 _ _ hx4 xd xo⟩, T9, own9, hs4.nod, fun _ => ⟨addO_nd fit4.1 k, fun j hj => ?_⟩⟩ (ct_putN _ _ _ _) ⟨fun c o n z => ?_, fun c hc => ?_⟩ fun c hc => ?_
        · rw [putN_keys]
          exact (addO_mem.mp hj).imp (fit4.2 j) id
        · have nx : c ≠ x := fun y => n (y ▸ own_x)
          refine k49 c o (K4 c o nx z) (fun y => ?_) fun y => ?_
          · cases le with
            | false => exact n (y ▸ (o3 rfl).1 ▸ own_rd)
            | true => rw [y, (o4 rfl).1] at z; cases z
          · cases le with
            | false => exact n (y ▸ (o3 rfl).2 ▸ own_od)
            | true => rw [y, (o4 rfl).2] at z; cases z
        · have ro : ∀ {c}, c = rd1 → c ∈ ownS x rd od le os m ∨ H c = none := fun h => by
            subst h
            cases le with
            | false => exact .inl ((o3 rfl).1 ▸ own_rd)
            | true => exact .inr (o4 rfl).1
          have oo : ∀ {c}, c = od1 → c ∈ ownS x rd od le os m ∨ H c = none := fun h => by
            subst h
            cases le with
            | false => exact .inl ((o3 rfl).2 ▸ own_od)
            | true => exact .inr (o4 rfl).2
          rcases ownF hc with h | h | h | ⟨p, hp, hpo, h⟩
          · exact .inl (h ▸ own_x)
          · exact oo h
          · exact ro h
          · rcases putN_addrs m k l2 e p hp with ⟨_, ea⟩ | ⟨nk, hm'⟩
            · right
              rw [← h, ea]
              exact F4 _ nl2
            · left
              have hpo : p.1 ∈ os1 le os := (addO_mem.mp hpo).elim id fun z => absurd z nk
              rw [← h]
              cases le with
              | false => exact own_in hm' hpo
              | true => cases hpo
        · rcases supF.mp hc with h | h | h | ⟨p, hp, h⟩
          · exact .inl (supF.mpr (.inl h))
          · rcases o2 with y | y
            · exact .inl (supF.mpr (.inr (.inl (h.trans y))))
            · exact .inr (h ▸ y)
          · rcases o1 with y | y
            · exact .inl (supF.mpr (.inr (.inr (.inl (h.trans y)))))
            · exact .inr (h ▸ y)
          · rcases putN_addrs m k l2 e p hp with ⟨_, ea⟩ | ⟨nk, hm'⟩
            · right
              rw [← h, ea]
              exact F4 _ nl2
            · exact .inl (supF.mpr (.inr (.inr (.inr ⟨p, hm', h⟩))))
    · refine iteBT (by cases ps with | nil => exact absurd rfl hps | cons _ _ => rfl) ?_
      obtain ⟨pl, epl⟩ : ∃ pl, ps.getLast? = some pl := ⟨_, List.getLast?_eq_some_getLast hps⟩
      have hpl : ps[ps.length - 1]? = some pl := by rw [← List.getLast?_eq_getElem?]; exact epl
      obtain ⟨l, hl, sl, wl, e1, e2, e3⟩ := pr2.get hpl
      have hlst : (esT m k).getLast? = some l := by rw [List.getLast?_eq_getElem?, ← pr2.len]; exact hl
      have lte := hlast l hlst
      refine ⟨_, rfl, 1, rfl, r, _, -1, .ref pl, rfl, rfl, SqL.of hl2, last_at (by rw [List.getLast?_map, epl]; rfl), pl, _, 0, _, rfl, rfl, SqT.of e1, rfl, _, rfl, sl, sa, [l.t, l.s, l.h], [e.t, e.s, e.h], rfl, rfl, SqT.of e2, SqT.of (S2 _ _ hsa), _, rfl, iteBF (ge_no lte) ?_⟩
      refine ⟨_, rfl, wa, e.w, rfl, S2 _ _ hwa, he.w1, he.w2, fun H3 s3 => ⟨true, rfl, iteF ?_⟩⟩
      have S3 := S2.trans s3
      have hl3 := s3 _ _ hl2
      have hx3 := S3 _ _ hx
      refine ⟨_, rfl, x, dx, _, rfl, hx3, sf_no _ _ _ _ (by decide +kernel) (by decide +kernel) (by decide +kernel) (by decide +kernel), x, rd, od, le, os, m, lg, rfl, hs.same S3, fun rd1 od1 H4 hs4 fr4 o1 o2 o3 o4 => ?_⟩
      have xr : x ≠ r := ne_of hx3 hl3 (by intro q; cases q)
      have hl4 := fr4 _ _ (Ne.symm xr) hl3
      have o1 : rd1 = rd ∨ H rd1 = none := o1.imp id fun z => S3.free z
      have o2 : od1 = od ∨ H od1 = none := o2.imp id fun z => S3.free z
      have o4 : le = true → H rd1 = none ∧ H od1 = none := fun z => ⟨S3.free (o4 z).1, S3.free (o4 z).2⟩
      have K4 : ∀ b o, b ≠ x → H b = some o → H4 b = some o := fun b o n z => fr4 b o n (S3 _ _ z)
      have F4 : ∀ b, H4 b = none → H b = none := fun b z => by
        cases hb : H b with
        | none => rfl
        | some o =>
          by_cases c : b = x
          · obtain ⟨dx4, hx4⟩ := hs4.ins
            rw [c, hx4] at z
            cases z
          · rw [K4 b o c hb] at z
            cases z
      have TK4 : Tk H H4 := fun b xs z => K4 b _ (ne_of z hx (by intro q; cases q)) z
      have R4 : PrA H4 ps (esT m k) := (pr2.tk (same_tk s3)).tk fun b xs z => fr4 b _ (ne_of z hx3 (by intro q; cases q)) z
      obtain ⟨dx4, hx4⟩ := hs4.ins
      have own4 : H4 od1 = some (.dK (ownL (os1 le os))) := hs4.own
      have fit4 : (os1 le os).Nodup ∧ ∀ k ∈ os1 le os, k ∈ m.map (·.1) := hs4.fit rfl
      have hsa4 := TK4 _ _ hsa
      have hwa4 := TK4 _ _ hwa
      have hd4 := hs4.tab.dict
      refine ⟨_, rfl, _, rfl, x, _, dx4, _, _, rfl, hx4, T.cl, T.n_own_rows, sf_o _ _ _ _, od1, _, rfl, DGet.k (k := Sum.inr k) own4, _, rfl, ?_⟩
      rw [val_ownL]
      have xd : x ≠ rd1 := ne_of hx4 hd4 (by intro q; cases q)
      have xo : x ≠ od1 := ne_of hx4 own4 (by intro q; cases q)
      by_cases ho : k ∈ os1 le os
      · rw [decide_eq_true ho]
        refine iteBF rfl ?_
        have hle : le = false := by
          cases le with
          | false => rfl
          | true => cases ho
        subst hle
        obtain ⟨e1, e2⟩ := o3 rfl
        subst e1 e2
        obtain ⟨es, ha⟩ : ∃ es, atT m k = some (r, es) := by
          rcases hr with h | ⟨h, _⟩
          · exact h
          · obtain ⟨p, hp, e⟩ := List.mem_map.mp (fit4.2 k ho)
            exact absurd e (atT_none h p hp)
        have hrown : r ∈ ownS x rd1 od1 false os m := own_in (p := (k, r, es)) (atT_mem ha) ho
        refine ⟨_, rfl, .inl ⟨rfl, _, SqL.of hl4⟩, _, rfl, _, rfl, len2, fun pp npp => ?_⟩
        have hrp : r ≠ pp := ne_of_none hl4 npp
        have rrd : r ≠ rd1 := ne_of hl4 hd4 (by intro q; cases q)
        have rod : r ≠ od1 := ne_of hl4 own4 (by intro q; cases q)
        refine ⟨r, _, _, rfl, rfl, (by rw [upd_ne hrp]; exact hl4), ?_, ?_⟩
        · rw [List.length_map, R4.len]
          exact Nat.lt_of_le_of_lt hes (by decide)
        have keep : ∀ b o, H4 b = some o → b ≠ r → (upd (upd H4 pp (.tup [.ref sa, .ref wa])) r (.lst (ps.map V.ref ++ [V.ref pp]))) b = some o := fun b o z n2 => by
          rw [upd_ne n2, upd_ne (ne_of_none z npp)]
          exact z
        have hpp : (upd (upd H4 pp (.tup [.ref sa, .ref wa])) r (.lst (ps.map V.ref ++ [V.ref pp]))) pp = some (.tup [.ref sa, .ref wa]) := by
          rw [upd_ne (Ne.symm hrp), upd_same]
        have hrr : (upd (upd H4 pp (.tup [.ref sa, .ref wa])) r (.lst (ps.map V.ref ++ [V.ref pp]))) r = some (.lst (ps.map V.ref ++ [V.ref pp])) := upd_same
        generalize (upd (upd H4 pp (.tup [.ref sa, .ref wa])) r (.lst (ps.map V.ref ++ [V.ref pp]))) = H5 at keep hpp hrr ⊢
        have tk5 : ∀ b xs, H4 b = some (.tup xs) → H5 b = some (.tup xs) := fun b xs z => keep b _ z (ne_of z hl4 (by intro q; cases q))
        have hrow2 : RowAt H5 r (esT m k ++ [e]) := ⟨ps ++ [pp], by rw [hrr, List.map_append]; rfl, PrA.app (R4.tk tk5) (.cons ⟨sa, wa, hpp, tk5 _ _ hsa4, tk5 _ _ hwa4⟩ .nil)⟩
        have pk := putT_keys ha r e
        refine q rd1 od1 os (putT m k r e) H5 ⟨⟨dx4, keep _ _ hx4 xr⟩, hs4.tab.put (.inl ⟨es, ha⟩) (by rw [putK_self ha hs.tab.nd]; exact keep _ _ hd4 (Ne.symm rrd)) hrow2 (fun b o z _ n2 => keep b o z n2), keep _ _ own4 (Ne.symm rod), hs4.nod, fun _ => ⟨fit4.1, fun j hj => by rw [pk]; exact fit4.2 j hj⟩⟩ (ct_putT _ _ _ _) ⟨fun c o n z => ?_, fun c hc => ?_⟩ fun c hc => ?_
        · exact keep c o (K4 c o (fun y => n (y ▸ own_x)) z) fun y => n (y ▸ hrown)
        · rcases ownF hc with h | h | h | ⟨p, hp, hpo, h⟩
          · exact .inl (h ▸ own_x)
          · exact .inl (h ▸ own_od)
          · exact .inl (h ▸ own_rd)
          · obtain ⟨p0, h0, ek, ea⟩ := putT_addrs ha r e p hp
            left
            rw [← h, ← ea]
            exact own_in h0 (by rw [ek]; exact hpo)
        · rcases supF.mp hc with h | h | h | ⟨p, hp, h⟩
          · exact .inl (supF.mpr (.inl h))
          · exact .inl (supF.mpr (.inr (.inl h)))
          · exact .inl (supF.mpr (.inr (.inr (.inl h))))
          · obtain ⟨p0, h0, ek, ea⟩ := putT_addrs ha r e p hp
            exact .inl (supF.mpr (.inr (.inr (.inr ⟨p0, h0, ea.trans h⟩))))
      · rw [decide_eq_false ho]
        refine iteBT rfl ?_
        refine ⟨_, rfl, r, _, rfl, .inl (SqL.of hl4), fun l2 nl2 => ?_⟩
        have l2d : l2 ≠ rd1 := Ne.symm (ne_of_none hd4 nl2)
        have l2o : l2 ≠ od1 := Ne.symm (ne_of_none own4 nl2)
        have l2x : l2 ≠ x := Ne.symm (ne_of_none hx4 nl2)
        have s5 : Same H4 (upd H4 l2 (.lst (ps.map V.ref))) := same_new (Same.refl H4) nl2
        have hl5 : (upd H4 l2 (.lst (ps.map V.ref))) l2 = some (.lst (ps.map V.ref)) := upd_same
        generalize (upd H4 l2 (.lst (ps.map V.ref))) = H5 at s5 hl5 ⊢
        refine ⟨_, rfl, _, rfl, x, _, dx4, _, _, rfl, s5 _ _ hx4, T.cl, T.n_rows, sf_r _ _ _ _, _, rfl, rd1, _, rfl, DPut.k (k := Sum.inr k) (s5 _ _ hd4) ?_, ?_⟩
        · unfold kvT
          rw [List.length_map]
          exact Nat.lt_of_le_of_lt hm (by decide)
        have k6 : ∀ b o, H5 b = some o → b ≠ rd1 → (upd H5 rd1 (.dK (putK (kvT m) (Sum.inr k) (.ref l2)))) b = some o := fun b o z n => by rw [upd_ne n]; exact z
        have hd6 : (upd H5 rd1 (.dK (putK (kvT m) (Sum.inr k) (.ref l2)))) rd1 = some (.dK (putK (kvT m) (Sum.inr k) (.ref l2))) := upd_same
        generalize (upd H5 rd1 (.dK (putK (kvT m) (Sum.inr k) (.ref l2)))) = H6 at k6 hd6 ⊢
        have own6 := k6 _ _ (s5 _ _ own4) hs4.nod
        refine ⟨_, rfl, x, _, dx4, _, _, rfl, k6 _ _ (s5 _ _ hx4) xd, T.cl, T.n_own_rows, sf_o _ _ _ _, _, rfl, od1, _, rfl, DPut.k (k := Sum.inr k) own6 ?_, ?_⟩
        · unfold ownL
          rw [List.length_map]
          have : (os1 le os).length ≤ (m.map (·.1)).length := nodup_leS fit4.1 fit4.2
          rw [List.length_map] at this
          exact Nat.lt_of_le_of_lt (Nat.le_trans this hm) (by decide)
        rw [own_add]
        have k7 : ∀ b o, H6 b = some o → b ≠ od1 → (upd H6 od1 (.dK (ownL (addO (os1 le os) k)))) b = some o := fun b o z n => by rw [upd_ne n]; exact z
        have ho7 : (upd H6 od1 (.dK (ownL (addO (os1 le os) k)))) od1 = some (.dK (ownL (addO (os1 le os) k))) := upd_same
        generalize (upd H6 od1 (.dK (ownL (addO (os1 le os) k)))) = H7 at k7 ho7 ⊢
        have hl7 := k7 _ _ (k6 _ _ hl5 l2d) l2o
        refine ⟨_, rfl, .inl ⟨rfl, _, SqL.of hl7⟩, _, rfl, _, rfl, len2, fun pp npp => ?_⟩
        have lpp : l2 ≠ pp := ne_of_none hl7 npp
        refine ⟨l2, _, _, rfl, rfl, (by rw [upd_ne lpp]; exact hl7), ?_, ?_⟩
        · rw [List.length_map, R4.len]
          exact Nat.lt_of_le_of_lt hes (by decide)
        have k9 : ∀ b o, H7 b = some o → b ≠ l2 → (upd (upd H7 pp (.tup [.ref sa, .ref wa])) l2 (.lst (ps.map V.ref ++ [V.ref pp]))) b = some o := fun b o z n => by
          rw [upd_ne n, upd_ne (ne_of_none z npp)]
          exact z
        have hpp : (upd (upd H7 pp (.tup [.ref sa, .ref wa])) l2 (.lst (ps.map V.ref ++ [V.ref pp]))) pp = some (.tup [.ref sa, .ref wa]) := by
          rw [upd_ne (Ne.symm lpp), upd_same]
        have hll : (upd (upd H7 pp (.tup [.ref sa, .ref wa])) l2 (.lst (ps.map V.ref ++ [V.ref pp]))) l2 = some (.lst (ps.map V.ref ++ [V.ref pp])) := upd_same
        generalize (upd (upd H7 pp (.tup [.ref sa, .ref wa])) l2 (.lst (ps.map V.ref ++ [V.ref pp]))) = H9 at k9 hpp hll ⊢
        have k49 : ∀ b o, H4 b = some o → b ≠ rd1 → b ≠ od1 → H9 b = some o := fun b o z n1 n2 => k9 _ _ (k7 _ _ (k6 _ _ (s5 _ _ z) n1) n2) (ne_of_none z nl2)
        have tk9 : ∀ b xs, H4 b = some (.tup xs) → H9 b = some (.tup xs) := fun b xs z => k49 b _ z (ne_of z hd4 (by intro q; cases q)) (ne_of z own4 (by intro q; cases q))
        have hrow2 : RowAt H9 l2 (esT m k ++ [e]) := ⟨ps ++ [pp], by rw [hll, List.map_append]; rfl, PrA.app (R4.tk tk9) (.cons ⟨sa, wa, hpp, tk9 _ _ hsa4, tk9 _ _ hwa4⟩ .nil)⟩
        have own9 : H9 od1 = some (.dK (ownL (addO (os1 le os) k))) := k9 _ _ ho7 (Ne.symm l2o)
        have hd9 : H9 rd1 = some (.dK (putK (kvT m) (Sum.inr k) (.ref l2))) := k9 _ _ (k7 _ _ hd6 (Ne.symm hs4.nod)) (Ne.symm l2d)
        have T1 : TabAt (upd H4 od1 (.dK (ownL (addO (os1 le os) k)))) rd1 m := hs4.tab.frame own4 (Ne.symm hs4.nod) fun b o z n => by rw [upd_ne n]; exact z
        have n1 : (upd H4 od1 (.dK (ownL (addO (os1 le os) k)))) l2 = none := by rw [upd_ne l2o]; exact nl2
        have kp : ∀ b o, (upd H4 od1 (.dK (ownL (addO (os1 le os) k)))) b = some o → b ≠ rd1 → H9 b = some o := fun b o z n => by
          by_cases bo : b = od1
          · rw [bo] at z ⊢
            rw [upd_same] at z
            rw [own9]
            exact z
          · rw [upd_ne bo] at z
            exact k49 _ _ z n bo
        have T9 : TabAt H9 rd1 (putN m k l2 e) := by
          cases ha : atT m k with
          | none =>
            have e1 : putN m k l2 e = m ++ [(k, l2, [e])] := by unfold putN; rw [ha]
            rw [e1]
            rw [esT_none ha] at hrow2
            exact T1.addN ha n1 hd9 hrow2 kp
          | some qq =>
            obtain ⟨r0, es0⟩ := qq
            rw [putN_some ha hs.tab.nd]
            rw [esT_some ha] at hrow2
            exact T1.setN ha n1 hd9 hrow2 kp
        refine q rd1 od1 _ (putN m k l2 e) H9 ⟨⟨dx4, k49 _ _ hx4 xd xo⟩, T9, own9, hs4.nod, fun _ => ⟨addO_nd fit4.1 k, fun j hj => ?_⟩⟩ (ct_putN _ _ _ _) ⟨fun c o n z => ?_, fun c hc => ?_⟩ fun c hc => ?_
        · rw [putN_keys]
          exact (addO_mem.mp hj).imp (fit4.2 j) id
        · have nx : c ≠ x := fun y => n (y ▸ own_x)
          refine k49 c o (K4 c o nx z) (fun y => ?_) fun y => ?_
          · cases le with
            | false => exact n (y ▸ (o3 rfl).1 ▸ own_rd)
            | true => rw [y, (o4 rfl).1] at z; cases z
          · cases le with
            | false => exact n (y ▸ (o3 rfl).2 ▸ own_od)
            | true => rw [y, (o4 rfl).2] at z; cases z
        · have ro : ∀ {c}, c = rd1 → c ∈ ownS x rd od le os m ∨ H c = none := fun h => by
            subst h
            cases le with
            | false => exact .inl ((o3 rfl).1 ▸ own_rd)
            | true => exact .inr (o4 rfl).1
          have oo : ∀ {c}, c = od1 → c ∈ ownS x rd od le os m ∨ H c = none := fun h => by
            subst h
            cases le with
            | false => exact .inl ((o3 rfl).2 ▸ own_od)
            | true => exact .inr (o4 rfl).2
          rcases ownF hc with h | h | h | ⟨p, hp, hpo, h⟩
          · exact .inl (h ▸ own_x)
          · exact oo h
          · exact ro h
          · rcases putN_addrs m k l2 e p hp with ⟨_, ea⟩ | ⟨nk, hm'⟩
            · right
              rw [← h, ea]
              exact F4 _ nl2
            · left
              have hpo : p.1 ∈ os1 le os := (addO_mem.mp hpo).elim id fun z => absurd z nk
              rw [← h]
              cases le with
              | false => exact own_in hm' hpo
              | true => cases hpo
        · rcases supF.mp hc with h | h | h | ⟨p, hp, h⟩
          · exact .inl (supF.mpr (.inl h))
          · rcases o2 with y | y
            · exact .inl (supF.mpr (.inr (.inl (h.trans y))))
            · exact .inr (h ▸ y)
          · rcases o1 with y | y
            · exact .inl (supF.mpr (.inr (.inr (.inl (h.trans y)))))
            · exact .inr (h ▸ y)
          · rcases putN_addrs m k l2 e p hp with ⟨_, ea⟩ | ⟨nk, hm'⟩
            · right
              rw [← h, ea]
              exact F4 _ nl2
            · exact .inl (supF.mpr (.inr (.inr (.inr ⟨p, hm', h⟩))))

theorem ok_Shelf_let_go {P : Program} {w : World} {K : PySem.W.Frag} {mg : Str → Option Value} {base : Heap} {a : Nat → Addr} {d : Nat → FuncData} (T : Txt K mg a d) : FnOk P w K mg base CX0 3 (a 18) (d 18) ["self", "time"] (spLetGo (a 29)) := by
  refine T.F_Shelf_let_go.ok sc_Shelf_let_go (fun vs H Q E h => ?_) (fun cdv A outer s0 H vs Q E hr h => ?_)
  · obtain ⟨x, rd, od, le, os, m, lg, t, rfl, hs, hlg, hml, hrl, q⟩ := h
    rfl
  · obtain ⟨x, rd, od, le, os, m, lg, t, rfl, hs, hlg, hml, hrl, q⟩ := h
    obtain ⟨dx, hx⟩ := hs.ins
    refine ⟨_, (pss_cons (ps_expr (pe_call (ok_refuse_no_time T) (hr.mono (by decide)) (by rfl) T.g_refuse_no_time T.F_refuse_no_time.kp T.b_refuse_no_time .nil pass0 (pa_cons (pv 1) pa_nil))) (pss_cons (ps_expr (pe_meth0 (pv 0) T.cl T.m_Shelf_make_own (ok_Shelf_make_own T) (hr.mono (by decide)) T.b_Shelf_make_own .nil pass0)) (pss_cons (ps_for PassesOwn.never rfl (pi_list (pe_callTy (call_list_dK rfl) (by rfl) T.z_list (by decide +kernel) (pa_cons (pe_fld (pv 0) rfl) pa_nil))) (pg_name (i := 2) sc_Shelf_let_go.nd rfl (.inl rfl)) (pss_cons (ps_set (i := 3) sc_Shelf_let_go.nd rfl (Or.inl rfl) (pe_op op_sub (pe_call (ok_many_up_to T) (hr.mono (by decide)) (by rfl) T.g_many_up_to T.F_many_up_to.kp T.b_many_up_to .nil pass0 (pa_cons (pe_dget (hu_of hr) (pe_fld (pv 0) rfl) (pv 2) (fun _ _ => rfl)) (pa_cons (pv 1) pa_nil))) pe_int)) (pss_one (ps_if (pt_cmpR op_gt (pv 3) pe_int (nomark _)) (pss_cons (ps_dput (hu_of hr) (pe_fld (pv 0) rfl) (pv 2) (pe_slice sl_list (pe_dget (hu_of hr) (pe_fld (pv 0) rfl) (pv 2) (fun _ _ => rfl)) (po_some (pv 3)) po_none) rfl) (pss_one (ps_dput (hu_of hr) (pe_fld (pv 0) rfl) (pv 2) pe_bl rfl))) pss_nil)))) (pss_one (ps_if (PW.pt (pw_or (pt_cmpR op_isN (pe_fld (pv 0) rfl) pe_non (nomark _)) (pw_or1 (pt_cmpR op_gt (pv 1) (pe_fld (pv 0) rfl) (nomark _))))) (pss_one (ps_fld (pv 0) (pv 1) rfl)) pss_nil))))), ?_⟩
    refine ⟨_, rfl, t, rfl, ?_⟩
    refine ⟨_, rfl, x, dx, _, rfl, hx, sf_no _ _ _ _ (by decide +kernel) (by decide +kernel) (by decide +kernel) (by decide +kernel), x, rd, od, le, os, m, lg, rfl, hs, fun rd1 od1 H0 hs4 fr4 o1 o2 o3 o4 => ?_⟩
    have K4 : ∀ b o, b ≠ x → H b = some o → H0 b = some o := fr4
    obtain ⟨dx4, hx4⟩ := hs4.ins
    have F4 : ∀ b, H0 b = none → H b = none := fun b z => by
      cases hb : H b with
      | none => rfl
      | some o =>
        by_cases c : b = x
        · rw [c, hx4] at z
          cases z
        · rw [K4 b o c hb] at z
          cases z
    have own4 : H0 od1 = some (.dK (ownL (os1 le os))) := hs4.own
    have fit4 : (os1 le os).Nodup ∧ ∀ k ∈ os1 le os, k ∈ m.map (·.1) := hs4.fit rfl
    refine ⟨_, rfl, x, _, dx4, _, _, rfl, hx4, T.cl, T.n_rows, sf_r _ _ _ _, rd1, _, rfl, hs4.tab.dict, fun kl nkl => ?_⟩
    rw [keys_kv]
    have skl : Same H0 (upd H0 kl (.lst ((m.map (·.1)).map V.str))) := same_new (Same.refl H0) nkl
    have hkl : (upd H0 kl (.lst ((m.map (·.1)).map V.str))) kl = some (.lst ((m.map (·.1)).map V.str)) := upd_same
    have klr : kl ≠ rd1 := Ne.symm (ne_of_none hs4.tab.dict nkl)
    have klo : kl ≠ od1 := Ne.symm (ne_of_none own4 nkl)
    have xrd : x ≠ rd1 := ne_of hx4 hs4.tab.dict (by intro q; cases q)
    have xod : x ≠ od1 := ne_of hx4 own4 (by intro q; cases q)
    generalize (upd H0 kl (.lst ((m.map (·.1)).map V.str))) = H1 at skl hkl ⊢
    refine ⟨kl, rfl, ⟨_, SqL.of hkl⟩, ?_⟩
    refine for_list (K := K) (a := kl) (xs := (m.map (·.1)).map V.str) (fun j σ H' => ∃ (mj : Tab) (oj : List Str) (v2 v3 : Option V), σ = [some (.ref x), some (.int t), v2, v3] ∧ TabAt H' rd1 mj ∧ H' od1 = some (.dK (ownL oj)) ∧ ct mj = goJ t (ct m) j ∧ (∀ b o, H1 b = some o → b ≠ rd1 → b ≠ od1 → H' b = some o) ∧ (oj.Nodup ∧ ∀ k ∈ oj, k ∈ m.map (·.1)) ∧ (∀ p ∈ mj, H0 p.2.1 = none ∨ ∃ q ∈ m, q.1 = p.1 ∧ q.2.1 = p.2.1) ∧ (∀ p ∈ mj, p.1 ∈ oj → H0 p.2.1 = none ∨ p.1 ∈ os1 le os))
      ⟨m, os1 le os, none, none, rfl, hs4.tab.same skl, skl _ _ own4, (goJ_0 _ _).symm, fun b o z _ _ => z, fit4, fun p hp => .inr ⟨p, hp, rfl, rfl⟩, fun p _ ho => .inr ho⟩ (fun j σ H' _ z => by
        obtain ⟨mj, _, _, _, _, _, _, _, k, _⟩ := z
        exact SqL.of (k _ _ hkl klr klo)) ?_ ?_
    · rintro j kv σ H2 hj ⟨mj, oj, v2, v3, rfl, tj, hoj, ej, kj, fj, aj, bj⟩
      rw [List.map_map, List.getElem?_map] at hj
      obtain ⟨p, hp, rfl⟩ := Option.map_eq_some_iff.mp hj
      show ∃ v, _
      have hpm := List.mem_of_getElem? hp
      obtain ⟨st1, st2⟩ := goJ_step (t := t) (by rw [ct_nd]; exact hs.tab.nd) (ct_get hp)
      rw [← ej] at st1 st2
      have ndj := tj.nd
      obtain ⟨hlen, hpw⟩ := hrl p hpm
      have hx2 := kj _ _ (skl _ _ hx4) xrd xod
      obtain ⟨r, har⟩ : ∃ r, atT mj p.1 = some (r, p.2.2) := by
        have z := esT_ct mj p.1
        rw [st2] at z
        cases h : atT mj p.1 with
        | none =>
          exfalso
          have : p.1 ∈ mj.map (·.1) := by
            rw [← ct_nd, ej, goJ_keys, ct_nd]
            exact List.mem_map.mpr ⟨p, hpm, rfl⟩
          obtain ⟨q, hq, e⟩ := List.mem_map.mp this
          exact atT_none h q hq e
        | some q =>
          unfold esT at z
          rw [h] at z
          obtain ⟨a, b⟩ := q
          have z' : b = p.2.2 := z
          rw [z']
          exact ⟨a, rfl⟩
      have hrow := tj.es har
      rw [esT_ct, st2] at hrow
      refine ⟨_, rfl, x, _, dx4, _, _, rfl, hx2, T.cl, T.n_rows, sf_r _ _ _ _, _, rfl, rd1, .ref r, rfl, .inl ⟨kvT mj, Sum.inr p.1, .inl tj.dict, rfl, (by rw [val_kvT, har]; rfl)⟩, ?_⟩
      obtain ⟨ps, hl, pr⟩ := id hrow
      refine ⟨_, rfl, r, p.2.2, t, rfl, hrow, hlen, hpw, fun H3 s3 => ⟨_, 1, rfl, rfl, ?_⟩⟩
      have hcnt := List.length_filter_le (fun e : Ent => decide (e.t ≤ t)) p.2.2
      generalize hF : (p.2.2.filter fun e => decide (e.t ≤ t)).length = F at hcnt ⊢
      refine ⟨_, rfl, _, 0, rfl, rfl, _, rfl, ?_⟩
      by_cases c : (F : Int) - 1 > 0
      · refine iteDT c ?_
        have hx3 := s3 _ _ hx2
        refine ⟨_, rfl, x, _, dx4, _, _, rfl, hx3, T.cl, T.n_rows, sf_r _ _ _ _, _, rfl, rd1, .ref r, rfl, .inl ⟨kvT mj, Sum.inr p.1, .inl (s3 _ _ tj.dict), rfl, (by rw [val_kvT, har]; rfl)⟩, ?_⟩
        refine ⟨_, rfl, _, rfl, r, _, rfl, SqL.of (s3 _ _ hl), fun ns nns => ?_⟩
        have ecut : cutV (ps.map V.ref) (some ((F : Int) - 1)) none = (ps.drop (F - 1)).map V.ref := by
          have pl : ps.length = p.2.2.length := pr.len
          rw [show (F : Int) - 1 = ((F - 1 : Nat) : Int) by omega, cut_from _ _ (by rw [List.length_map, pl]; omega), List.map_drop]
        rw [ecut]
        have s4 : Same H3 (upd H3 ns (.lst ((ps.drop (F - 1)).map V.ref))) := same_new (Same.refl H3) nns
        have h4 : (upd H3 ns (.lst ((ps.drop (F - 1)).map V.ref))) ns = some (.lst ((ps.drop (F - 1)).map V.ref)) := upd_same
        generalize (upd H3 ns (.lst ((ps.drop (F - 1)).map V.ref))) = H4 at s4 h4 ⊢
        have s24 := s3.trans s4
        have hd4 := s24 _ _ tj.dict
        have ho4 := s24 _ _ hoj
        have nrd : ns ≠ rd1 := ne_of h4 hd4 (by intro q; cases q)
        have nod' : ns ≠ od1 := ne_of h4 ho4 (by intro q; cases q)
        have mjl : mj.length ≤ 1000 := by
          rw [← ct_len, ej]
          unfold goJ
          rw [List.length_map, ct_len]
          exact hml
        refine ⟨_, rfl, x, _, dx4, _, _, rfl, s24 _ _ hx2, T.cl, T.n_rows, sf_r _ _ _ _, _, rfl, rd1, _, rfl, DPut.k (k := Sum.inr p.1) hd4 ?_, ?_⟩
        · unfold kvT
          rw [List.length_map]
          exact Nat.lt_of_le_of_lt mjl (by decide)
        have keep4 : ∀ b o, H4 b = some o → b ≠ rd1 → (upd H4 rd1 (.dK (putK (kvT mj) (Sum.inr p.1) (.ref ns)))) b = some o := fun b o z n => by
          rw [upd_ne n]
          exact z
        have hd5 : (upd H4 rd1 (.dK (putK (kvT mj) (Sum.inr p.1) (.ref ns)))) rd1 = some (.dK (putK (kvT mj) (Sum.inr p.1) (.ref ns))) := upd_same
        generalize (upd H4 rd1 (.dK (putK (kvT mj) (Sum.inr p.1) (.ref ns)))) = H5 at keep4 hd5 ⊢
        refine ⟨_, rfl, x, _, dx4, _, _, rfl, keep4 _ _ (s24 _ _ hx2) xrd, T.cl, T.n_own_rows, sf_o _ _ _ _, _, rfl, od1, _, rfl, DPut.k (k := Sum.inr p.1) (keep4 _ _ ho4 hs4.nod) ?_, ?_⟩
        · unfold ownL
          rw [List.length_map]
          have := nodup_leS fj.1 fj.2
          rw [List.length_map] at this
          exact Nat.lt_of_le_of_lt (Nat.le_trans this hml) (by decide)
        rw [own_add]
        have keep5 : ∀ b o, H4 b = some o → b ≠ rd1 → b ≠ od1 → (upd H5 od1 (.dK (ownL (addO oj p.1)))) b = some o := fun b o z n n2 => by
          rw [upd_ne n2]
          exact keep4 _ _ z n
        have hd6 : (upd H5 od1 (.dK (ownL (addO oj p.1)))) rd1 = some (.dK (putK (kvT mj) (Sum.inr p.1) (.ref ns))) := by rw [upd_ne (Ne.symm hs4.nod)]; exact hd5
        have ho6 : (upd H5 od1 (.dK (ownL (addO oj p.1)))) od1 = some (.dK (ownL (addO oj p.1))) := upd_same
        generalize (upd H5 od1 (.dK (ownL (addO oj p.1)))) = H6 at keep5 hd6 ho6 ⊢
        have tk6 : Tk H4 H6 := fun b xs z => keep5 b _ z (ne_of z hd4 (by intro q; cases q)) (ne_of z ho4 (by intro q; cases q))
        have T1 : TabAt (upd H2 od1 (.dK (ownL (addO oj p.1)))) rd1 mj := tj.frame hoj (Ne.symm hs4.nod) fun b o z n => by rw [upd_ne n]; exact z
        have kp : ∀ b o, (upd H2 od1 (.dK (ownL (addO oj p.1)))) b = some o → b ≠ rd1 → H6 b = some o := fun b o z n => by
          by_cases bo : b = od1
          · rw [bo] at z ⊢
            rw [upd_same] at z
            rw [ho6]
            exact z
          · rw [upd_ne bo] at z
            exact keep5 b o (s24 _ _ z) n bo
        refine ⟨_, addO oj p.1, _, _, rfl, T1.setN (es := goE t p.2.2) har (by rw [upd_ne nod']; exact s3.free nns) hd6 ⟨_, keep5 _ _ h4 nrd nod', ?_⟩ kp, ho6, ?_, fun b o z n n2 => keep5 b o (s24 _ _ (kj _ _ z n n2)) n n2, ⟨addO_nd fj.1 _, fun k hk => (addO_mem.mp hk).elim (fj.2 k) fun z => z ▸ List.mem_map.mpr ⟨p, hpm, rfl⟩⟩, fun q hq => ?_, fun q hq hqo => ?_⟩
        · unfold goE
          rw [hF]
          exact ((pr.drop _).tk (same_tk s24)).tk tk6
        · rw [ct_set]
          exact st1
        · obtain ⟨q0, hq0, rfl⟩ := List.mem_map.mp hq
          by_cases z : q0.1 = p.1
          · rw [if_pos z]
            refine .inl ?_
            show H0 ns = none
            cases e : H0 ns with
            | none => rfl
            | some o =>
              have e2 := kj _ _ (skl _ _ e) nrd nod'
              rw [s3.free nns] at e2
              cases e2
          · rw [if_neg z]
            exact aj q0 hq0
        · obtain ⟨q0, hq0, rfl⟩ := List.mem_map.mp hq
          by_cases z : q0.1 = p.1
          · rw [if_pos z]
            refine .inl ?_
            show H0 ns = none
            cases e : H0 ns with
            | none => rfl
            | some o =>
              have e2 := kj _ _ (skl _ _ e) nrd nod'
              rw [s3.free nns] at e2
              cases e2
          · rw [if_neg z] at hqo ⊢
            exact bj q0 hq0 ((addO_mem.mp hqo).elim id fun y => absurd y z)
      · refine iteDF c ?_
        have hF1 : F - 1 = 0 := by omega
        refine ⟨mj, oj, _, _, rfl, tj.same s3, s3 _ _ hoj, ?_, fun b o z n n2 => s3 _ _ (kj _ _ z n n2), fj, aj, bj⟩
        rw [← st1]
        symm
        have nd2 : ((ct mj).map (·.1)).Nodup := by rw [ct_nd]; exact tj.nd
        conv => rhs; rw [← List.map_id (ct mj)]
        apply List.map_congr_left
        intro q hq
        by_cases z : q.1 = p.1
        · rw [if_pos z]
          have e1 : esC (ct mj) p.1 = q.2 := esC_of nd2 hq z
          rw [st2] at e1
          have e2 : p.2.2 = q.2 := e1
          unfold goE
          rw [hF, hF1, List.drop_zero, e2]
          rfl
        · rw [if_neg z]; rfl
    · rintro σ H2 ⟨mj, oj, v2, v3, rfl, tj, hoj, ej, kj, fj, aj, bj⟩
      rw [List.length_map, List.length_map, ← ct_len, goJ_all] at ej
      have hx2 := kj _ _ (skl _ _ hx4) xrd xod
      have keys : mj.map (·.1) = m.map (·.1) := by
        rw [← ct_nd, ej]
        unfold goC
        rw [List.map_map]
        exact ct_nd
      have fin : ∀ (lg' : V) (H' : Hp), lg' = lgMax lg t → H' x = some (.ins (a 29) dx4 (sf (.ref rd1) lg' false od1)) → (∀ b o, H2 b = some o → b ≠ x → H' b = some o) → Q .non H' := fun lg' H' el ex kx => by
        subst el
        refine q rd1 od1 oj mj H' ⟨⟨dx4, ex⟩, ?_, kx _ _ hoj (Ne.symm xod), hs4.nod, fun _ => ⟨fj.1, fun k hk => by rw [keys]; exact fj.2 k hk⟩⟩ ej ⟨fun c o n z => ?_, fun c hc => ?_⟩ fun c hc => ?_
        · refine ⟨kx _ _ tj.dict (Ne.symm xrd), fun p hp => ?_, tj.nd, tj.na⟩
          obtain ⟨ps, hl, pr⟩ := tj.row p hp
          exact ⟨ps, kx _ _ hl (ne_of hl hx2 (by intro q; cases q)), pr.tk fun b xs z => kx _ _ z (ne_of z hx2 (by intro q; cases q))⟩
        · have nx : c ≠ x := fun y => n (y ▸ own_x)
          refine kx _ _ (kj _ _ (skl _ _ (K4 c o nx z)) (fun y => ?_) fun y => ?_) nx
          · cases le with
            | false => exact n (y ▸ (o3 rfl).1 ▸ own_rd)
            | true => rw [y, (o4 rfl).1] at z; cases z
          · cases le with
            | false => exact n (y ▸ (o3 rfl).2 ▸ own_od)
            | true => rw [y, (o4 rfl).2] at z; cases z
        · rcases ownF hc with h | h | h | ⟨p, hp, hpo, h⟩
          · exact .inl (h ▸ own_x)
          · subst h
            cases le with
            | false => exact .inl ((o3 rfl).2 ▸ own_od)
            | true => exact .inr (o4 rfl).2
          · subst h
            cases le with
            | false => exact .inl ((o3 rfl).1 ▸ own_rd)
            | true => exact .inr (o4 rfl).1
          · rw [← h]
            rcases aj p hp with y | ⟨p0, h0, ek, ea⟩
            · exact .inr (F4 _ y)
            rcases bj p hp hpo with y | y
            · exact .inr (F4 _ y)
            · left
              rw [← ea]
              rw [← ek] at y
              cases le with
              | false => exact own_in h0 y
              | true => cases y
        · rcases supF.mp hc with h | h | h | ⟨p, hp, h⟩
          · exact .inl (supF.mpr (.inl h))
          · rcases o2 with y | y
            · exact .inl (supF.mpr (.inr (.inl (h.trans y))))
            · exact .inr (h ▸ y)
          · rcases o1 with y | y
            · exact .inl (supF.mpr (.inr (.inr (.inl (h.trans y)))))
            · exact .inr (h ▸ y)
          · rw [← h]
            rcases aj p hp with y | ⟨p0, h0, ek, ea⟩
            · exact .inr (F4 _ y)
            · exact .inl (supF.mpr (.inr (.inr (.inr ⟨p0, h0, ea⟩))))
      rcases hlg with rfl | ⟨g, rfl⟩
      · refine ⟨_, rfl, x, _, dx4, _, _, rfl, hx2, T.cl, T.n_let_go_to, sf_l _ _ _ _, rfl, _, rfl, iteBT rfl (iteT ?_)⟩
        refine ⟨_, rfl, _, rfl, x, _, dx4, _, rfl, hx2, T.cl, T.n_let_go_to, sf_len _ _ _ _, ?_⟩
        show Q .non _
        rw [sf_put_l]
        exact fin _ _ rfl upd_same fun b o z n => by rw [upd_ne n]; exact z
      · refine ⟨_, rfl, x, _, dx4, _, _, rfl, hx2, T.cl, T.n_let_go_to, sf_l _ _ _ _, rfl, _, rfl, iteBF rfl ?_⟩
        refine ⟨_, rfl, _, rfl, x, _, dx4, _, _, rfl, hx2, T.cl, T.n_let_go_to, sf_l _ _ _ _, t, g, rfl, rfl, _, rfl, ?_⟩
        by_cases c : g < t
        · refine iteDT c ?_
          refine ⟨_, rfl, _, rfl, x, _, dx4, _, rfl, hx2, T.cl, T.n_let_go_to, sf_len _ _ _ _, ?_⟩
          show Q .non _
          rw [sf_put_l]
          have e : lgMax (.int g) t = .int t := by show (if g < t then V.int t else V.int g) = _; rw [if_pos c]
          exact fin _ _ e.symm upd_same fun b o z n => by rw [upd_ne n]; exact z
        · refine iteDF c ?_
          have e : lgMax (.int g) t = .int g := by show (if g < t then V.int t else V.int g) = _; rw [if_neg c]
          exact fin _ _ e.symm hx2 fun b o z _ => z

theorem ok_Shelf_parts {P : Program} {w : World} {K : PySem.W.Frag} {mg : Str → Option Value} {base : Heap} {a : Nat → Addr} {d : Nat → FuncData} (T : Txt K mg a d) : FnOk P w K mg base CX0 1 (a 19) (d 19) ["self"] (spParts (a 29)) := by
  refine T.F_Shelf_parts.ok sc_Shelf_parts (fun vs H Q E h => ?_) (fun cdv A outer s0 H vs Q E hr h => ?_)
  · obtain ⟨x, rd, od, le, os, m, lg, rfl, hs, q⟩ := h
    rfl
  · obtain ⟨x, rd, od, le, os, m, lg, rfl, hs, q⟩ := h
    obtain ⟨dx, hx⟩ := hs.ins
    refine ⟨_, (pss_cons (ps_fld (pv 0) pe_bl rfl) (pss_one (ps_ret (pe_tup (pa_cons (pe_fld (pv 0) rfl) (pa_cons (pe_fld (pv 0) rfl) pa_nil)))))), ?_⟩
    refine ⟨_, rfl, x, _, dx, _, rfl, hx, T.cl, T.n_lent, sf_len _ _ _ _, ?_⟩
    rw [sf_put_t]
    have k1 : ∀ b o, b ≠ x → H b = some o → (upd H x (.ins (a 29) dx (sf (.ref rd) lg true od))) b = some o := fun b o n e => by rw [upd_ne n]; exact e
    have hx1 : (upd H x (.ins (a 29) dx (sf (.ref rd) lg true od))) x = some (.ins (a 29) dx (sf (.ref rd) lg true od)) := upd_same
    have f1 : ∀ b, (upd H x (.ins (a 29) dx (sf (.ref rd) lg true od))) b = none → H b = none := fun b e => by
      by_cases c : b = x
      · rw [c, upd_same] at e; cases e
      · rw [upd_ne c] at e; exact e
    have hs1 : ShelfAt (a 29) (upd H x (.ins (a 29) dx (sf (.ref rd) lg true od))) x rd od true os m lg := hs.lend hx
    generalize (upd H x (.ins (a 29) dx (sf (.ref rd) lg true od))) = H1 at k1 hx1 f1 hs1 ⊢
    refine ⟨_, rfl, x, _, dx, _, _, rfl, hx1, T.cl, T.n_rows, sf_r _ _ _ _, _, rfl, x, _, dx, _, _, rfl, hx1, T.cl, T.n_let_go_to, sf_l _ _ _ _, len2, fun p np => ?_⟩
    have s2 : Same H1 (upd H1 p (.tup [.ref rd, lg])) := same_new (Same.refl H1) np
    exact q p _ (hs1.same s2) (fun b o n e => s2 _ _ (k1 b o n e)) (f1 p np) upd_same

theorem ok_Shelf_put_parts {P : Program} {w : World} {K : PySem.W.Frag} {mg : Str → Option Value} {base : Heap} {a : Nat → Addr} {d : Nat → FuncData} (T : Txt K mg a d) : FnOk P w K mg base CX0 1 (a 20) (d 20) ["self", "parts"] (spPutParts (a 29)) := by
  refine T.F_Shelf_put_parts.ok sc_Shelf_put_parts (fun vs H Q E h => ?_) (fun cdv A outer s0 H vs Q E hr h => ?_)
  · obtain ⟨x, rd0, od, p, rd, le, os, m0, m, lg0, lg, rfl, hs, hp, ht, hn, q⟩ := h
    rfl
  · obtain ⟨x, rd0, od, p, rd, le, os, m0, m, lg0, lg, rfl, hs, hp, ht, hn, q⟩ := h
    obtain ⟨dx, hx⟩ := hs.ins
    refine ⟨_, (pss_cons (ps_asg (pv 1) (pg_tup (by rfl) (pgs_cons (pg_fld (pv 0)) (pgs_cons (pg_fld (pv 0)) pgs_nil)))) (pss_one (ps_fld (pv 0) pe_bl rfl))), ?_⟩
    refine ⟨_, rfl, p, _, rfl, SqT.of hp, rfl, ?_⟩
    refine ⟨_, _, rfl, _, rfl, x, _, dx, _, rfl, hx, T.cl, T.n_rows, sf_len _ _ _ _, ?_⟩
    rw [sf_put_r]
    refine ⟨_, _, rfl, _, rfl, x, _, dx, _, rfl, upd_same, T.cl, T.n_let_go_to, sf_len _ _ _ _, ?_⟩
    rw [sf_put_l, upd_twice]
    refine ⟨rfl, ?_⟩
    refine ⟨_, rfl, x, _, dx, _, rfl, upd_same, T.cl, T.n_lent, sf_len _ _ _ _, ?_⟩
    rw [sf_put_t, upd_twice]
    have k1 : ∀ b o, b ≠ x → H b = some o → (upd H x (.ins (a 29) dx (sf (.ref rd) lg true od))) b = some o := fun b o n e => by rw [upd_ne n]; exact e
    refine q _ ⟨⟨dx, upd_same⟩, ht.keep (fun b xs e => k1 b _ (ne_of e hx (by intro z; cases z)) e) (k1 _ · (ne_of ht.dict hx (by intro z; cases z))) (fun w hw => ?_), k1 _ _ (ne_of hs.own hx (by intro z; cases z)) hs.own, hn, fun z => by cases z⟩ k1
    obtain ⟨ps, hl, _⟩ := ht.row w hw
    exact fun o e => k1 _ o (ne_of hl hx (by intro z; cases z)) e

theorem ok_Shelf_twin {P : Program} {w : World} {K : PySem.W.Frag} {mg : Str → Option Value} {base : Heap} {a : Nat → Addr} {d : Nat → FuncData} (T : Txt K mg a d) : FnOk P w K mg base CX0 4 (a 21) (d 21) ["self"] (spTwin (a 29)) := by
  refine T.F_Shelf_twin.ok sc_Shelf_twin (fun vs H Q E h => ?_) (fun cdv A outer s0 H vs Q E hr h => ?_)
  · obtain ⟨x, rd, od, le, os, m, lg, rfl, hs, q⟩ := h
    rfl
  · obtain ⟨x, rd, od, le, os, m, lg, rfl, hs, q⟩ := h
    obtain ⟨dx, hx⟩ := hs.ins
    refine ⟨_, (pss_cons (ps_set (i := 1) sc_Shelf_twin.nd rfl (Or.inl rfl) (pe_make0 T.m_Shelf___init__ (ok_Shelf___init__ T) (hr.mono (by decide)) (by rfl) T.g_Shelf T.b_Shelf___init__ .nil pass0)) (pss_cons (ps_expr (pe_meth (pv 1) T.cl T.m_Shelf_put_parts (ok_Shelf_put_parts T) (hr.mono (by decide)) T.b_Shelf_put_parts .nil pass0 (pa_cons (pe_meth0 (pv 0) T.cl T.m_Shelf_parts (ok_Shelf_parts T) (hr.mono (by decide)) T.b_Shelf_parts .nil pass0) pa_nil))) (pss_one (ps_ret (pv 1))))), ?_⟩
    intro y dy ny ndy ney
    have sm0 : Same H (upd (upd H dy (.own y)) y (.ins (a 29) dy [])) := fun b o e => by
      rw [upd_ne (ne_of_none e ny), upd_ne (ne_of_none e ndy)]
      exact e
    refine ⟨y, dy, rfl, upd_same, fun rd2 od2 H1 nrd2 nod2 keep1 hsy => ?_⟩
    have S1 : Same H H1 := fun b o e => keep1 b o (ne_of_none e ny) (sm0 b o e)
    have hs1 := hs.same S1
    have hx1 := S1 _ _ hx
    obtain ⟨dy2, hy1⟩ := hsy.ins
    have xy : x ≠ y := ne_of_none hx ny
    refine ⟨rfl, _, rfl, y, dy2, _, rfl, hy1, sf_no _ _ _ _ (by decide +kernel) (by decide +kernel) (by decide +kernel) (by decide +kernel), _, rfl, x, dx, _, rfl, hx1, sf_no _ _ _ _ (by decide +kernel) (by decide +kernel) (by decide +kernel) (by decide +kernel), x, rd, od, le, os, m, lg, rfl, hs1, fun p H2 hs2 k2 np hp2 => ?_⟩
    have fr0 : ∀ c, c ∈ supS x rd od m → c ≠ y ∧ c ≠ rd2 ∧ c ≠ od2 := fun c hc => by
      obtain ⟨o, e, _⟩ := hs.al c hc
      exact ⟨ne_of_none e ny, ne_of_none (sm0 _ _ e) nrd2, ne_of_none (sm0 _ _ e) nod2⟩
    have xin : x ∈ supS x rd od m := supF.mpr (.inl rfl)
    have rin : rd ∈ supS x rd od m := supF.mpr (.inr (.inr (.inl rfl)))
    have tk12 : Tk H1 H2 := fun b xs e => k2 b _ (ne_of e hx1 (by intro z; cases z)) e
    have hsy2 := hsy.keep tk12 fun c hc o e => k2 c o (fun z => by
      rcases supF.mp hc with h | h | h | ⟨_, h, _⟩
      · exact (fr0 x xin).1 (z.symm.trans h)
      · exact (fr0 x xin).2.2 (z.symm.trans h)
      · exact (fr0 x xin).2.1 (z.symm.trans h)
      · cases h) e
    refine ⟨y, rd2, od2, p, rd, false, [], [], m, .non, lg, rfl, hsy2, hp2, hs2.tab, fun z => (fr0 rd rin).2.2 z.symm, fun H3 hs3 k3 => ?_⟩
    obtain ⟨dy3, hy2⟩ := hsy2.ins
    have tk23 : Tk H2 H3 := fun b xs e => k3 b _ (ne_of e hy2 (by intro z; cases z)) e
    have hsx3 := hs2.keep tk23 fun c hc o e => k3 c o (fr0 c hc).1 e
    have nod3 : H od2 = none := by
      cases e : H od2 with
      | none => rfl
      | some o => rw [sm0 _ _ e] at nod2; cases nod2
    exact ⟨_, rfl, q y od2 H3 ny nod3 hsx3 hs3 fun b o n e => k3 b o (ne_of_none e ny) (k2 b o n (S1 _ _ e))⟩

theorem ok_l_begun {P : Program} {w : World} {K : PySem.W.Frag} {mg : Str → Option Value} {base : Heap} {a : Nat → Addr} {d : Nat → FuncData} (T : Txt K mg a d) : FnOk P w K mg base CX0 1 (a 22) (d 22) ["_law_script", "_law_k"] (spBegun K) := by
  refine T.F_l_begun.ok sc_l_begun (fun vs H Q E h => ?_) (fun cdv A outer s0 H vs Q E hr h => ?_)
  · obtain ⟨l, ns, k, rfl, hS, hl, hk0, hk1, q⟩ := h
    rfl
  · obtain ⟨l, ns, k, rfl, hS, hl, hk0, hk1, q⟩ := h
    have hc := cell_at ns (some k) (some (k + 1))
    obtain ⟨c, hc⟩ := hc
    refine ⟨_, (pss_cons (ps_set (i := 2) sc_l_begun.nd rfl (Or.inl rfl) (pe_ix ix_list (pe_op op_cat (pe_slice sl_list (pv 0) (po_some (pv 1)) (po_some (pe_op op_add (pv 1) pe_int))) (pe_lst (pa_cons pe_int pa_nil))) pe_int (fun _ _ => rfl))) (pss_cons (ps_set (i := 3) sc_l_begun.nd rfl (Or.inl rfl) (pe_callB (call_max2 rfl) (by rfl) T.z_max (by decide +kernel) (pa_cons (pv 2) (pa_cons (pe_op op_sub (pe_un un_neg pe_int) (pv 2)) pa_nil)))) (pss_cons (ps_set (i := 4) sc_l_begun.nd rfl (Or.inl rfl) (pe_op op_mod (pe_op op_add (pe_op op_add (pe_op op_add (pe_op op_mod (pv 3) pe_int) (pe_op op_mul pe_int (pv 1))) (pe_op op_mul (pe_op op_mul pe_int (pv 1)) (pv 1))) pe_int) pe_int)) (pss_one (ps_ret (pe_lst (pa_cons (pv 3) (pa_cons (pv 4) (pa_cons (pe_cmpR op_ge (pv 3) (pe_op op_pow pe_int pe_int) (nomark _)) pa_nil))))))))), ?_⟩
    refine ⟨_, rfl, _, rfl, k, rfl, _, rfl, k, 1, rfl, rfl, k + 1, rfl, l, _, rfl, hS, fun p1 n1 => ?_⟩
    refine ⟨len1, fun p2 n2 => ?_⟩
    have n12 : p1 ≠ p2 := fun e => by rw [e] at n1; rw [← e, upd_same] at n2; cases n2
    refine ⟨p1, p2, _, _, rfl, rfl, (by rw [upd_ne n12]; exact upd_same), upd_same, ?_, fun p3 n3 => ?_⟩
    · have z := cut_len (ns.map V.int) (some k) (some (k + 1))
      rw [List.length_map] at z
      exact Nat.le_trans (Nat.add_le_add_right (Nat.le_trans z hl) 1) (by decide)
    refine ⟨p3, _, 0, _, rfl, rfl, SqL.of upd_same, hc, ?_⟩
    refine ⟨_, rfl, 1, rfl, _, rfl, -1, c, rfl, rfl, c, -1 - c, rfl, ?_⟩
    refine ⟨_, rfl, _, _, rfl, rfl, (by show (0 : Int) < 2147483629; decide), _, rfl, 7919, k, rfl, rfl, .inl (m64 (by decide) (by decide)), _, _, rfl, rfl, ?_⟩
    refine ⟨_, rfl, 104729, k, rfl, rfl, .inl (m64 (by decide) (by decide)), _, rfl, _, k, rfl, rfl, .inr (m64 (by omega) (by omega)), _, _, rfl, rfl, _, 11, rfl, rfl, _, _, rfl, rfl, (by show (0 : Int) < 2147483629; decide), ?_⟩
    refine ⟨_, rfl, _, rfl, _, rfl, 10, 18, rfl, rfl, ⟨by decide, by decide, by decide⟩, _, _, rfl, rfl, len3, fun p4 n4 => ?_⟩
    refine q p4 _ (Same.free (same_new (same_new (same_new (Same.refl H) n1) n2) n3) n4) (same_new (same_new (same_new (same_new (Same.refl H) n1) n2) n3) n4) ⟨_, _, _, upd_same, ?_, ?_⟩
    · exact Int.emod_nonneg _ (by decide)
    · exact Int.lt_trans (Int.emod_lt_of_pos _ (by decide)) (by decide)

theorem ok_l_take {P : Program} {w : World} {K : PySem.W.Frag} {mg : Str → Option Value} {base : Heap} {a : Nat → Addr} {d : Nat → FuncData} (T : Txt K mg a d) : FnOk P w K mg base CX0 1 (a 23) (d 23) ["_law_state", "_law_many"] spTake := by
  refine T.F_l_take.ok sc_l_take (fun vs H Q E h => ?_) (fun cdv A outer s0 H vs Q E hr h => ?_)
  · obtain ⟨s, m, rfl, ⟨x, y, c, hs, y0, y1⟩, m0, m1, q⟩ := h
    rfl
  · obtain ⟨s, m, rfl, ⟨x, y, c, hs, y0, y1⟩, m0, m1, q⟩ := h
    refine ⟨_, (pss_cons (ps_if (pt_truth (pe_ix ix_list (pv 0) pe_int (fun _ _ => rfl)) (by intro _; rfl)) (pss_cons (ps_set (i := 2) sc_l_take.nd rfl (Or.inl rfl) (pe_op op_mod (pe_ix ix_list (pv 0) pe_int (fun _ _ => rfl)) (pv 1))) (pss_cons (ps_asg (pe_op op_fdivW (pe_ix ix_list (pv 0) pe_int (fun _ _ => rfl)) (pv 1)) (pg_sub (pv 0) pe_int set_list)) (pss_cons (ps_asg (pe_cmpR op_gt (pe_ix ix_list (pv 0) pe_int (fun _ _ => rfl)) pe_int (nomark _)) (pg_sub (pv 0) pe_int set_list)) (pss_one (ps_ret (pv 2)))))) pss_nil) (pss_cons (ps_set (i := 3) sc_l_take.nd rfl (Or.inl rfl) pe_int) (pss_cons (ps_for PassesOwn.never rfl (pi_range1 (by rfl) T.z_range (pa_cons (pe_op op_add pe_int (pe_callTy call_int1 (by rfl) T.z_int (by decide +kernel) (pa_cons (pe_cmpR op_gt (pv 1) (pe_op op_pow pe_int pe_int) (nomark _)) pa_nil))) pa_nil)) (pg_name (i := 4) sc_l_take.nd rfl (.inl rfl)) (pss_cons (ps_asg (pe_op op_mod (pe_op op_add (pe_op op_mul (pe_ix ix_list (pv 0) pe_int (fun _ _ => rfl)) pe_int) pe_int) pe_int) (pg_sub (pv 0) pe_int set_list)) (pss_one (ps_set (i := 3) sc_l_take.nd rfl (Or.inl rfl) (pe_op op_add (pe_op op_mul (pv 3) pe_int) (pe_op op_mod (pe_op op_mul (pe_ix ix_list (pv 0) pe_int (fun _ _ => rfl)) (pe_ix ix_list (pv 0) pe_int (fun _ _ => rfl))) pe_int)))))) (pss_one (ps_ret (pe_op op_mod (pe_op op_fdiv (pv 3) pe_int) (pv 1))))))), ?_⟩
    refine ⟨_, rfl, s, _, 2, _, rfl, rfl, SqL.of hs, rfl, c, rfl, ?_⟩
    cases c with
    | true =>
      refine iteT ?_
      refine ⟨_, rfl, s, _, 0, _, rfl, rfl, SqL.of hs, rfl, _, rfl, x, m, rfl, rfl, m0, ?_⟩
      refine ⟨_, rfl, s, _, 0, _, rfl, rfl, SqL.of hs, rfl, _, rfl, x, m, rfl, rfl, divW m0 (p2000 m1), _, rfl, s, _, 0, 0, rfl, rfl, hs, rfl, ?_⟩
      refine ⟨_, rfl, s, _, 0, _, rfl, rfl, SqL.of upd_same, rfl, _, 0, rfl, rfl, _, rfl, s, _, 2, 2, rfl, rfl, upd_same, rfl, ?_⟩
      refine ⟨_, rfl, ?_⟩
      refine q _ _ (Int.emod_nonneg _ (by omega)) (Int.emod_lt_of_pos _ m0) ⟨fun b o n e => ?_, ⟨_, _, _, upd_same, y0, y1⟩⟩
      rw [upd_ne n, upd_ne n]
      exact e
    | false =>
      refine iteF ?_
      refine ⟨_, rfl, 10, 6, rfl, rfl, ⟨by decide, by decide, by decide⟩, m, _, rfl, rfl, .inr ⟨_, rfl, 1, _, rfl, rfl, _, rfl, ?_, ?_, ?_⟩⟩
      · cases decide ((10 : Int) ^ (6 : Int).toNat < m) <;> decide
      · cases decide ((10 : Int) ^ (6 : Int).toNat < m) <;> decide
      refine for_range (fun i σ H' => ∃ (made : Int) (t : Option V), σ = [some (.ref s), some (.int m), none, some (.int made), t] ∧ Kp s H H') ⟨0, none, rfl, ⟨fun _ _ _ e => e, _, _, _, hs, y0, y1⟩⟩ ?_ ?_
      · rintro i σ H' hi ⟨made, t, rfl, k, ⟨x', y', c', hs', y0', y1'⟩⟩
        refine ⟨_, rfl, s, _, 1, _, rfl, rfl, SqL.of hs', rfl, y', 48271, rfl, rfl, .inr (m64 (by decide) (by decide)), _, 11, rfl, rfl, _, 2147483647, rfl, rfl, (by show (0 : Int) < 2147483647; decide), _, rfl, s, _, 1, 1, rfl, rfl, hs', rfl, ?_⟩
        have e0 : 0 ≤ (y' * 48271 + 11) % 2147483647 := Int.emod_nonneg _ (by decide)
        have e1 : (y' * 48271 + 11) % 2147483647 < 2147483647 := Int.emod_lt_of_pos _ (by decide)
        refine ⟨_, rfl, made, 2147483587, rfl, rfl, .inr (m64 (by decide) (by decide)), _, rfl, s, _, 1, _, rfl, rfl, SqL.of upd_same, rfl, _, rfl, s, _, 1, _, rfl, rfl, SqL.of upd_same, rfl, _, _, rfl, rfl, .inl (m64 (by omega) (by omega)), _, 2147483587, rfl, rfl, (by show (0 : Int) < 2147483587; decide), _, _, rfl, rfl, ?_⟩
        refine ⟨_, _, rfl, ⟨fun b o n e => ?_, _, _, _, upd_same, e0, e1⟩⟩
        rw [upd_ne n]
        exact k b o n e
      · rintro σ H' ⟨made, t, rfl, k⟩
        refine ⟨_, rfl, made, 64, rfl, rfl, ⟨by decide, by decide⟩, _, rfl, _, m, rfl, rfl, m0, ?_⟩
        exact q _ _ (Int.emod_nonneg _ (by omega)) (Int.emod_lt_of_pos _ m0) k

theorem ok_l_key {P : Program} {w : World} {K : PySem.W.Frag} {mg : Str → Option Value} {base : Heap} {a : Nat → Addr} {d : Nat → FuncData} (T : Txt K mg a d) : FnOk P w K mg base CX0 2 (a 24) (d 24) ["_law_state"] spLKey := by
  refine T.F_l_key.ok sc_l_key (fun vs H Q E h => ?_) (fun cdv A outer s0 H vs Q E hr h => ?_)
  · obtain ⟨s, rfl, hst, q⟩ := h
    rfl
  · obtain ⟨s, rfl, hst, q⟩ := h
    refine ⟨_, (pss_one (ps_ret (pe_ix ix_list (pe_lst (pa_cons pe_str (pa_cons pe_str (pa_cons pe_str (pa_cons pe_str (pa_cons pe_str (pa_cons pe_str pa_nil))))))) (pe_call (ok_l_take T) (hr.mono (by decide)) (by rfl) T.g_l_take T.F_l_take.kp T.b_l_take .nil pass0 (pa_cons (pv 0) (pa_cons pe_int pa_nil))) (fun _ _ => rfl)))), ?_⟩
    refine ⟨(by decide : 6 ≤ sizeLine), fun p np => ?_⟩
    refine ⟨_, rfl, s, 6, rfl, hst.new np, (by decide), (by decide), fun r H1 r0 r1 K1 => ?_⟩
    have g1 : H1 p = some (.lst (K6.map V.str)) := K1.1 _ _ (hst.ne_new np) upd_same
    obtain ⟨n, rfl⟩ := Int.eq_ofNat_of_zero_le r0
    have hn : n < 6 := by omega
    refine ⟨p, _, _, .str (K6[n]'hn), rfl, rfl, SqL.of g1, atI_nat (j := n) ?_, q _ H1 (List.getElem_mem _) ((hst.kp.new np).trans K1)⟩
    rw [List.getElem?_map, List.getElem?_eq_getElem (by exact hn)]
    rfl

theorem ok_l_worth {P : Program} {w : World} {K : PySem.W.Frag} {mg : Str → Option Value} {base : Heap} {a : Nat → Addr} {d : Nat → FuncData} (T : Txt K mg a d) : FnOk P w K mg base CX0 2 (a 25) (d 25) ["_law_state"] spWorth := by
  refine T.F_l_worth.ok sc_l_worth (fun vs H Q E h => ?_) (fun cdv A outer s0 H vs Q E hr h => ?_)
  · obtain ⟨s, rfl, hst, q⟩ := h
    rfl
  · obtain ⟨s, rfl, hst, q⟩ := h
    refine ⟨_, (pss_cons (ps_set (i := 1) sc_l_worth.nd rfl (Or.inl rfl) (pe_lst (pa_cons pe_int (pa_cons (pe_op op_pow pe_int pe_int) (pa_cons (pe_op op_pow pe_int pe_int) pa_nil))))) (pss_cons (ps_set (i := 2) sc_l_worth.nd rfl (Or.inl rfl) (pe_lst pa_nil)) (pss_cons (ps_for PassesOwn.never rfl (pi_range1 (by rfl) T.z_range (pa_cons (pe_op op_add pe_int (pe_call (ok_l_take T) (hr.mono (by decide)) (by rfl) T.g_l_take T.F_l_take.kp T.b_l_take .nil pass0 (pa_cons (pv 0) (pa_cons pe_int pa_nil)))) pa_nil)) (pg_name (i := 3) sc_l_worth.nd rfl (.inl rfl)) (pss_one (ps_expr (pe_bm PySem.F.plainAttrs_list PySem.F.slot_list_append PySem.F.type_list_append mt_append (pv 2) (pa_cons (pe_op op_sub (pe_call (ok_l_take T) (hr.mono (by decide)) (by rfl) T.g_l_take T.F_l_take.kp T.b_l_take .nil pass0 (pa_cons (pv 0) (pa_cons (pe_ix ix_list (pv 1) (pe_call (ok_l_take T) (hr.mono (by decide)) (by rfl) T.g_l_take T.F_l_take.kp T.b_l_take .nil pass0 (pa_cons (pv 0) (pa_cons pe_int pa_nil))) (fun _ _ => rfl)) pa_nil))) (pe_call (ok_l_take T) (hr.mono (by decide)) (by rfl) T.g_l_take T.F_l_take.kp T.b_l_take .nil pass0 (pa_cons (pv 0) (pa_cons pe_int pa_nil)))) pa_nil))))) (pss_one (ps_ret (pe_callTy call_tuple_of (by rfl) T.z_tuple (by decide +kernel) (pa_cons (pv 2) pa_nil))))))), ?_⟩
    refine ⟨10, 6, rfl, rfl, ⟨by decide, by decide, by decide⟩, 10, 29, rfl, rfl, ⟨by decide, by decide, by decide⟩, len3, fun pz npz => ?_⟩
    have k1 : Kp s H (upd H pz (.lst [.int 3, .int (10 ^ (6 : Int).toNat), .int (10 ^ (29 : Int).toNat)])) := hst.kp.new npz
    have hz1 : (upd H pz (.lst [.int 3, .int (10 ^ (6 : Int).toNat), .int (10 ^ (29 : Int).toNat)])) pz = some (.lst [.int 3, .int (10 ^ (6 : Int).toNat), .int (10 ^ (29 : Int).toNat)]) := upd_same
    generalize (upd H pz (.lst [.int 3, .int (10 ^ (6 : Int).toNat), .int (10 ^ (29 : Int).toNat)])) = J1 at k1 hz1 ⊢
    refine ⟨Nat.zero_le _, fun pf npf => ?_⟩
    have k2 : Kp s H (upd J1 pf (.lst [])) := k1.new npf
    have hz2 : (upd J1 pf (.lst [])) pz = some (.lst [.int 3, .int (10 ^ (6 : Int).toNat), .int (10 ^ (29 : Int).toNat)]) := by rw [upd_ne (ne_of_none hz1 npf)]; exact hz1
    have hf2 : (upd J1 pf (.lst [])) pf = some (.lst []) := upd_same
    have fpf : H pf = none := k1.free hst npf
    have pfs : pf ≠ s := k1.2.ne_new npf
    have pzs : pz ≠ s := hst.ne_new npz
    have pzf : pz ≠ pf := ne_of_none hz1 npf
    generalize (upd J1 pf (.lst [])) = J2 at k2 hz2 hf2 ⊢
    refine ⟨_, rfl, s, 4, rfl, k2.2, (by decide), (by decide), fun r H3 r0 r1 K3 => ⟨1, r, rfl, rfl, _, rfl, by omega, by omega, ?_⟩⟩
    have k3 := k2.trans K3
    have hz3 := K3.1 _ _ pzs hz2
    have hf3 := K3.1 _ _ pfs hf2
    refine for_range (fun i σ H' => ∃ (ns : List Int) (t : Option V), σ = [some (.ref s), some (.ref pz), some (.ref pf), t] ∧ Kp s H H' ∧ H' pz = some (.lst [.int 3, .int (10 ^ (6 : Int).toNat), .int (10 ^ (29 : Int).toNat)]) ∧ H' pf = some (.lst (ns.map V.int)) ∧ ns.length = i ∧ ∀ n ∈ ns, -1000000000000000000000000000000 ≤ n ∧ n ≤ 1000000000000000000000000000000) ⟨[], none, rfl, k3, hz3, hf3, rfl, fun n h => by cases h⟩ ?_ ?_
    · rintro i σ H4 hi ⟨ns, t, rfl, k4, hz4, hf4, hl, hb⟩
      refine ⟨_, rfl, .inl ⟨rfl, _, SqL.of hf4⟩, ?_⟩
      refine ⟨_, rfl, _, rfl, _, rfl, s, 3, rfl, k4.2, (by decide), (by decide), fun a H5 a0 a1 K5 => ?_⟩
      have e6 : (10 : Int) ^ (6 : Int).toNat = 1000000 := by decide
      have e29 : (10 : Int) ^ (29 : Int).toNat = 100000000000000000000000000000 := by decide
      obtain ⟨z, hz, z0, z1⟩ : ∃ z : Int, atI [V.int 3, V.int (10 ^ (6 : Int).toNat), V.int (10 ^ (29 : Int).toNat)] a = some (V.int z) ∧ 0 < z ∧ z ≤ 100000000000000000000000000000 := by
        have : a = 0 ∨ a = 1 ∨ a = 2 := by omega
        rcases this with rfl | rfl | rfl
        · exact ⟨3, rfl, by decide, by decide⟩
        · exact ⟨_, rfl, by decide, by decide⟩
        · exact ⟨_, rfl, by decide, by decide⟩
      refine ⟨pz, _, a, _, rfl, rfl, SqL.of (K5.1 _ _ pzs hz4), hz, s, z, rfl, K5.2, z0, by omega, fun b H6 b0 b1 K6 => ?_⟩
      refine ⟨_, rfl, s, 2, rfl, K6.2, (by decide), (by decide), fun c H7 c0 c1 K7 => ⟨b, c, rfl, rfl, ?_⟩⟩
      have k57 := (K5.trans K6).trans K7
      have hf7 := k57.1 _ _ pfs hf4
      refine ⟨pf, _, _, rfl, rfl, hf7, ?_, ?_⟩
      · rw [List.length_map, hl]
        exact Nat.lt_of_lt_of_le (show i < 200 by omega) (by decide)
      · have k7 := k4.trans k57
        refine ⟨ns ++ [b - c], _, rfl, ⟨fun u o n e => ?_, ?_⟩, ?_, ?_, ?_, ?_⟩
        · rw [upd_ne (ne_of_none e fpf)]
          exact k7.1 u o n e
        · obtain ⟨x1, x2, x3, x4, x5⟩ := k7.2
          exact ⟨x1, x2, x3, by rw [upd_ne (fun z => pfs z.symm)]; exact x4, x5⟩
        · rw [upd_ne pzf]
          exact k57.1 _ _ pzs hz4
        · rw [upd_same, List.map_append]
          rfl
        · rw [List.length_append, hl]
          rfl
        · intro n hn
          rcases List.mem_append.mp hn with h | h
          · exact hb n h
          · rw [List.mem_singleton.mp h]
            omega
    · rintro σ H4 ⟨ns, t, rfl, k4, hz4, hf4, hl, hb⟩
      refine ⟨_, rfl, pf, _, rfl, .inl ⟨SqL.of hf4, fun pt npt => ?_⟩⟩
      refine q pt ns _ (by omega) (by omega) hb (k4.free hst npt) (k4.new npt) upd_same

theorem ok_l_again {P : Program} {w : World} {K : PySem.W.Frag} {mg : Str → Option Value} {base : Heap} {a : Nat → Addr} {d : Nat → FuncData} (T : Txt K mg a d) : FnOk P w K mg base CX0 6 (a 26) (d 26) ["_law_shelf", "_law_seen"] (spAgain K (a 29)) := by
  refine T.F_l_again.ok sc_l_again (fun vs H Q E h => ?_) (fun cdv A outer s0 H vs Q E hr h => ?_)
  · obtain ⟨x, rd, od, le, os, sl, m, lg, ps, rfl, hs, hsl, hall, q⟩ := h
    rfl
  · obtain ⟨x, rd, od, le, os, sl, m, lg, ps, rfl, hs, hsl, hall, q⟩ := h
    obtain ⟨dx, hx⟩ := hs.ins
    refine ⟨_, (pss_one (ps_ret (pe_cmpR (op_eqD hr.units) (pe_lc (own := [("_law_one", 2)]) (g := gName 2) (te := (tVar 2)) (tt := (tTest (tOp (rNeD K) (tMeth (a 29) "at" (spAt K (a 29)) [] E0 (tVar 0) (tCons (tOp (rIxT K) (tVar 2) (tC (.int 0))) (tCons (tOp (rIxT K) (tVar 2) (tC (.int 1))) tNil))) (tOp (rIxT K) (tVar 2) (tC (.int 2)))))) (by rfl) sc_l_again.nd (pi_list (pv 1)) (blkOk_by (own := [("_law_one", 2)]) (N := ["_law_shelf", "_law_seen", "_law_one"]) (sc := defScope s_l_again) (by decide +kernel)) (fun _ _ _ _ _ => (pg_name (i := 2) sc_l_again.nd rfl (.inl rfl))) (fun _ _ _ _ _ => (pts_one (pt_cmpR (op_neD hr.units) (pe_meth (pv 0) T.cl T.m_Shelf_at (ok_Shelf_at T) (hr.mono (by decide)) T.b_Shelf_at .nil pass0 (pa_cons (pe_ix ix_tup (pv 2) pe_int (fun _ _ => rfl)) (pa_cons (pe_ix ix_tup (pv 2) pe_int (fun _ _ => rfl)) pa_nil))) (pe_ix ix_tup (pv 2) pe_int (fun _ _ => rfl)) (nomark _)))) (fun _ _ _ _ _ => (pv 2))) (pe_lst pa_nil) (nomark _)))), ?_⟩
    refine ⟨_, rfl, sl, rfl, ⟨_, SqL.of hsl⟩, fun D nD => ?_⟩
    refine lc_list (K := K) (a := sl) (xs := ps.map V.ref) (fun i H' => Same H H' ∧ H' D = some (.lst [])) ⟨same_new (Same.refl H) nD, upd_same⟩ (fun i H' _ z => SqL.of (z.1 _ _ hsl)) ?_ ?_
    · rintro i vv H1 hv ⟨s1, hD⟩
      rw [List.getElem?_map] at hv
      obtain ⟨p, hp, rfl⟩ := Option.map_eq_some_iff.mp hv
      obtain ⟨k, w, v, e1, k6, lgo, wat, hle, hpw⟩ := hall p (List.mem_of_getElem? hp)
      have e1' := s1 _ _ e1
      refine ⟨rfl, _, rfl, x, dx, _, rfl, s1 _ _ hx, sf_no _ _ _ _ (by decide +kernel) (by decide +kernel) (by decide +kernel) (by decide +kernel), _, rfl, p, _, 0, _, rfl, rfl, SqT.of e1', rfl, _, rfl, p, _, 1, _, rfl, rfl, SqT.of e1', rfl, x, rd, od, le, os, k, w, m, lg, rfl, hs.same s1, lgo, K6_kok k6, hle, hpw, fun va H2 s2 hva => ?_⟩
      refine ⟨_, rfl, p, _, 2, _, rfl, rfl, SqT.of (s2 _ _ e1'), rfl, atD (esT m k) w, atD (esT m k) w, hva.dp, (wat.tk (same_tk (s1.trans s2))).dp, at_shaped _ _, at_shaped _ _, _, rfl, iteBF (by rw [at_eqv]; rfl) ⟨s1.trans s2, s2 _ _ hD⟩⟩
    · rintro H1 ⟨s1, hD⟩
      refine ⟨Nat.zero_le _, fun pe npe => ?_⟩
      have se : Same H1 (upd H1 pe (.lst [])) := same_new (Same.refl H1) npe
      exact ⟨.list [], .list [], .lst (SqL.of (se _ _ hD)) .nil, .lst (SqL.of upd_same) .nil, rfl, rfl, bq (Q := Q) rfl (q _ (s1.trans se))⟩

theorem ok_l_all {P : Program} {w : World} {K : PySem.W.Frag} {mg : Str → Option Value} {base : Heap} {a : Nat → Addr} {d : Nat → FuncData} (T : Txt K mg a d) : FnG P w K mg base 6 (a 27) (d 27) ["_law_shelf"] (spAll (a 29)) := by
  refine fnG_mk T.F_l_all sc_l_all (fun vs H Q E h => ?_) (fun cdv A outer s0 H vs Q E gd hr h => ?_)
  · obtain ⟨x, rd, od, le, os, m, lg, rfl, hs, hok, htot, q⟩ := h
    rfl
  · obtain ⟨x, rd, od, le, os, m, lg, rfl, hs, hok, htot, q⟩ := h
    obtain ⟨dx, hx⟩ := hs.ins
    refine ⟨_, (pss_one (ps_ret (pe_callB (call_reprA gd (room66 hr)) (by rfl) T.z_repr (by decide +kernel) (pa_cons (pe_op op_cat (pe_lc (own := [("_law_key_here", 1)]) (g := gName 1) (te := (tMeth (a 29) "versions" (spVersions (a 29)) [] E0 (tVar 0) (tCons (tVar 1) tNil))) (by rfl) sc_l_all.nd (pi_list (pe_lst (pa_cons pe_str (pa_cons pe_str (pa_cons pe_str (pa_cons pe_str (pa_cons pe_str (pa_cons pe_str pa_nil)))))))) (blkOk_by (own := [("_law_key_here", 1)]) (N := ["_law_shelf", "_law_key_here"]) (sc := defScope s_l_all) (by decide +kernel)) (fun _ _ _ _ _ => (pg_name (i := 1) sc_l_all.nd rfl (.inl rfl))) (fun _ _ _ _ _ => pts_nil) (fun _ _ _ _ _ => (pe_meth (pv 0) T.cl T.m_Shelf_versions (ok_Shelf_versions T) (hr.mono (by decide)) T.b_Shelf_versions .nil pass0 (pa_cons (pv 1) pa_nil)))) (pe_lst (pa_cons (pe_callB (call_lenOwn (ok_Shelf___len__ T) (Room.in1 (k := 1) (hr.mono (by decide))) T.m_Shelf___len__.at_ T.m_Shelf___len__.fn T.b_Shelf___len__ pass0) (by rfl) T.z_len PySem.boot_len (pa_cons (pv 0) pa_nil)) pa_nil))) pa_nil)))), ?_⟩
    refine ⟨(by decide : 6 ≤ sizeLine), fun pk npk => ?_⟩
    have sk : Same H (upd H pk (.lst [V.str "a", V.str "b", V.str "ab", V.str "zzzzzz", V.str "house", V.str "q"])) := same_new (Same.refl H) npk
    have hk0 : (upd H pk (.lst [V.str "a", V.str "b", V.str "ab", V.str "zzzzzz", V.str "house", V.str "q"])) pk = some (.lst (K6.map V.str)) := upd_same
    refine ⟨pk, rfl, ⟨_, SqL.of (xs := K6.map V.str) hk0⟩, ?_⟩
    generalize (upd H pk (.lst [V.str "a", V.str "b", V.str "ab", V.str "zzzzzz", V.str "house", V.str "q"])) = H1 at sk hk0 ⊢
    intro D nD
    refine lc_list (K := K) (a := pk) (xs := K6.map V.str) (fun j H' => Same H1 H' ∧ ∃ rs : List Addr, H' D = some (.lst (rs.map V.ref)) ∧ rs.length = j ∧ ∀ (u : Nat) (r : Addr), rs[u]? = some r → r ≠ D ∧ ∃ k, K6[u]? = some k ∧ RowAt H' r (esC (ct m) k)) ⟨same_new (Same.refl H1) nD, [], (upd_same : upd H1 D (.lst []) D = some (.lst [])), rfl, fun u r z => by simp at z⟩ (fun j H' _ z => SqL.of (z.1 _ _ hk0)) ?_ ?_
    · rintro j kv H2 hj ⟨s2, rs, hD, hl, hall⟩
      rw [List.getElem?_map] at hj
      obtain ⟨k, hk, rfl⟩ := Option.map_eq_some_iff.mp hj
      have kok := K6_kok (List.mem_of_getElem? hk)
      have S2 := sk.trans s2
      have hj6 : j < 6 := (List.getElem?_eq_some_iff.mp hk).1
      refine ⟨rfl, _, rfl, x, dx, _, rfl, S2 _ _ hx, sf_no _ _ _ _ (by decide +kernel) (by decide +kernel) (by decide +kernel) (by decide +kernel), _, rfl, x, rd, od, le, os, k, m, lg, rfl, hs.same S2, kok, fun r H3 nr s3 hrow => ?_⟩
      rw [esT_ct] at hrow
      have hD3 := s3 _ _ hD
      have rD : r ≠ D := Ne.symm (ne_of_none hD nr)
      refine ⟨_, hD3, ?_, fun b o z => ?_, rs ++ [r], ?_, ?_, fun u r' hu => ?_⟩
      · rw [List.length_map, hl]
        exact Nat.lt_of_lt_of_le (show j < 100 by omega) (by decide)
      · rw [upd_ne (ne_of_none z nD)]
        exact s3 _ _ (s2 b o z)
      · rw [upd_same, List.map_append]
        rfl
      · rw [List.length_append, hl]
        rfl
      · by_cases hu2 : u < rs.length
        · rw [List.getElem?_append_left hu2] at hu
          obtain ⟨h1, k', h2, h3⟩ := hall u r' hu
          exact ⟨h1, k', h2, (h3.same s3).updD h1 hD3⟩
        · have : u = rs.length := by
            have := (List.getElem?_eq_some_iff.mp hu).1
            rw [List.length_append] at this
            have e1 : [r].length = 1 := rfl
            omega
          subst this
          rw [List.getElem?_append_right (Nat.le_refl _)] at hu
          simp at hu
          subst hu
          exact ⟨rD, k, by rw [hl]; exact hk, hrow.updD rD hD3⟩
    · rintro H2 ⟨s2, rs, hD, hl, hall⟩
      have S2 := sk.trans s2
      refine ⟨_, rfl, x, dx, _, rfl, S2 _ _ hx, x, rd, od, le, os, m, lg, rfl, hs.same S2, by omega, fun H3 s3 => ⟨tot (ct m), rfl, by omega, len1, fun pq npq => ?_⟩⟩
      have s4 : Same H3 (upd H3 pq (.lst [.int (tot (ct m) : Nat)])) := same_new (Same.refl H3) npq
      have h4 : (upd H3 pq (.lst [.int (tot (ct m) : Nat)])) pq = some (.lst [.int (tot (ct m) : Nat)]) := upd_same
      generalize (upd H3 pq (.lst [.int (tot (ct m) : Nat)])) = H4 at s4 h4 ⊢
      have s24 := s3.trans s4
      refine ⟨D, pq, _, _, rfl, rfl, s24 _ _ hD, h4, ?_, fun pc npc => ?_⟩
      · rw [List.length_map, hl]
        show 6 + 1 ≤ sizeLine
        decide
      have s5 : Same H4 (upd H4 pc (.lst (rs.map V.ref ++ [.int (tot (ct m) : Nat)]))) := same_new (Same.refl H4) npc
      have sw := shw_all hok htot
      have hall5 : ∀ (u : Nat) (r : Addr), rs[u]? = some r → ∃ k, K6[u]? = some k ∧ Dp K (upd H4 pc (.lst (rs.map V.ref ++ [.int (tot (ct m) : Nat)]))) (.ref r) ((fun k => PyData.list ((esC (ct m) k).map entD)) k) := fun u r hu => by
        obtain ⟨_, k, h2, h3⟩ := hall u r hu
        exact ⟨k, h2, ((h3.same s24).same s5).dp⟩
      refine ⟨.ref pc, allD (ct m), rfl, .dp (.lst (SqL.of upd_same) (dpall_app (dpall_of hl hall5) (.cons (.int _) .nil))), sw.sh, sw.dp, sw.sz, q _ (S2.trans (s24.trans s5))⟩

theorem ok_law {P : Program} {w : World} {K : PySem.W.Frag} {mg : Str → Option Value} {base : Heap} {a : Nat → Addr} {d : Nat → FuncData} (T : Txt K mg a d) : FnG P w K mg base 9 (a 28) (d 28) ["_law_script"] (spLaw K) := by
  refine fnG_mk T.F_law sc_law (fun vs H Q E h => ?_) (fun cdv A outer s0 H vs Q E gd hr h => ?_)
  · obtain ⟨l, ns, rfl, hS, hl, q⟩ := h
    rfl
  · obtain ⟨l, ns, rfl, hS, hl, q⟩ := h
    refine ⟨_, (pss_cons (ps_set (i := 1) sc_law.nd rfl (Or.inl rfl) (pe_make0 T.m_Shelf___init__ (ok_Shelf___init__ T) (hr.mono (by decide)) (by rfl) T.g_Shelf T.b_Shelf___init__ .nil pass0)) (pss_cons (ps_set (i := 2) sc_law.nd rfl (Or.inl rfl) (pe_lst pa_nil)) (pss_cons (ps_set (i := 3) sc_law.nd rfl (Or.inl rfl) pe_int) (pss_cons (ps_set (i := 4) sc_law.nd rfl (Or.inl rfl) pe_int) (pss_cons (ps_set (i := 5) sc_law.nd rfl (Or.inl rfl) (pe_meth0 (pv 1) T.cl T.m_Shelf_twin (ok_Shelf_twin T) (hr.mono (by decide)) T.b_Shelf_twin .nil pass0)) (pss_cons (ps_set (i := 6) sc_law.nd rfl (Or.inl rfl) (pe_lst pa_nil)) (pss_cons (ps_set (i := 7) sc_law.nd rfl (Or.inl rfl) (pe_callG (ok_l_all T) gd (hr.mono (by decide)) (by rfl) T.g_l_all T.F_l_all.kp T.b_l_all pass0 (pa_cons (pv 5) pa_nil))) (pss_cons (ps_for PassesOwn.never rfl (pi_range1 (by rfl) T.z_range (pa_cons (pe_callB (call_max2 rfl) (by rfl) T.z_max (by decide +kernel) (pa_cons pe_int (pa_cons (pe_callB (call_min2 rfl) (by rfl) T.z_min (by decide +kernel) (pa_cons pe_int (pa_cons (pe_callB call_len_seq (by rfl) T.z_len PySem.boot_len (pa_cons (pv 0) pa_nil)) pa_nil))) pa_nil))) pa_nil)) (pg_name (i := 8) sc_law.nd rfl (.inl rfl)) (pss_cons (ps_set (i := 9) sc_law.nd rfl (Or.inl rfl) (pe_call (ok_l_begun T) (hr.mono (by decide)) (by rfl) T.g_l_begun T.F_l_begun.kp T.b_l_begun .nil pass0 (pa_cons (pv 0) (pa_cons (pv 8) pa_nil)))) (pss_cons (ps_set (i := 3) sc_law.nd rfl (Or.inl rfl) (pe_op op_add (pv 3) (pe_call (ok_l_take T) (hr.mono (by decide)) (by rfl) T.g_l_take T.F_l_take.kp T.b_l_take .nil pass0 (pa_cons (pv 9) (pa_cons pe_int pa_nil))))) (pss_cons (ps_set (i := 4) sc_law.nd rfl (Or.inl rfl) (pe_op op_add (pv 4) pe_int)) (pss_cons (ps_set (i := 10) sc_law.nd rfl (Or.inl rfl) (pe_call (ok_l_key T) (hr.mono (by decide)) (by rfl) T.g_l_key T.F_l_key.kp T.b_l_key .nil pass0 (pa_cons (pv 9) pa_nil))) (pss_cons (ps_set (i := 11) sc_law.nd rfl (Or.inl rfl) (pe_lst (pa_cons (pe_meth (pv 1) T.cl T.m_Shelf_versions (ok_Shelf_versions T) (hr.mono (by decide)) T.b_Shelf_versions .nil pass0 (pa_cons (pv 10) pa_nil)) (pa_cons (pe_meth0 (pv 1) T.cl T.m_Shelf_all_keys (ok_Shelf_all_keys T) (hr.mono (by decide)) T.b_Shelf_all_keys .nil pass0) pa_nil)))) (pss_cons (ps_set (i := 12) sc_law.nd rfl (Or.inl rfl) (pe_callB (call_reprA gd (room66 hr)) (by rfl) T.z_repr (by decide +kernel) (pa_cons (pv 11) pa_nil))) (pss_cons (ps_expr (pe_meth (pv 1) T.cl T.m_Shelf_put (ok_Shelf_put T) (hr.mono (by decide)) T.b_Shelf_put .nil pass0 (pa_cons (pv 10) (pa_cons (pe_tup (pa_cons (pv 3) (pa_cons (pv 4) (pa_cons (pe_call (ok_l_take T) (hr.mono (by decide)) (by rfl) T.g_l_take T.F_l_take.kp T.b_l_take .nil pass0 (pa_cons (pv 9) (pa_cons pe_int pa_nil))) pa_nil)))) (pa_cons (pe_call (ok_l_worth T) (hr.mono (by decide)) (by rfl) T.g_l_worth T.F_l_worth.kp T.b_l_worth .nil pass0 (pa_cons (pv 9) pa_nil)) pa_nil))))) (pss_cons (ps_for PassesOwn.never rfl (pi_range1 (by rfl) T.z_range (pa_cons pe_int pa_nil)) (pg_name (i := 13) sc_law.nd rfl (.inl rfl)) (pss_cons (ps_set (i := 14) sc_law.nd rfl (Or.inl rfl) (pe_call (ok_l_key T) (hr.mono (by decide)) (by rfl) T.g_l_key T.F_l_key.kp T.b_l_key .nil pass0 (pa_cons (pv 9) pa_nil))) (pss_cons (ps_set (i := 15) sc_law.nd rfl (Or.inr rfl) (pe_op op_sub (pe_call (ok_l_take T) (hr.mono (by decide)) (by rfl) T.g_l_take T.F_l_take.kp T.b_l_take .nil pass0 (pa_cons (pv 9) (pa_cons (pe_op op_add (pv 3) pe_int) pa_nil))) pe_int)) (pss_one (ps_if (pt_cmpR op_lt (pv 15) (pv 3) (nomark _)) (pss_one (ps_expr (pe_bm PySem.F.plainAttrs_list PySem.F.slot_list_append PySem.F.type_list_append mt_append (pv 2) (pa_cons (pe_tup (pa_cons (pv 14) (pa_cons (pv 15) (pa_cons (pe_meth (pv 1) T.cl T.m_Shelf_at (ok_Shelf_at T) (hr.mono (by decide)) T.b_Shelf_at .nil pass0 (pa_cons (pv 14) (pa_cons (pv 15) pa_nil))) pa_nil)))) pa_nil)))) pss_nil))))) (pss_cons (ps_if (PW.pt (pw_or (pt_not (pt_truth (pe_call (ok_l_again T) (hr.mono (by decide)) (by rfl) T.g_l_again T.F_l_again.kp T.b_l_again .nil pass0 (pa_cons (pv 1) (pa_cons (pv 2) pa_nil))) (by intro _; rfl))) (pw_or (pt_not (pt_truth (pe_call (ok_l_again T) (hr.mono (by decide)) (by rfl) T.g_l_again T.F_l_again.kp T.b_l_again .nil pass0 (pa_cons (pv 5) (pa_cons (pv 6) pa_nil))) (by intro _; rfl))) (pw_or1 (pt_cmpR op_ne (pe_callG (ok_l_all T) gd (hr.mono (by decide)) (by rfl) T.g_l_all T.F_l_all.kp T.b_l_all pass0 (pa_cons (pv 5) pa_nil)) (pv 7) (nomark _)))))) (pss_one (ps_ret pe_bl)) pss_nil) (pss_cons (ps_if (pt_cmpR (op_neD hr.units) (pe_lst (pa_cons (pe_cmpR (op_eqD hr.units) (pe_slice sl_list (pe_meth (pv 1) T.cl T.m_Shelf_versions (ok_Shelf_versions T) (hr.mono (by decide)) T.b_Shelf_versions .nil pass0 (pa_cons (pv 10) pa_nil)) (po_some (pe_un un_neg pe_int)) po_none) (pe_lst pa_nil) (nomark _)) (pa_cons (pe_callB (call_reprA gd (room66 hr)) (by rfl) T.z_repr (by decide +kernel) (pa_cons (pv 11) pa_nil)) pa_nil))) (pe_lst (pa_cons pe_bl (pa_cons (pv 12) pa_nil))) (nomark _)) (pss_one (ps_ret pe_bl)) pss_nil) (pss_cons (ps_if (pt_cmpR op_eq (pe_call (ok_l_take T) (hr.mono (by decide)) (by rfl) T.g_l_take T.F_l_take.kp T.b_l_take .nil pass0 (pa_cons (pv 9) (pa_cons pe_int pa_nil))) pe_int (nomark _)) (pss_cons (ps_set (i := 5) sc_law.nd rfl (Or.inl rfl) (pe_meth0 (pv 1) T.cl T.m_Shelf_twin (ok_Shelf_twin T) (hr.mono (by decide)) T.b_Shelf_twin .nil pass0)) (pss_cons (ps_set (i := 6) sc_law.nd rfl (Or.inl rfl) (pe_callTy call_list_of (by rfl) T.z_list (by decide +kernel) (pa_cons (pv 2) pa_nil))) (pss_cons (ps_set (i := 16) sc_law.nd rfl (Or.inl rfl) (pe_callB (call_reprA gd (room66 hr)) (by rfl) T.z_repr (by decide +kernel) (pa_cons (pe_meth (pv 1) T.cl T.m_Shelf_versions (ok_Shelf_versions T) (hr.mono (by decide)) T.b_Shelf_versions .nil pass0 (pa_cons pe_str pa_nil)) pa_nil))) (pss_cons (ps_expr (pe_meth (pv 5) T.cl T.m_Shelf_put (ok_Shelf_put T) (hr.mono (by decide)) T.b_Shelf_put .nil pass0 (pa_cons pe_str (pa_cons (pe_tup (pa_cons (pe_op op_pow pe_int pe_int) (pa_cons pe_int (pa_cons pe_int pa_nil)))) (pa_cons (pe_tup (pa_cons pe_int pa_nil)) pa_nil))))) (pss_cons (ps_if (PW.pt (pw_or (pt_cmpR op_ne (pe_callB (call_reprA gd (room66 hr)) (by rfl) T.z_repr (by decide +kernel) (pa_cons (pe_meth (pv 1) T.cl T.m_Shelf_versions (ok_Shelf_versions T) (hr.mono (by decide)) T.b_Shelf_versions .nil pass0 (pa_cons pe_str pa_nil)) pa_nil)) (pv 16) (nomark _)) (pw_or1 (pt_cmpR (op_neD hr.units) (pe_meth (pv 5) T.cl T.m_Shelf_newest (ok_Shelf_newest T) (hr.mono (by decide)) T.b_Shelf_newest .nil pass0 (pa_cons pe_str pa_nil)) (pe_meth (pv 1) T.cl T.m_Shelf_newest (ok_Shelf_newest T) (hr.mono (by decide)) T.b_Shelf_newest .nil pass0 (pa_cons pe_str pa_nil)) (nomark _))))) (pss_one (ps_ret pe_bl)) pss_nil) (pss_one (ps_set (i := 7) sc_law.nd rfl (Or.inl rfl) (pe_callG (ok_l_all T) gd (hr.mono (by decide)) (by rfl) T.g_l_all T.F_l_all.kp T.b_l_all pass0 (pa_cons (pv 5) pa_nil))))))))) pss_nil) (pss_one (ps_set (i := 3) sc_law.nd rfl (Or.inl rfl) (pe_op op_add (pv 3) pe_int))))))))))))))) (pss_cons (ps_set (i := 15) sc_law.nd rfl (Or.inr rfl) (pe_call (ok_l_take T) (hr.mono (by decide)) (by rfl) T.g_l_take T.F_l_take.kp T.b_l_take .nil pass0 (pa_cons (pe_call (ok_l_begun T) (hr.mono (by decide)) (by rfl) T.g_l_begun T.F_l_begun.kp T.b_l_begun .nil pass0 (pa_cons (pv 0) (pa_cons pe_int pa_nil))) (pa_cons (pe_op op_add (pv 3) pe_int) pa_nil)))) (pss_cons (ps_expr (pe_meth (pv 1) T.cl T.m_Shelf_let_go (ok_Shelf_let_go T) (hr.mono (by decide)) T.b_Shelf_let_go .nil pass0 (pa_cons (pv 15) pa_nil))) (pss_one (ps_ret (pe_and (pe_call (ok_l_again T) (hr.mono (by decide)) (by rfl) T.g_l_again T.F_l_again.kp T.b_l_again .nil pass0 (pa_cons (pv 1) (pa_cons (pe_lc (own := [("_law_one", 17)]) (g := gName 17) (te := (tVar 17)) (tt := (tTest (tOp (rI0 fun i j => .bl (decide (j ≤ i))) (tOp (rIxT K) (tVar 17) (tC (.int 1))) (tVar 15)))) (by rfl) sc_law.nd (pi_list (pv 2)) (blkOk_by (own := [("_law_one", 17)]) (N := ["_law_script", "_law_shelf", "_law_seen", "_law_time", "_law_serial", "_law_twin", "_law_early", "_law_stood", "_law_k", "_law_state", "_law_key_here", "_law_held", "_law_text", "_law_turn", "_law_read", "_law_when", "_law_kept", "_law_one"]) (sc := defScope s_law) (by decide +kernel)) (fun _ _ _ _ _ => (pg_name (i := 17) sc_law.nd rfl (.inl rfl))) (fun _ _ _ _ _ => (pts_one (pt_cmpR op_ge (pe_ix ix_tup (pv 17) pe_int (fun _ _ => rfl)) (pv 15) (nomark _)))) (fun _ _ _ _ _ => (pv 17))) pa_nil))) (pe_one (pe_call (ok_l_again T) (hr.mono (by decide)) (by rfl) T.g_l_again T.F_l_again.kp T.b_l_again .nil pass0 (pa_cons (pv 5) (pa_cons (pv 6) pa_nil))))))))))))))))), ?_⟩
    intro x dx nx ndx nex
    have sm0 : Same H (upd (upd H dx (.own x)) x (.ins (a 29) dx [])) := fun b o e => by
      rw [upd_ne (ne_of_none e nx), upd_ne (ne_of_none e ndx)]
      exact e
    refine ⟨x, dx, rfl, upd_same, fun rd od H1 nrd nod keep1 hsx => ⟨rfl, ?_⟩⟩
    have S1 : Same H H1 := fun b o e => keep1 b o (ne_of_none e nx) (sm0 b o e)
    have frd : H rd = none := sm0.free nrd
    have fod : H od = none := sm0.free nod
    obtain ⟨dx1, hx1⟩ := hsx.ins
    refine ⟨Nat.zero_le _, fun sl nsl0 => ?_⟩
    have s2 : Same H1 (upd H1 sl (.lst [])) := same_new (Same.refl H1) nsl0
    have hsl2 : (upd H1 sl (.lst [])) sl = some (.lst []) := upd_same
    have fsl : H sl = none := S1.free nsl0
    refine ⟨_, rfl, x, dx1, _, rfl, s2 _ _ hx1, sf_no _ _ _ _ (by decide +kernel) (by decide +kernel) (by decide +kernel) (by decide +kernel), x, rd, od, false, [], [], .non, rfl, hsx.same s2, fun y ody H3 ny0 nody hsx3 hsy kx3 => ?_⟩
    refine ⟨Nat.zero_le _, fun el nel => ?_⟩
    have s4 : Same H3 (upd H3 el (.lst [])) := same_new (Same.refl H3) nel
    have hel4 : (upd H3 el (.lst [])) el = some (.lst []) := upd_same
    have slx0 : sl ≠ x := Ne.symm (ne_of_none hx1 nsl0)
    have e3 : H3 sl = some (.lst []) := kx3 _ _ slx0 hsl2
    have nsle : sl ≠ el := ne_of_none e3 nel
    have f0 : ∀ c ∈ supS x rd od [], H c = none := fun c hc => by
      rcases supF.mp hc with r | r | r | ⟨p, hp, _⟩
      · exact r ▸ nx
      · exact r ▸ fod
      · exact r ▸ frd
      · cases hp
    have S3 : Same H H3 := fun b o e => kx3 b o (ne_of_none e nx) ((S1.trans s2) _ _ e)
    have f1 : ∀ c ∈ supS y rd ody [], c = y ∨ c = ody ∨ c = rd := fun c hc => by
      rcases supF.mp hc with r | r | r | ⟨p, hp, _⟩
      · exact .inl r
      · exact .inr (.inl r)
      · exact .inr (.inr r)
      · cases hp
    obtain ⟨dx3, hx3⟩ := hsx3.ins
    have od2 := s2 _ _ hsx.own
    have rd2 := s2 _ _ hsx.tab.dict
    have x2 := s2 _ _ hx1
    have ax : ∀ c ∈ supS x rd od [], ∃ o, (upd H1 sl (.lst [])) c = some o ∧ c ≠ sl := fun c hc => by
      obtain ⟨o, eo, _⟩ := hsx.al c hc
      exact ⟨o, s2 _ _ eo, ne_of_none eo nsl0⟩
    generalize (upd H3 el (.lst [])) = H4 at s4 hel4 ⊢
    have w0 : W17 (a 29) H H4 x rd od true [] sl y rd ody true [] el [] [] 0 0 := ⟨S3.trans s4, hsx3.same s4, hsy.same s4, ⟨by simp [ct], fun p hp => by cases hp⟩, ⟨by simp [ct], fun p hp => by cases hp⟩, (fun p hp => by cases hp), by decide, by decide, by decide, by decide, (fun p hp => by cases hp), (fun c hc z => by
        have z' : c = x ∨ c = od := by
          rcases List.mem_cons.mp z with z | z
          · exact .inl z
          · rcases List.mem_cons.mp z with z | z
            · exact .inr z
            · cases z
        rcases f1 c hc with r | r | r
        · rcases z' with z | z
          · rw [← z, r, ny0] at x2; cases x2
          · rw [← z, r, ny0] at od2; cases od2
        · rcases z' with z | z
          · rw [← z, r, nody] at x2; cases x2
          · rw [← z, r, nody] at od2; cases od2
        · rcases z' with z | z
          · rw [← z, r, rd2] at x2; cases x2
          · exact hsx.nod (z.symm.trans r)), (fun c hc z => by
        obtain ⟨o, eo, _⟩ := ax c hc
        rcases List.mem_cons.mp z with z | z
        · rw [z, ny0] at eo; cases eo
        · rcases List.mem_cons.mp z with z | z
          · rw [z, nody] at eo; cases eo
          · cases z), (fun c hc => by
        obtain ⟨o, eo, n⟩ := ax c hc
        obtain ⟨o3, eo3, _⟩ := hsx3.al c hc
        exact ⟨n, ne_of_none eo3 nel, f0 c hc⟩), (fun c hc => by
        obtain ⟨o3, eo3, _⟩ := hsy.al c hc
        refine ⟨?_, ne_of_none eo3 nel, ?_⟩
        · rcases f1 c hc with r | r | r
          · exact r ▸ Ne.symm (ne_of_none hsl2 ny0)
          · exact r ▸ Ne.symm (ne_of_none hsl2 nody)
          · exact r ▸ ne_of_none hsx.tab.dict nsl0
        · rcases f1 c hc with r | r | r
          · exact r ▸ (S1.trans s2).free ny0
          · exact r ▸ (S1.trans s2).free nody
          · exact r ▸ frd), nsle, fsl, by decide, by decide⟩
    have sn0 : SeenAt H4 sl (ct []) 0 (3 * 0) := ⟨[], s4 _ _ e3, Nat.le_refl _, fun p hp => by cases hp⟩
    have se0 : SeenAt H4 el (ct []) 0 (3 * 0) := ⟨[], hel4, Nat.le_refl _, fun p hp => by cases hp⟩
    refine ⟨_, rfl, y, rd, ody, true, [], [], .non, rfl, w0.sy, w0.oky, by decide, fun H5 s5 => ?_⟩
    have w1 := w0.same s5
    have sn1 := sn0.same s5
    have se1 := se0.same s5
    clear sm0 keep1 hsx S1 s2 hsl2 hsy s4 hel4 w0 sn0 se0 s5 hsx3 kx3 e3 f0 S3 f1 hx3 od2 rd2 x2 ax nsl0 hx1 slx0
    refine ⟨_, rfl, l, _, rfl, .inl (w1.sm.seq hS), 30, _, rfl, 3, _, rfl, _, rfl, ?_, ?_, ?_⟩
    · rw [List.length_map]; (repeat' split) <;> omega
    · rw [List.length_map]; (repeat' split) <;> omega
    have hN : (if (if ((ns.map V.int).length : Int) < 30 then ((ns.map V.int).length : Int) else 30) > 3 then (if ((ns.map V.int).length : Int) < 30 then ((ns.map V.int).length : Int) else 30) else (3 : Int)).toNat ≤ 30 := by
      rw [List.length_map]; (repeat' split) <;> omega
    refine for_range (fun i σ H' => ∃ (rd od : Addr) (le : Bool) (os : List Str) (y rdy ody : Addr) (ley : Bool) (osy : List Str) (el : Addr) (m my : Tab) (T : Int) (v8 v9 v10 v11 v12 v13 v14 v15 v16 v17 : Option V), σ = [some (.ref l), some (.ref x), some (.ref sl), some (.int T), some (.int i), some (.ref y), some (.ref el), some (.str (allS (ct my))), v8, v9, v10, v11, v12, v13, v14, v15, v16, v17] ∧ W17 (a 29) H H' x rd od le os sl y rdy ody ley osy el m my T i ∧ SeenAt H' sl (ct m) T (3 * i) ∧ SeenAt H' el (ct my) T (3 * i))
      ⟨rd, od, true, [], y, rd, ody, true, [], el, [], [], 0, _, _, _, _, _, _, _, _, _, _, rfl, w1, sn1, se1⟩ ?_ ?_
    · clear w1 sn1 se1 ny0 nody nel nsle frd fod nrd nod rd od
      rintro i σ H4 hi ⟨rd, od, le, os, y, rdy, ody, ley, osy, el, m, my, T, v8, v9, v10, v11, v12, v13, v14, v15, v16, v17, rfl, w, sn, se⟩
      refine ⟨_, rfl, _, rfl, l, ns, _, rfl, w.sm.seq hS, hl, by omega, by omega, fun s H5 ns0 s5 hs5 => ?_⟩
      have s46 : ∀ {Hx : Hp}, Kp s H5 Hx → Same H4 Hx := fun kx => Kp.same s5 ns0 kx
      have T0 := w.T0
      have T1 := w.T1
      -- the time
      refine ⟨_, rfl, _, rfl, s, 3, rfl, hs5, (by decide), (by decide), fun r1 H6 r10 r11 K6' => ⟨T, r1, rfl, rfl, ?_⟩⟩
      refine ⟨_, rfl, (i : Int), 1, rfl, rfl, ?_⟩
      refine ⟨_, rfl, s, rfl, K6'.2, fun k H7 hk K7 => ?_⟩
      have kok : Kok k := K6_kok hk
      have k7 := K6'.trans K7
      have w7 := w.same (s46 k7)
      obtain ⟨dx7, hx7⟩ := w7.sx.ins
      have hes := w.okx.es k
      have hel := esC_len (ct m) k
      have tx := w.tx
      rw [← esT_ct] at hes hel
      -- held
      refine ⟨_, rfl, x, dx7, _, rfl, hx7, sf_no _ _ _ _ (by decide +kernel) (by decide +kernel) (by decide +kernel) (by decide +kernel), _, rfl, x, rd, od, le, os, k, m, .non, rfl, w7.sx, kok, fun rv H8 nrv s8 hrv => ?_⟩
      have lx := w.lx
      refine ⟨_, rfl, x, dx7, _, rfl, s8 _ _ hx7, sf_no _ _ _ _ (by decide +kernel) (by decide +kernel) (by decide +kernel) (by decide +kernel), x, rd, od, le, os, m, .non, rfl, w7.sx.same s8, by omega, fun rk ys H9 nrk s9 hrk perm srt => ?_⟩
      refine ⟨len2, fun ph nph => ?_⟩
      have s10 : Same H9 (upd H9 ph (.lst [.ref rv, .ref rk])) := same_new (Same.refl H9) nph
      have hph : (upd H9 ph (.lst [.ref rv, .ref rk])) ph = some (.lst [.ref rv, .ref rk]) := upd_same
      have fph : H7 ph = none := s8.free (s9.free nph)
      have frk : H7 rk = none := s8.free nrk
      generalize (upd H9 ph (.lst [.ref rv, .ref rk])) = HA at s10 hph ⊢
      have s7A : Same H7 HA := s8.trans (s9.trans s10)
      have hrvA := (hrv.same s9).same s10
      have hrkA := s10 _ _ hrk
      have ysk : ∀ z ∈ ys, z ∈ K6 := fun z hz => by
        obtain ⟨p, hp, rfl⟩ := List.mem_map.mp (perm.mem_iff.mp hz)
        exact w.kx (p.1, p.2.2) (List.mem_map.mpr ⟨p, hp, rfl⟩)
      have ysl : ys.length ≤ 40 := by rw [perm.length_eq, List.length_map]; omega
      have shd : Shw (heldD (esT m k) ys) := shw_held hes.1 (by omega) (fun z hz => (K6_kok (ysk z hz)).sh) ysl
      have asd := asc_held (es := esT m k) ysk
      have dpd : ∀ {Hx : Hp}, RowAt Hx rv (esT m k) → Hx rk = some (.lst (ys.map V.str)) → Hx ph = some (.lst [.ref rv, .ref rk]) → Dp K Hx (.ref ph) (heldD (esT m k) ys) := fun a b c => .lst (SqL.of c) (.cons a.dp (.cons (.lst (SqL.of b) (dpall_strs _)) .nil))
      refine ⟨_, rfl, .ref ph, heldD (esT m k) ys, rfl, .dp (dpd hrvA hrkA hph), shd.sh, shd.dp, shd.sz, ?_⟩
      generalize heldD (esT m k) ys = hd0 at shd asd dpd ⊢
      -- put
      have kA := k7.up s7A
      have wA := w.same (s46 kA)
      obtain ⟨dxA, hxA⟩ := wA.sx.ins
      refine ⟨_, rfl, x, dxA, _, rfl, hxA, sf_no _ _ _ _ (by decide +kernel) (by decide +kernel) (by decide +kernel) (by decide +kernel), _, rfl, _, rfl, _, rfl, _, rfl, s, 4, rfl, kA.2, (by decide), (by decide), fun r4 HB r40 r41 KB => ⟨len3, fun pst npst => ?_⟩⟩
      have kB := kA.trans KB
      have kC := kB.new (o := .tup [.int (T + r1), .int ((i : Int) + 1), .int r4]) npst
      have hpst : (upd HB pst (.tup [.int (T + r1), .int ((i : Int) + 1), .int r4])) pst = some (.tup [.int (T + r1), .int ((i : Int) + 1), .int r4]) := upd_same
      have kAC := (KB.new (o := .tup [.int (T + r1), .int ((i : Int) + 1), .int r4]) npst)
      generalize (upd HB pst (.tup [.int (T + r1), .int ((i : Int) + 1), .int r4])) = HC at kC hpst kAC ⊢
      refine ⟨_, rfl, s, rfl, kC.2, fun pw nsw HE w1 w4 wb npw KE hwt => ?_⟩
      have kE := kC.trans KE
      have wE := w.same (s46 kE)
      have kAE := kAC.trans KE
      have hpsE : HE pst = some (.tup [.int (T + r1), .int ((i : Int) + 1), .int r4]) := KE.tup kC.2 hpst
      have snE := sn.same (s46 kE)
      have seE := se.same (s46 kE)
      have nAs : ∀ {b : Addr} {xs : List V}, H7 b = none → HA b = some (.lst xs) → b ≠ s := fun {b xs} f z e => by
        subst e
        obtain ⟨_, _, _, e2, _⟩ := k7.2
        rw [f] at e2
        cases e2
      have hrvE : RowAt HE rv (esT m k) := by
        obtain ⟨pz, hz, prz⟩ := hrvA
        exact ⟨pz, kAE.1 _ _ (nAs nrv hz) hz, prz.tk fun b xs z => kAE.1 _ _ (kA.2.ne_tup z) z⟩
      have hrkE := kAE.1 _ _ (nAs frk hrkA) hrkA
      have hphE := kAE.1 _ _ (nAs fph hph) hph
      have eok : Ent.Ok ⟨T + r1, (i : Int) + 1, r4, nsw⟩ := ⟨by show _ ≤ T + r1; omega, by show T + r1 ≤ _; omega, by show 0 ≤ (i : Int) + 1; omega, by show (i : Int) + 1 ≤ _; omega, r40, by show r4 ≤ _; omega, w1, w4, wb⟩
      have hlst : ∀ f, (esT m k).getLast? = some f → f.lt ⟨T + r1, (i : Int) + 1, r4, nsw⟩ := fun f hf => by
        have hm : f ∈ esC (ct m) k := by rw [← esT_ct]; exact List.mem_of_getLast? hf
        have : f.t < T := by
          rcases esC_mem (c := ct m) (k := k) with z | z
          · rw [z] at hm; cases hm
          · exact w.bx _ z f hm
        exact .inl (by show f.t < T + r1; omega)
      refine ⟨x, rd, od, pst, pw, le, os, k, m, .non, ⟨T + r1, (i : Int) + 1, r4, nsw⟩, rfl, wE.sx, kok, hpsE, hwt, eok, by omega, by omega, hlst, fun rd' od' os' m' HF hsF ecF stpF spF => ?_⟩
      have tkE : Tk HE HF := stpF.tk wE.sx.ntup
      have frF : ∀ b o, ¬ b ∈ supS x rd od m → HE b = some o → HF b = some o := fun b o n e => stpF.fr b o (fun z => n (own_sup z)) e
      have nsup : ∀ {b : Addr}, H7 b = none → ¬ b ∈ supS x rd od m := fun {b} n z => by
        obtain ⟨o, eo, _⟩ := w7.sx.al b z
        rw [n] at eo
        cases eo
      have hrvF : RowAt HF rv (esT m k) := by
        obtain ⟨pz, hz, prz⟩ := hrvE
        exact ⟨pz, frF _ _ (nsup nrv) hz, prz.tk tkE⟩
      have hrkF := frF _ _ (nsup frk) hrkE
      have hphF := frF _ _ (nsup fph) hphE
      have slE : ∀ o, HE sl = some o → HF sl = some o := fun o e => frF _ _ (fun z => (w.slx _ z).1 rfl) e
      have elE : ∀ o, HE el = some o → HF el = some o := fun o e => frF _ _ (fun z => (w.slx _ z).2.1 rfl) e
      have snF : SeenAt HF sl (ct m') (T + r1) (3 * i) := by
        rw [ecF]
        exact ((snE.tk tkE slE).put (by show T ≤ T + r1; omega)).mono (by omega) (Nat.le_refl _)
      have seF : SeenAt HF el (ct my) (T + r1) (3 * i) := (seE.tk tkE elE).mono (by omega) (Nat.le_refl _)
      have wF : W17 (a 29) H HF x rd' od' false os' sl y rdy ody ley osy el m' my (T + r1 + 1) (i + 1) := by
        obtain ⟨psn, esn, _⟩ := snE
        obtain ⟨pse, ese, _⟩ := seE
        obtain ⟨z1, z2, z3, z4, z5⟩ := wE.step hsF stpF spF ⟨_, esn⟩ ⟨_, ese⟩
        refine ⟨z1, hsF, z2, ?_, w.oky, ?_, ?_, ?_, ?_, ?_, ?_, z3, z4, z5, w.sly, w.nsl, w.f2, by omega, by omega⟩
        · rw [ecF]
          exact putC_ok w.okx kok.sh kok.kd eok (by rw [← esT_ct]; exact hlst)
        · intro p hp
          rw [ecF] at hp
          have hm : p.1 ∈ (putC (ct m) k ⟨T + r1, (i : Int) + 1, r4, nsw⟩).map (·.1) := List.mem_map.mpr ⟨p, hp, rfl⟩
          unfold putC at hm
          split at hm
          · rw [List.map_map] at hm
            obtain ⟨q, hq, e⟩ := List.mem_map.mp hm
            have : p.1 = q.1 := by
              rw [← e]
              show (if q.1 = k then (q.1, q.2 ++ _) else q).1 = q.1
              split <;> rfl
            rw [this]
            exact w.kx q hq
          · rw [List.map_append] at hm
            rcases List.mem_append.mp hm with z | z
            · obtain ⟨q, hq, e⟩ := List.mem_map.mp z
              rw [← e]
              exact w.kx q hq
            · have : p.1 = k := by simpa using z
              rw [this]
              exact hk
        · rw [ecF, tot_putC w.okx.nd]
          omega
        · have := w.ty
          omega
        · have e1 : (ct m').length ≤ (ct m).length + 1 := by rw [ecF]; exact len_putC _ _ _
          rw [ct_len, ct_len] at e1
          omega
        · have := w.ly
          omega
        · rw [ecF]
          refine putC_all (fun p hp e he => ?_) ?_
          · have := w.bx p hp e he
            omega
          · show T + r1 < T + r1 + 1
            omega
      have nms : ∀ c ∈ supS x rd od m, c ≠ s := fun c hc => by
        obtain ⟨o, eo, _⟩ := w.sx.al c hc
        exact ne_of_none eo ns0
      have nmy : ∀ c ∈ supS y rdy ody my, c ≠ s := fun c hc => by
        obtain ⟨o, eo, _⟩ := w.sy.al c hc
        exact ne_of_none eo ns0
      have stF : StAt HF s := by
        obtain ⟨a1, a2, a3, a4, a5⟩ := kE.2
        exact ⟨a1, a2, a3, frF _ _ (fun z => nms _ z rfl) a4, a5⟩
      have sl4 : ∃ xs, H4 sl = some (.lst xs) := by obtain ⟨psn, esn, _⟩ := sn; exact ⟨_, esn⟩
      have el4 : ∃ xs, H4 el = some (.lst xs) := by obtain ⟨psn, esn, _⟩ := se; exact ⟨_, esn⟩
      have slne : ∀ {b : Addr}, H7 b = none → b ≠ sl := fun {b} f e => by
        obtain ⟨xs, h⟩ := sl4
        have := (s46 k7) _ _ h
        rw [← e, f] at this
        cases this
      have apF : Ap H HF s sl el rv rk ph (supS x rd' od' m') (supS y rdy ody my) := by
        refine ⟨stF, fun c hc => ?_, nmy, w.sm.free ns0, ?_, ?_, ?_, ?_, ?_, slne nrv, slne frk, slne fph⟩
        · rcases spF c hc with h | h
          · exact nms c h
          · obtain ⟨a1, a2, a3, a4, a5⟩ := kE.2
            exact Ne.symm (ne_of_none a4 h)
        · obtain ⟨xs, h⟩ := sl4; exact ne_of_none h ns0
        · obtain ⟨xs, h⟩ := el4; exact ne_of_none h ns0
        · obtain ⟨pz, hz, _⟩ := hrvA; exact nAs nrv hz
        · exact nAs frk hrkA
        · exact nAs fph hph
      have etx : tot (ct m') ≤ 31 := by have := wF.tx; omega
      have esm' : esC (ct m') k ≠ [] := by
        rw [ecF, esC_put, if_pos rfl]
        simp
      have bm' : ∀ k2, (esC (ct m') k2).length ≤ 1000 := fun k2 => by have := esC_len (ct m') k2; omega
      clear snE seE hsF frF tkE nsup hrvE hrkE hphE slE elE nms nmy stF sl4 el4 slne kAE nAs hwt hpsE kE KE kC kAC kB KB wE hxA wA kA hrvA hrkA hph s7A hrk hrv s10 s9 s8
      clear stpF spF w7 k7 K7 K6' sn se w
      -- the reads
      refine ⟨3, rfl, by decide, by decide, ?_⟩
      refine for_range (n := 3) (fun j σ H' => ∃ v8 v13 v14 v15 v16 v17 : Option V, σ = [some (.ref l), some (.ref x), some (.ref sl), some (.int (T + r1)), some (.int ((i : Int) + 1)), some (.ref y), some (.ref el), some (.str (allS (ct my))), v8, some (.ref s), some (.str k), some (.ref ph), some (.str hd0.shown), v13, v14, v15, v16, v17] ∧ W17 (a 29) H H' x rd' od' false os' sl y rdy ody ley osy el m' my (T + r1 + 1) (i + 1) ∧ SeenAt H' sl (ct m') (T + r1) (3 * i + j) ∧ SeenAt H' el (ct my) (T + r1) (3 * i) ∧ Ap H H' s sl el rv rk ph (supS x rd' od' m') (supS y rdy ody my) ∧ RowAt H' rv (esT m k) ∧ H' rk = some (.lst (ys.map V.str)) ∧ H' ph = some (.lst [.ref rv, .ref rk]))
        ⟨_, _, _, _, _, _, rfl, wF, snF, seF, apF, hrvF, hrkF, hphF⟩ ?_ ?_
      · rintro j σ Ha hj ⟨v8, v13, v14, v15, v16, v17, rfl, wa, sna, sea, apa, hrva, hrka, hpha⟩
        refine ⟨_, rfl, s, rfl, apa.st, fun k2 Hb hk2 Kb => ?_⟩
        refine ⟨_, rfl, _, rfl, T + r1, 1, rfl, rfl, s, _, rfl, Kb.2, by omega, by omega, fun rw_ Hc rw0 rw1 Kc => ⟨rw_, 1, rfl, rfl, ?_⟩⟩
        have Kac := Kb.trans Kc
        have wc := wa.kp Kac apa.st apa.f apa.nm apa.ny
        have snc := sna.kp Kac apa.st apa.n1
        have sec := sea.kp Kac apa.st apa.n2
        have hrvc := hrva.kp Kac apa.st apa.n3
        have hrkc := Kac.1 _ _ apa.n4 hrka
        have hphc := Kac.1 _ _ apa.n5 hpha
        refine ⟨_, rfl, _, rfl, rw_ - 1, T + r1, rfl, rfl, _, rfl, iteDT (by omega) ?_⟩
        obtain ⟨psn, esn, hsn, hall⟩ := snc
        obtain ⟨dxc, hxc⟩ := wc.sx.ins
        have pwk := (wc.okx.es k2).2.times
        refine ⟨_, rfl, .inl ⟨rfl, _, SqL.of esn⟩, _, rfl, _, rfl, _, rfl, x, dxc, _, rfl, hxc, sf_no _ _ _ _ (by decide +kernel) (by decide +kernel) (by decide +kernel) (by decide +kernel), _, rfl, _, rfl, x, rd', od', false, os', k2, rw_ - 1, m', .non, rfl, wc.sx, .inl rfl, K6_kok hk2, (by rw [esT_ct]; exact bm' k2), (by rw [esT_ct]; exact pwk), fun va Hd sd hva => ⟨len3, fun pt npt => ?_⟩⟩
        rw [esT_ct] at hva
        have se2 : Same Hd (upd Hd pt (.tup [.str k2, .int (rw_ - 1), va])) := same_new (Same.refl Hd) npt
        have hpt : (upd Hd pt (.tup [.str k2, .int (rw_ - 1), va])) pt = some (.tup [.str k2, .int (rw_ - 1), va]) := upd_same
        have hva2 := hva.tk (same_tk se2)
        generalize (upd Hd pt (.tup [.str k2, .int (rw_ - 1), va])) = He at se2 hpt hva2 ⊢
        have sce : Same Hc He := sd.trans se2
        have esne := sce _ _ esn
        refine ⟨sl, _, _, rfl, rfl, esne, ?_, ?_⟩
        · rw [List.length_map]
          exact Nat.lt_of_le_of_lt (show psn.length ≤ 1000 by omega) (by decide)
        have tke := same_tk sce
        have upn : ∀ {b : Addr} {o : HO}, He b = some o → b ≠ sl → (upd He sl (.lst (psn.map V.ref ++ [.ref pt]))) b = some o := fun z n => by rw [upd_ne n]; exact z
        have tkf : Tk He (upd He sl (.lst (psn.map V.ref ++ [.ref pt]))) := fun b xs z => upn z (ne_of z esne (by intro q; cases q))
        refine ⟨_, _, _, _, _, _, rfl, (wc.same sce).app esne, ?_, (sec.same sce).tk tkf (fun o z => upn z (Ne.symm wc.nsl)), ?_, ?_, upn (sce _ _ hrkc) apa.o4, upn (sce _ _ hphc) apa.o5⟩
        · refine SeenAt.snoc esne (by omega) (fun p hp => ?_) hpt hk2 (by omega) hva2
          obtain ⟨k1, w1', v1, a1, a2, a3, a4⟩ := hall p hp
          exact ⟨k1, w1', v1, tke _ _ a1, a2, a3, a4.tk tke⟩
        · obtain ⟨a1, a2, a3, a4, a5⟩ := Kac.2.same sce
          exact { apa with st := ⟨a1, a2, a3, upn a4 (Ne.symm apa.n1), a5⟩ }
        · obtain ⟨pz, hz, prz⟩ := hrvc.same sce
          exact ⟨pz, upn hz apa.o3, prz.tk tkf⟩
      rintro σ Ha ⟨v8, v13, v14, v15, v16, v17, rfl, wa, sna, sea, apa, hrva, hrka, hpha⟩
      clear wF snF seF apF hrvF hrkF hphF
      have okx := wa.okx
      have oky := wa.oky
      have ty := wa.ty
      have tyy : tot (ct my) ≤ 40 := by omega
      have seen_ok : ∀ {Hx : Hp} {a' : Addr} {mm : Tab} {T' : Int} {n' : Nat}, CtOk (ct mm) → tot (ct mm) ≤ 40 → SeenAt Hx a' (ct mm) T' n' → ∃ ps : List Addr, Hx a' = some (.lst (ps.map V.ref)) ∧ ∀ p ∈ ps, ∃ (k : Str) (w : Int) (v : V), Hx p = some (.tup [.str k, .int w, v]) ∧ k ∈ K6 ∧ LgOk .non w ∧ WAt Hx v (atD (esT mm k) w) ∧ (esT mm k).length ≤ 1000 ∧ (esT mm k).Pairwise fun a b => a.t ≤ b.t := fun {Hx a' mm T' n'} ok tt h => by
        obtain ⟨ps, e, _, r⟩ := h
        refine ⟨ps, e, fun p hp => ?_⟩
        obtain ⟨k1, w1', v1, a1, a2, a3, a4⟩ := r p hp
        refine ⟨k1, w1', v1, a1, a2, .inl rfl, by rw [esT_ct]; exact a4, ?_, by rw [esT_ct]; exact (ok.es k1).2.times⟩
        have := esC_len (ct mm) k1
        rw [esT_ct]
        omega
      -- read again
      obtain ⟨ps1, e1, r1'⟩ := seen_ok okx (by omega) sna
      refine ⟨_, rfl, _, rfl, x, rd', od', false, os', sl, m', .non, ps1, rfl, wa.sx, e1, r1', fun Hb sb => ⟨true, rfl, iteF ?_⟩⟩
      have wb := wa.same sb
      have snb := sna.same sb
      have seb := sea.same sb
      obtain ⟨ps2, e2, r2'⟩ := seen_ok oky tyy seb
      refine ⟨_, rfl, _, rfl, y, rdy, ody, ley, osy, el, my, .non, ps2, rfl, wb.sy, e2, r2', fun Hc sc => ⟨true, rfl, iteF ?_⟩⟩
      have wc := wb.same sc
      refine ⟨_, rfl, y, rdy, ody, ley, osy, my, .non, rfl, wc.sy, oky, tyy, fun Hd sd => ⟨_, rfl, rfl, _, rfl, iteNS rfl ?_⟩⟩
      have wd := wc.same sd
      have sad : Same Ha Hd := sb.trans (sc.trans sd)
      -- held ones stay
      obtain ⟨dxd, hxd⟩ := wd.sx.ins
      refine ⟨_, rfl, x, dxd, _, rfl, hxd, sf_no _ _ _ _ (by decide +kernel) (by decide +kernel) (by decide +kernel) (by decide +kernel), _, rfl, x, rd', od', false, os', k, m', .non, rfl, wd.sx, kok, fun rn He nrn se3 hrn => ?_⟩
      obtain ⟨psn, hpn, prn⟩ := id hrn
      have esn' : esT m' k ≠ [] := by rw [esT_ct]; exact esm'
      have psne : psn ≠ [] := fun z => by
        have := prn.len
        rw [z] at this
        exact esn' (List.eq_nil_of_length_eq_zero this.symm)
      obtain ⟨pl, epl⟩ : ∃ pl, psn.getLast? = some pl := ⟨_, List.getLast?_eq_some_getLast psne⟩
      have hpl : psn[psn.length - 1]? = some pl := by rw [← List.getLast?_eq_getElem?]; exact epl
      obtain ⟨lst, _, hplA⟩ := prn.get hpl
      refine ⟨1, rfl, _, rfl, rn, _, rfl, SqL.of hpn, fun pz npz => ?_⟩
      have ecut : cutV (psn.map V.ref) (some (-1)) none = [V.ref pl] := cut_end (by rw [List.getLast?_map, epl]; rfl)
      have ecut2 : cutV (psn.map V.ref) (some (- 1)) none = [V.ref pl] := ecut
      rw [ecut2]
      have sz1 : Same He (upd He pz (.lst [.ref pl])) := same_new (Same.refl He) npz
      have hz1 : (upd He pz (.lst [.ref pl])) pz = some (.lst [.ref pl]) := upd_same
      generalize (upd He pz (.lst [.ref pl])) = Hg at sz1 hz1 ⊢
      refine ⟨Nat.zero_le _, fun pe npe => ?_⟩
      have se4 : Same Hg (upd Hg pe (.lst [])) := same_new (Same.refl Hg) npe
      have sgz := sz1.trans se4
      refine ⟨.list [entD lst], .list [], .lst (SqL.of (se4 _ _ hz1)) (.cons ((hplA.tk (same_tk sgz)).dp) .nil), .lst (SqL.of upd_same) .nil, one_shaped _, rfl, ?_⟩
      have efalse : PyData.eqv (.list [entD lst]) (.list []) = false := by rw [eqv_nil]; rfl
      rw [efalse]
      generalize (upd Hg pe (.lst [])) = Hh at se4 sgz ⊢
      have sah : Same Ha Hh := sad.trans (se3.trans sgz)
      refine ⟨_, rfl, .ref ph, hd0, rfl, .dp (dpd (hrva.same sah) (sah _ _ hrka) (sah _ _ hpha)), shd.sh, shd.dp, shd.sz, len2, fun q1 nq1 => ?_⟩
      have sq1 : Same Hh (upd Hh q1 (.lst [.bl false, .str hd0.shown])) := same_new (Same.refl Hh) nq1
      have hq1 : (upd Hh q1 (.lst [.bl false, .str hd0.shown])) q1 = some (.lst [.bl false, .str hd0.shown]) := upd_same
      generalize (upd Hh q1 (.lst [.bl false, .str hd0.shown])) = Hi at sq1 hq1 ⊢
      refine ⟨_, rfl, len2, fun q2 nq2 => ?_⟩
      have sq2 : Same Hi (upd Hi q2 (.lst [.bl false, .str hd0.shown])) := same_new (Same.refl Hi) nq2
      obtain ⟨sh2, eq2⟩ := two_shaped asd
      refine ⟨.list [.bool false, .str hd0.shown], .list [.bool false, .str hd0.shown], .lst (SqL.of (sq2 _ _ hq1)) (.cons (.bl _) (.cons (.str _) .nil)), .lst (SqL.of upd_same) (.cons (.bl _) (.cons (.str _) .nil)), sh2, sh2, _, rfl, iteBF (by rw [eq2]; rfl) ?_⟩
      have sai : Same Ha (upd Hi q2 (.lst [.bl false, .str hd0.shown])) := sah.trans (sq1.trans sq2)
      generalize (upd Hi q2 (.lst [.bl false, .str hd0.shown])) = Hj at sai ⊢
      have wj := wa.same sai
      have snj := sna.same sai
      have sej := sea.same sai
      have stj := apa.st.same sai
      clear sah sq1 hq1 sq2 sh2 eq2 sgz efalse sz1 hz1 se4 hrn hpn prn hplA hpl epl psne wd wc wb snb seb sad hrva hrka hpha dpd shd asd
      -- a twin now and then
      refine ⟨_, rfl, s, 4, rfl, stj, (by decide), (by decide), fun rt Hk rt0 rt1 Kk => ⟨rfl, _, rfl, ?_⟩⟩
      have wk := wj.kp Kk stj apa.f apa.nm apa.ny
      have snk := snj.kp Kk stj apa.n1
      have sek := sej.kp Kk stj apa.n2
      have T1' := wk.T1
      have T0' := wk.T0
      refine ite2 (fun hz => ?_) (fun hz => ?_)
      · obtain ⟨dxk, hxk⟩ := wk.sx.ins
        have lx' := wk.lx
        refine ⟨_, rfl, x, dxk, _, rfl, hxk, sf_no _ _ _ _ (by decide +kernel) (by decide +kernel) (by decide +kernel) (by decide +kernel), x, rd', od', false, os', m', .non, rfl, wk.sx, fun y2 ody2 Hl ny2 nody2 hsxl hsy2 kxl => ?_⟩
        have wl := wk.lend hsxl kxl
        have tkl : Tk Hk Hl := fun b xs e => kxl b _ (ne_of e hxk (by intro z; cases z)) e
        have snl := snk.tk tkl fun o e => kxl _ _ (Ne.symm (wk.slx x (.head _)).1) e
        obtain ⟨dxl, hxl⟩ := wl.sx.ins
        obtain ⟨ps3, e3, l3, r3⟩ := id snl
        refine ⟨_, rfl, sl, _, rfl, .inl (SqL.of e3), fun el2 nel2 => ?_⟩
        have sm1 : Same Hl (upd Hl el2 (.lst (ps3.map V.ref))) := same_new (Same.refl Hl) nel2
        have hel2 : (upd Hl el2 (.lst (ps3.map V.ref))) el2 = some (.lst (ps3.map V.ref)) := upd_same
        generalize (upd Hl el2 (.lst (ps3.map V.ref))) = Hm at sm1 hel2 ⊢
        have skm : Same Hl Hm := sm1
        have wm := wl.same skm
        have hsy3 := hsy2.same sm1
        have okA : Kok "a" := K6_kok (by decide +kernel)
        have okB : Kok "b" := K6_kok (by decide +kernel)
        have hesA := okx.es "a"
        have helA := esC_len (ct m') "a"
        have shA : Shw (.list ((esT m' "a").map entD)) := by rw [esT_ct]; exact shw_row hesA.1 (by omega)
        refine ⟨_, rfl, x, dxl, _, rfl, skm _ _ hxl, sf_no _ _ _ _ (by decide +kernel) (by decide +kernel) (by decide +kernel) (by decide +kernel), x, rd', od', true, os', "a", m', .non, rfl, wm.sx, okA, fun ra Hn nra sn1 hra => ?_⟩
        refine ⟨.ref ra, .list ((esT m' "a").map entD), rfl, .dp hra.dp, shA.sh, shA.dp, shA.sz, ?_⟩
        have skn := skm.trans sn1
        have hsyn := hsy3.same sn1
        obtain ⟨dyn, hyn⟩ := hsyn.ins
        refine ⟨_, rfl, y2, dyn, _, rfl, hyn, sf_no _ _ _ _ (by decide +kernel) (by decide +kernel) (by decide +kernel) (by decide +kernel), 10, 9, rfl, rfl, ⟨by decide, by decide, by decide⟩, len3, fun qs nqs => ⟨len1, fun qw nqw => ?_⟩⟩
        have e9 : (10 : Int) ^ (9 : Int).toNat = 1000000000 := by decide
        have so1 : Same Hn (upd Hn qs (.tup [.int (10 ^ (9 : Int).toNat), .int 1, .int 0])) := same_new (Same.refl Hn) nqs
        have ho1 : (upd Hn qs (.tup [.int (10 ^ (9 : Int).toNat), .int 1, .int 0])) qs = some (.tup [.int (10 ^ (9 : Int).toNat), .int 1, .int 0]) := upd_same
        have so2 := fun o : HO => same_new (o := o) so1 nqw
        have ho2 := fun o : HO => same_new (o := o) (Same.refl _) nqw
        have so3 : Same Hn (upd (upd Hn qs (.tup [.int (10 ^ (9 : Int).toNat), .int 1, .int 0])) qw (.tup [.int 7])) := so2 _
        have tlast : ∀ f, (esT m' "a").getLast? = some f → f.lt ⟨10 ^ (9 : Int).toNat, 1, 0, [7]⟩ := fun f hf => by
          have hm : f ∈ esC (ct m') "a" := by rw [← esT_ct]; exact List.mem_of_getLast? hf
          have : f.t < T + r1 + 1 := by
            rcases esC_mem (c := ct m') (k := "a") with z | z
            · rw [z] at hm; cases hm
            · exact wk.bx _ z f hm
          refine .inl ?_
          show f.t < 10 ^ (9 : Int).toNat
          rw [e9]
          omega
        have eok2 : Ent.Ok ⟨10 ^ (9 : Int).toNat, 1, 0, [7]⟩ := ⟨by show _ ≤ (10 : Int) ^ (9 : Int).toNat; decide, by show (10 : Int) ^ (9 : Int).toNat ≤ _; decide, by show (0 : Int) ≤ 1; decide, by show (1 : Int) ≤ _; decide, by show (0 : Int) ≤ 0; decide, by show (0 : Int) ≤ _; decide, by show 1 ≤ 1; decide, by show 1 ≤ 4; decide, fun n hn => by rw [List.mem_singleton.mp hn]; decide⟩
        refine ⟨y2, rd', ody2, qs, qw, true, [], "a", m', .non, ⟨10 ^ (9 : Int).toNat, 1, 0, [7]⟩, rfl, hsyn.same so3, okA, ho2 _ _ _ ho1, upd_same, eok2, by omega, (by rw [esT_ct]; omega), tlast, fun rd5 od5 os5 my3 Hp hsP ecP stpP spP => ?_⟩
        have slo : Same Hl (upd (upd Hn qs (.tup [.int (10 ^ (9 : Int).toNat), .int 1, .int 0])) qw (.tup [.int 7])) := skn.trans so3
        generalize (upd (upd Hn qs (.tup [.int (10 ^ (9 : Int).toNat), .int 1, .int 0])) qw (.tup [.int 7])) = Ho at slo so3 so2 ho2 hsP stpP spP
        have oy : ∀ c, c ∈ ownS y2 rd' ody2 true [] m' → Hk c = none := fun c hc => by
          rcases List.mem_cons.mp hc with r | hc
          · exact r ▸ ny2
          rcases List.mem_cons.mp hc with r | hc
          · exact r ▸ nody2
          · cases hc
        have alk : ∀ {b : Addr}, (∃ o, Hk b = some o) → ¬ b ∈ ownS y2 rd' ody2 true [] m' := fun {b} h z => by
          obtain ⟨o, e⟩ := h
          rw [oy b z] at e
          cases e
        have alx : ∀ c ∈ supS x rd' od' m', ∃ o, Hk c = some o := fun c hc => by
          obtain ⟨o, e, _⟩ := wk.sx.al c hc
          exact ⟨o, e⟩
        have tkP := stpP.tk (hsyn.same so3).ntup
        have elo : el2 ≠ y2 ∧ el2 ≠ ody2 := by
          obtain ⟨_, q1, _⟩ := hsy2.al y2 (.head _)
          exact ⟨Ne.symm (ne_of_none q1 nel2), Ne.symm (ne_of_none hsy2.own nel2)⟩
        have ehel : Hp el2 = some (.lst (ps3.map V.ref)) := by
          refine stpP.fr _ _ (fun z => ?_) ((sn1.trans so3) _ _ hel2)
          rcases List.mem_cons.mp z with r | z
          · exact elo.1 r
          rcases List.mem_cons.mp z with r | z
          · exact elo.2 r
          · cases z
        have hslk : ∃ o, Hk sl = some o := by obtain ⟨ps5, e5, _⟩ := snk; exact ⟨_, e5⟩
        have snQ : SeenAt Hp sl (ct m') (T + r1) (3 * i + 3) := (snl.same slo).tk tkP fun o e => stpP.fr _ _ (alk hslk) e
        have seP : SeenAt Hp el2 (ct my3) (T + r1 + 1) (3 * (i + 1)) := by
          rw [ecP]
          obtain ⟨ps4, e4, l4, r4⟩ := snl.same slo
          have e34 : ps4.map V.ref = ps3.map V.ref := by
            have a := slo _ _ e3
            rw [e4] at a
            injection a with a
            injection a
          refine SeenAt.put (SeenAt.mono (T := T + r1) (n := 3 * i + 3) ⟨ps4, by rw [ehel, e34], l4, fun p hp => ?_⟩ (by omega) (by omega)) ?_
          · obtain ⟨k1, w1', v1, a1, a2, a3, a4⟩ := r4 p hp
            exact ⟨k1, w1', v1, tkP _ _ a1, a2, a3, a4.tk tkP⟩
          · show T + r1 + 1 ≤ (10 : Int) ^ (9 : Int).toNat
            rw [e9]
            omega
        have okyP : CtOk (ct my3) := by rw [ecP]; exact putC_ok okx okA.sh okA.kd eok2 (by rw [← esT_ct]; exact tlast)
        have tyP : tot (ct my3) ≤ 32 := by rw [ecP, tot_putC okx.nd]; omega
        have wo := wl.same slo
        have wQ : W17 (a 29) H Hp x rd' od' true os' sl y2 rd5 od5 false os5 el2 m' my3 (T + r1 + 1) (i + 1) := by
          have ysup : ∀ c ∈ supS y2 rd' ody2 m', c ≠ sl ∧ c ≠ el2 ∧ H c = none := fun c hc => by
            obtain ⟨o, eo, _⟩ := hsy2.al c hc
            refine ⟨?_, ne_of_none eo nel2, ?_⟩
            · rcases supF.mp hc with r | r | r | ⟨p, hp, r⟩
              · obtain ⟨o', e'⟩ := hslk
                exact r ▸ Ne.symm (ne_of_none e' ny2)
              · obtain ⟨o', e'⟩ := hslk
                exact r ▸ Ne.symm (ne_of_none e' nody2)
              · exact r ▸ (wk.slx rd' (supF.mpr (.inr (.inr (.inl rfl))))).1
              · exact (wk.slx c (supF.mpr (.inr (.inr (.inr ⟨p, hp, r⟩))))).1
            · rcases supF.mp hc with r | r | r | ⟨p, hp, r⟩
              · exact r ▸ wk.sm.free ny2
              · exact r ▸ wk.sm.free nody2
              · exact r ▸ (wk.slx rd' (supF.mpr (.inr (.inr (.inl rfl))))).2.2
              · exact (wk.slx c (supF.mpr (.inr (.inr (.inr ⟨p, hp, r⟩))))).2.2
          refine ⟨fun b o z => stpP.fr b o (alk ⟨_, wk.sm _ _ z⟩) (wo.sm _ _ z), wo.sx.step stpP (hsyn.same so3).ntup (fun c hc => alk (alx c hc)), hsP, wl.okx, okyP, wl.kx, wl.tx, ?_, wl.lx, ?_, wl.bx, fun c hc z => ?_, fun c hc z => ?_, fun c hc => ⟨(wk.slx c hc).1, ?_, (wk.slx c hc).2.2⟩, fun c hc => ?_, ?_, wl.f2, wl.T0, wl.T1⟩
          · rw [ecP, tot_putC okx.nd]
            have := wl.tx
            omega
          · have := congrArg List.length ecP
            have l2 := len_putC (ct m') "a" ⟨10 ^ (9 : Int).toNat, 1, 0, [7]⟩
            rw [← this, ct_len, ct_len] at l2
            omega
          · have z' : c = x ∨ c = od' := by
              rcases List.mem_cons.mp z with z | z
              · exact .inl z
              · rcases List.mem_cons.mp z with z | z
                · exact .inr z
                · cases z
            have ck : ∃ o, Hk c = some o := by
              rcases z' with r | r
              · exact r ▸ alx x (.head _)
              · exact r ▸ alx od' (.tail _ (.head _))
            rcases spP c hc with h | h
            · rcases supF.mp h with r | r | r | ⟨p, hp, r⟩
              · exact alk ck (r ▸ own_x)
              · exact alk ck (r ▸ own_od)
              · rcases z' with q' | q'
                · rw [← q', r, wk.sx.tab.dict] at hxk
                  cases hxk
                · exact wk.sx.nod (q'.symm.trans r)
              · obtain ⟨_, hl', _⟩ := wk.sx.tab.row p hp
                rw [r] at hl'
                rcases z' with q' | q'
                · rw [← q', hl'] at hxk
                  cases hxk
                · have ho := wk.sx.own
                  rw [← q', hl'] at ho
                  cases ho
            · have : ∃ o, Hl c = some o := by
                rcases z' with r | r
                · exact ⟨_, r ▸ hxl⟩
                · exact ⟨_, r ▸ wl.sx.own⟩
              obtain ⟨o, eo⟩ := this
              rw [slo.free h] at eo
              cases eo
          · obtain ⟨o, eo⟩ := alx c hc
            rcases stpP.ow c z with h | h
            · exact alk ⟨o, eo⟩ h
            · obtain ⟨o2, eo2, _⟩ := wl.sx.al c hc
              rw [slo.free h] at eo2
              cases eo2
          · obtain ⟨o2, eo2, _⟩ := wl.sx.al c hc
            exact ne_of_none eo2 nel2
          · rcases spP c hc with h | h
            · exact ysup c h
            · have a1 := slo _ _ e3
              have a2 := (sn1.trans so3) _ _ hel2
              exact ⟨Ne.symm (ne_of_none a1 h), Ne.symm (ne_of_none a2 h), wo.sm.free h⟩
          · exact ne_of_none e3 nel2
        -- what is told
        obtain ⟨dxp, hxp⟩ := wQ.sx.ins
        refine ⟨_, rfl, x, dxp, _, rfl, hxp, sf_no _ _ _ _ (by decide +kernel) (by decide +kernel) (by decide +kernel) (by decide +kernel), x, rd', od', true, os', "a", m', .non, rfl, wQ.sx, okA, fun rb Hq nrb sq hrb => ?_⟩
        refine ⟨.ref rb, .list ((esT m' "a").map entD), rfl, .dp hrb.dp, shA.sh, shA.dp, shA.sz, _, rfl, rfl, _, rfl, iteNS rfl ?_⟩
        have wq := wQ.same sq
        obtain ⟨dyq, hyq⟩ := wq.sy.ins
        refine ⟨_, rfl, y2, dyq, _, rfl, hyq, sf_no _ _ _ _ (by decide +kernel) (by decide +kernel) (by decide +kernel) (by decide +kernel), y2, rd5, od5, false, os5, "b", my3, .non, rfl, wq.sy, okB, fun va Hr sr hva => ?_⟩
        refine ⟨_, rfl, x, dxp, _, rfl, sr _ _ (sq _ _ hxp), sf_no _ _ _ _ (by decide +kernel) (by decide +kernel) (by decide +kernel) (by decide +kernel), x, rd', od', true, os', "b", m', .non, rfl, wq.sx.same sr, okB, fun vb Hs2 ss hvb => ?_⟩
        have eb : esT my3 "b" = esT m' "b" := by rw [esT_ct, esT_ct, ecP, esC_put, if_neg (by decide +kernel)]
        rw [eb] at hva
        refine ⟨lastD (esT m' "b"), lastD (esT m' "b"), (hva.tk (same_tk ss)).dp, hvb.dp, last_shaped, last_shaped, _, rfl, iteBF (by rw [last_eqv]; rfl) ?_⟩
        have sps : Same Hp Hs2 := sq.trans (sr.trans ss)
        have ws := wQ.same sps
        refine ⟨_, rfl, y2, rd5, od5, false, os5, my3, .non, rfl, ws.sy, okyP, by omega, fun Ht st => ?_⟩
        refine ⟨_, rfl, T + r1, 1, rfl, rfl, ?_⟩
        refine ⟨rd', od', true, os', y2, rd5, od5, false, os5, el2, m', my3, T + r1 + 1, _, _, _, _, _, _, _, _, _, _, rfl, ws.same st, ((snQ.same sps).same st).mono (by omega) (by omega), (seP.same sps).same st⟩
      · refine ⟨_, rfl, T + r1, 1, rfl, rfl, ?_⟩
        exact ⟨rd', od', false, os', y, rdy, ody, ley, osy, el, m', my, T + r1 + 1, _, _, _, _, _, _, _, _, _, _, rfl, wk, snk.mono (by omega) (by omega), sek.mono (by omega) (by omega)⟩
    · clear w1 sn1 se1 ny0 nody nel nsle frd fod nrd nod rd od
      rintro σ H4 ⟨rd, od, le, os, y, rdy, ody, ley, osy, el, m, my, T, v8, v9, v10, v11, v12, v13, v14, v15, v16, v17, rfl, w, sn, se⟩
      generalize hnn : (if (if ((ns.map V.int).length : Int) < 30 then ((ns.map V.int).length : Int) else 30) > 3 then (if ((ns.map V.int).length : Int) < 30 then ((ns.map V.int).length : Int) else 30) else (3 : Int)).toNat = nn at *
      have T0 := w.T0
      have T1 := w.T1
      have tx := w.tx
      have ty := w.ty
      have lx := w.lx
      refine ⟨_, rfl, l, ns, 0, rfl, w.sm.seq hS, hl, by decide, by decide, fun s H5 ns0 s5 hs5 => ?_⟩
      refine ⟨_, rfl, T, 1, rfl, rfl, s, _, rfl, hs5, by omega, by omega, fun wh H6 wh0 wh1 K6' => ?_⟩
      have s46 : Same H4 H6 := Kp.same s5 ns0 K6'
      have w6 := w.same s46
      have sn6 := sn.same s46
      have se6 := se.same s46
      obtain ⟨dx6, hx6⟩ := w6.sx.ins
      refine ⟨_, rfl, x, dx6, _, rfl, hx6, sf_no _ _ _ _ (by decide +kernel) (by decide +kernel) (by decide +kernel) (by decide +kernel), _, rfl, x, rd, od, le, os, m, .non, wh, rfl, w6.sx, .inl rfl, by omega, (fun p hp => by
        refine ⟨?_, (w.okx.ok (p.1, p.2.2) (List.mem_map.mpr ⟨p, hp, rfl⟩)).2.2.2.times⟩
        have := len_tot (c := ct m) (List.mem_map.mpr ⟨p, hp, rfl⟩ : (p.1, p.2.2) ∈ ct m)
        have e : (p.1, p.2.2).2.length = p.2.2.length := rfl
        omega), fun rd' od' os' m' H7 hs7 ec7 stp7 sp7 => ?_⟩
      have tk7 : Tk H6 H7 := stp7.tk w6.sx.ntup
      have es7 : ∀ k, esC (ct m') k = goE wh (esC (ct m) k) := fun k => by
        rw [ec7]
        unfold goC
        have : ∀ c : Ct, esC (c.map fun p => (p.1, goE wh p.2)) k = goE wh (esC c k) := by
          intro c
          induction c with
          | nil => rfl
          | cons p r ih =>
            rw [List.map_cons, esC_cons, esC_cons, ih]
            by_cases z : p.1 = k
            · rw [if_pos z, if_pos z]
            · rw [if_neg z, if_neg z]
        exact this _
      obtain ⟨psn, esn, hln, hall⟩ := sn6
      have esn7 := stp7.fr _ _ (fun z => (w6.slx _ (own_sup z)).1 rfl) esn
      refine ⟨_, rfl, ?_⟩
      refine ⟨_, rfl, sl, rfl, ⟨_, SqL.of esn7⟩, fun D nD => ?_⟩
      refine lc_list (K := K) (a := sl) (xs := psn.map V.ref) (fun j H' => Same H7 H' ∧ ∃ qs : List Addr, H' D = some (.lst (qs.map V.ref)) ∧ qs.length ≤ j ∧ ∀ p ∈ qs, ∃ (k : Str) (w : Int) (v : V), H7 p = some (.tup [.str k, .int w, v]) ∧ k ∈ K6 ∧ wh ≤ w ∧ WAt H7 v (atD (esC (ct m) k) w)) ⟨same_new (Same.refl H7) nD, [], (upd_same : upd H7 D (.lst []) D = some (.lst [])), Nat.le_refl _, fun p hp => by cases hp⟩ (fun j H' _ z => SqL.of (z.1 _ _ esn7)) ?_ ?_
      · rintro j vv H8 hv ⟨s8, qs, hD, hql, hqa⟩
        rw [List.getElem?_map] at hv
        obtain ⟨p, hp, rfl⟩ := Option.map_eq_some_iff.mp hv
        obtain ⟨k, wt, v, a1, a2, a3, a4⟩ := hall p (List.mem_of_getElem? hp)
        have a1' := tk7 _ _ a1
        have hj : j < psn.length := (List.getElem?_eq_some_iff.mp hp).1
        refine ⟨rfl, _, rfl, p, _, 1, _, rfl, rfl, SqT.of (s8 _ _ a1'), rfl, _, rfl, wt, wh, rfl, rfl, _, rfl, ?_⟩
        by_cases c : wh ≤ wt
        · refine iteDT c ⟨_, rfl, _, hD, ?_, fun b o z => ?_, qs ++ [p], ?_, ?_, fun p' hp' => ?_⟩
          · rw [List.length_map]
            exact Nat.lt_of_le_of_lt (show qs.length ≤ 1000 by omega) (by decide)
          · rw [upd_ne (ne_of_none z nD)]
            exact s8 b o z
          · rw [upd_same, List.map_append]
            rfl
          · rw [List.length_append]
            show qs.length + 1 ≤ j + 1
            omega
          · rcases List.mem_append.mp hp' with z | z
            · exact hqa p' z
            · rw [List.mem_singleton.mp z]
              exact ⟨k, wt, v, a1', a2, c, a4.tk tk7⟩
        · exact iteDF c ⟨s8, qs, hD, by omega, hqa⟩
      rintro H8 ⟨s8, qs, hD, hql, hqa⟩
      refine ⟨x, rd', od', false, os', D, m', .int wh, qs, rfl, hs7.same s8, hD, fun p hp => ?_, fun H9 s9 => ⟨_, rfl, iteT ?_⟩⟩
      · obtain ⟨k, wt, v, a1, a2, a3, a4⟩ := hqa p hp
        have pw := (w.okx.es k).2.times
        have ln := esC_len (ct m) k
        refine ⟨k, wt, v, s8 _ _ a1, a2, .inr ⟨wh, rfl, a3⟩, ?_, ?_, ?_⟩
        · rw [esT_ct, es7, at_go pw a3]
          exact a4.tk (same_tk s8)
        · rw [esT_ct, es7]
          unfold goE
          rw [List.length_drop]
          omega
        · rw [esT_ct, es7]
          unfold goE
          exact pw.drop
      have s79 := s8.trans s9
      obtain ⟨pse, ese, hle, halle⟩ := se6
      have ese7 := stp7.fr _ _ (fun z => (w6.slx _ (own_sup z)).2.1 rfl) ese
      have hsy7 := w6.sy.step stp7 w6.sx.ntup w6.dxy
      refine ⟨_, rfl, _, rfl, y, rdy, ody, ley, osy, el, my, .non, pse, rfl, hsy7.same s79, s79 _ _ ese7, fun p hp => ?_, fun HZ sZ => q _⟩
      obtain ⟨k, wt, v, a1, a2, a3, a4⟩ := halle p hp
      have ln := esC_len (ct my) k
      exact ⟨k, wt, v, s79 _ _ (tk7 _ _ a1), a2, .inl rfl, by rw [esT_ct]; exact (a4.tk tk7).tk (same_tk s79), by rw [esT_ct]; omega, by rw [esT_ct]; exact (w.oky.es k).2.times⟩

theorem all_mk {l : PySem.W.OpenLaw} {w : World} {K : PySem.W.Frag} {h : Heap} {mg : Str → Option Value} {fa : Addr} {f0 f1 f2 f3 f4 f5 f6 f7 f8 f9 f10 f11 f12 f13 f14 f15 f16 f17 f18 f19 f20 f21 f22 f23 f24 f25 f26 f27 f28 : Addr} (X : K.In h) (G : h.Ns mainGlobals mg) (hfa : mg "law" = some (.ref fa))
    {od0 od1 od2 od3 od4 od5 od6 od7 od8 od9 od10 od11 od12 od13 od14 od15 od16 od17 od18 od19 od20 od21 od22 od23 od24 od25 od26 od27 od28 : Option Addr} {an0 an1 an2 an3 an4 an5 an6 an7 an8 an9 an10 an11 an12 an13 an14 an15 an16 an17 an18 an19 an20 an21 an22 an23 an24 an25 an26 an27 an28 : Option Addr} {sl0 sl1 sl2 sl3 sl4 sl5 sl6 sl7 sl8 sl9 sl10 sl11 sl12 sl13 sl14 sl15 sl16 sl17 sl18 sl19 sl20 sl21 sl22 sl23 sl24 sl25 sl26 sl27 sl28 : Array (Option Value)} {oc0 kV0 dc0 pm0 cd0 ct0 oc1 kV1 dc1 pm1 cd1 ct1 oc2 kV2 dc2 pm2 cd2 ct2 oc3 kV3 dc3 pm3 cd3 ct3 oc4 kV4 dc4 pm4 cd4 ct4 oc5 kV5 dc5 pm5 cd5 ct5 oc6 kV6 dc6 pm6 cd6 ct6 oc7 kV7 dc7 pm7 cd7 ct7 oc8 kV8 dc8 pm8 cd8 ct8 oc9 kV9 dc9 pm9 cd9 ct9 oc10 kV10 dc10 pm10 cd10 ct10 oc11 kV11 dc11 pm11 cd11 ct11 oc12 kV12 dc12 pm12 cd12 ct12 oc13 kV13 dc13 pm13 cd13 ct13 oc14 kV14 dc14 pm14 cd14 ct14 oc15 kV15 dc15 pm15 cd15 ct15 oc16 kV16 dc16 pm16 cd16 ct16 oc17 kV17 dc17 pm17 cd17 ct17 oc18 kV18 dc18 pm18 cd18 ct18 oc19 kV19 dc19 pm19 cd19 ct19 oc20 kV20 dc20 pm20 cd20 ct20 oc21 kV21 dc21 pm21 cd21 ct21 oc22 kV22 dc22 pm22 cd22 ct22 oc23 kV23 dc23 pm23 cd23 ct23 oc24 kV24 dc24 pm24 cd24 ct24 oc25 kV25 dc25 pm25 cd25 ct25 oc26 kV26 dc26 pm26 cd26 ct26 oc27 kV27 dc27 pm27 cd27 ct27 oc28 kV28 dc28 pm28 cd28 ct28 : Value}
    {fC : Addr}
    {t30 : Tok}
    {t31 : Tok}
    {t32 : Tok}
    (g30 : PySem.W.nsIn K mainGlobals "LETTERS" = some (some (.str "abcdefghijklmnopqrstuvwxyz" t30)))
    (g31 : PySem.W.nsIn K mainGlobals "MOST_LETTERS" = some (some (.int (6) t31)))
    (g32 : PySem.W.nsIn K mainGlobals "MOST_FIELDS" = some (some (.int (4) t32)))
    (aC : PySem.W.nsIn K mainGlobals "Shelf" = some (some (.ref fC))) (pg : PySem.W.plainGet K fC Str.empty = true) (hd : PySem.W.hasDictIn K fC = true) (po : PySem.W.plainOver K fC = true) (sa : PySem.W.findIn K (.ref fC) "__setattr__" = some (some (.builtin "object.__setattr__"))) (mk : PySem.W.makesIn K fC = true) (kc : PySem.W.keepIn K (.ref fC) = true)
    (nf_rows : PySem.W.findIn K (.ref fC) "rows" = some none)
    (nf_let_go_to : PySem.W.findIn K (.ref fC) "let_go_to" = some none)
    (nf_lent : PySem.W.findIn K (.ref fC) "lent" = some none)
    (nf_own_rows : PySem.W.findIn K (.ref fC) "own_rows" = some none)
    (nf___bool__ : PySem.W.findIn K (.ref fC) "__bool__" = some none)
    (a0 : PySem.W.nsIn K mainGlobals "is_whole" = some (some (.ref f0)))
    (l0 : K.lookup f0 = some ⟨oc0, od0, .func (PySem.W.fnOf "is_whole" "is_whole" (defArgs s_is_whole) (defBody s_is_whole) (defScope s_is_whole) .none kV0 dc0 pm0 an0 cd0 ct0), sl0⟩) (c0 : PySem.W.codeIn K cd0 "is_whole" = true) (k0 : PySem.W.keepIn K (.ref f0) = true)
    (a1 : PySem.W.nsIn K mainGlobals "is_row_of_whole" = some (some (.ref f1)))
    (l1 : K.lookup f1 = some ⟨oc1, od1, .func (PySem.W.fnOf "is_row_of_whole" "is_row_of_whole" (defArgs s_is_row_of_whole) (defBody s_is_row_of_whole) (defScope s_is_row_of_whole) .none kV1 dc1 pm1 an1 cd1 ct1), sl1⟩) (c1 : PySem.W.codeIn K cd1 "is_row_of_whole" = true) (k1 : PySem.W.keepIn K (.ref f1) = true)
    (a2 : PySem.W.nsIn K mainGlobals "is_stamp" = some (some (.ref f2)))
    (l2 : K.lookup f2 = some ⟨oc2, od2, .func (PySem.W.fnOf "is_stamp" "is_stamp" (defArgs s_is_stamp) (defBody s_is_stamp) (defScope s_is_stamp) .none kV2 dc2 pm2 an2 cd2 ct2), sl2⟩) (c2 : PySem.W.codeIn K cd2 "is_stamp" = true) (k2 : PySem.W.keepIn K (.ref f2) = true)
    (a3 : PySem.W.nsIn K mainGlobals "is_key" = some (some (.ref f3)))
    (l3 : K.lookup f3 = some ⟨oc3, od3, .func (PySem.W.fnOf "is_key" "is_key" (defArgs s_is_key) (defBody s_is_key) (defScope s_is_key) .none kV3 dc3 pm3 an3 cd3 ct3), sl3⟩) (c3 : PySem.W.codeIn K cd3 "is_key" = true) (k3 : PySem.W.keepIn K (.ref f3) = true)
    (a4 : PySem.W.nsIn K mainGlobals "is_worth" = some (some (.ref f4)))
    (l4 : K.lookup f4 = some ⟨oc4, od4, .func (PySem.W.fnOf "is_worth" "is_worth" (defArgs s_is_worth) (defBody s_is_worth) (defScope s_is_worth) .none kV4 dc4 pm4 an4 cd4 ct4), sl4⟩) (c4 : PySem.W.codeIn K cd4 "is_worth" = true) (k4 : PySem.W.keepIn K (.ref f4) = true)
    (a5 : PySem.W.nsIn K mainGlobals "refuse_no_key" = some (some (.ref f5)))
    (l5 : K.lookup f5 = some ⟨oc5, od5, .func (PySem.W.fnOf "refuse_no_key" "refuse_no_key" (defArgs s_refuse_no_key) (defBody s_refuse_no_key) (defScope s_refuse_no_key) .none kV5 dc5 pm5 an5 cd5 ct5), sl5⟩) (c5 : PySem.W.codeIn K cd5 "refuse_no_key" = true) (k5 : PySem.W.keepIn K (.ref f5) = true)
    (a6 : PySem.W.nsIn K mainGlobals "refuse_no_time" = some (some (.ref f6)))
    (l6 : K.lookup f6 = some ⟨oc6, od6, .func (PySem.W.fnOf "refuse_no_time" "refuse_no_time" (defArgs s_refuse_no_time) (defBody s_refuse_no_time) (defScope s_refuse_no_time) .none kV6 dc6 pm6 an6 cd6 ct6), sl6⟩) (c6 : PySem.W.codeIn K cd6 "refuse_no_time" = true) (k6 : PySem.W.keepIn K (.ref f6) = true)
    (a7 : PySem.W.nsIn K mainGlobals "many_up_to" = some (some (.ref f7)))
    (l7 : K.lookup f7 = some ⟨oc7, od7, .func (PySem.W.fnOf "many_up_to" "many_up_to" (defArgs s_many_up_to) (defBody s_many_up_to) (defScope s_many_up_to) .none kV7 dc7 pm7 an7 cd7 ct7), sl7⟩) (c7 : PySem.W.codeIn K cd7 "many_up_to" = true) (k7 : PySem.W.keepIn K (.ref f7) = true)
    (a8 : PySem.W.findIn K (.ref fC) "__init__" = some (some (.ref f8))) (i8 : PySem.W.isFn K (.ref f8) = true)
    (l8 : K.lookup f8 = some ⟨oc8, od8, .func (PySem.W.fnOf "__init__" "Shelf.__init__" (defArgs s_Shelf___init__) (defBody s_Shelf___init__) (defScope s_Shelf___init__) .none kV8 dc8 pm8 an8 cd8 ct8), sl8⟩) (c8 : PySem.W.codeIn K cd8 "Shelf.__init__" = true) (k8 : PySem.W.keepIn K (.ref f8) = true)
    (a9 : PySem.W.findIn K (.ref fC) "row_of" = some (some (.ref f9))) (i9 : PySem.W.isFn K (.ref f9) = true)
    (l9 : K.lookup f9 = some ⟨oc9, od9, .func (PySem.W.fnOf "row_of" "Shelf.row_of" (defArgs s_Shelf_row_of) (defBody s_Shelf_row_of) (defScope s_Shelf_row_of) .none kV9 dc9 pm9 an9 cd9 ct9), sl9⟩) (c9 : PySem.W.codeIn K cd9 "Shelf.row_of" = true) (k9 : PySem.W.keepIn K (.ref f9) = true)
    (a10 : PySem.W.findIn K (.ref fC) "make_own" = some (some (.ref f10))) (i10 : PySem.W.isFn K (.ref f10) = true)
    (l10 : K.lookup f10 = some ⟨oc10, od10, .func (PySem.W.fnOf "make_own" "Shelf.make_own" (defArgs s_Shelf_make_own) (defBody s_Shelf_make_own) (defScope s_Shelf_make_own) .none kV10 dc10 pm10 an10 cd10 ct10), sl10⟩) (c10 : PySem.W.codeIn K cd10 "Shelf.make_own" = true) (k10 : PySem.W.keepIn K (.ref f10) = true)
    (a11 : PySem.W.findIn K (.ref fC) "put" = some (some (.ref f11))) (i11 : PySem.W.isFn K (.ref f11) = true)
    (l11 : K.lookup f11 = some ⟨oc11, od11, .func (PySem.W.fnOf "put" "Shelf.put" (defArgs s_Shelf_put) (defBody s_Shelf_put) (defScope s_Shelf_put) .none kV11 dc11 pm11 an11 cd11 ct11), sl11⟩) (c11 : PySem.W.codeIn K cd11 "Shelf.put" = true) (k11 : PySem.W.keepIn K (.ref f11) = true)
    (a12 : PySem.W.findIn K (.ref fC) "versions" = some (some (.ref f12))) (i12 : PySem.W.isFn K (.ref f12) = true)
    (l12 : K.lookup f12 = some ⟨oc12, od12, .func (PySem.W.fnOf "versions" "Shelf.versions" (defArgs s_Shelf_versions) (defBody s_Shelf_versions) (defScope s_Shelf_versions) .none kV12 dc12 pm12 an12 cd12 ct12), sl12⟩) (c12 : PySem.W.codeIn K cd12 "Shelf.versions" = true) (k12 : PySem.W.keepIn K (.ref f12) = true)
    (a13 : PySem.W.findIn K (.ref fC) "all_keys" = some (some (.ref f13))) (i13 : PySem.W.isFn K (.ref f13) = true)
    (l13 : K.lookup f13 = some ⟨oc13, od13, .func (PySem.W.fnOf "all_keys" "Shelf.all_keys" (defArgs s_Shelf_all_keys) (defBody s_Shelf_all_keys) (defScope s_Shelf_all_keys) .none kV13 dc13 pm13 an13 cd13 ct13), sl13⟩) (c13 : PySem.W.codeIn K cd13 "Shelf.all_keys" = true) (k13 : PySem.W.keepIn K (.ref f13) = true)
    (a14 : PySem.W.findIn K (.ref fC) "newest" = some (some (.ref f14))) (i14 : PySem.W.isFn K (.ref f14) = true)
    (l14 : K.lookup f14 = some ⟨oc14, od14, .func (PySem.W.fnOf "newest" "Shelf.newest" (defArgs s_Shelf_newest) (defBody s_Shelf_newest) (defScope s_Shelf_newest) .none kV14 dc14 pm14 an14 cd14 ct14), sl14⟩) (c14 : PySem.W.codeIn K cd14 "Shelf.newest" = true) (k14 : PySem.W.keepIn K (.ref f14) = true)
    (a15 : PySem.W.findIn K (.ref fC) "refuse_gone" = some (some (.ref f15))) (i15 : PySem.W.isFn K (.ref f15) = true)
    (l15 : K.lookup f15 = some ⟨oc15, od15, .func (PySem.W.fnOf "refuse_gone" "Shelf.refuse_gone" (defArgs s_Shelf_refuse_gone) (defBody s_Shelf_refuse_gone) (defScope s_Shelf_refuse_gone) .none kV15 dc15 pm15 an15 cd15 ct15), sl15⟩) (c15 : PySem.W.codeIn K cd15 "Shelf.refuse_gone" = true) (k15 : PySem.W.keepIn K (.ref f15) = true)
    (a16 : PySem.W.findIn K (.ref fC) "at" = some (some (.ref f16))) (i16 : PySem.W.isFn K (.ref f16) = true)
    (l16 : K.lookup f16 = some ⟨oc16, od16, .func (PySem.W.fnOf "at" "Shelf.at" (defArgs s_Shelf_at) (defBody s_Shelf_at) (defScope s_Shelf_at) .none kV16 dc16 pm16 an16 cd16 ct16), sl16⟩) (c16 : PySem.W.codeIn K cd16 "Shelf.at" = true) (k16 : PySem.W.keepIn K (.ref f16) = true)
    (a17 : PySem.W.findIn K (.ref fC) "__len__" = some (some (.ref f17))) (i17 : PySem.W.isFn K (.ref f17) = true)
    (l17 : K.lookup f17 = some ⟨oc17, od17, .func (PySem.W.fnOf "__len__" "Shelf.__len__" (defArgs s_Shelf___len__) (defBody s_Shelf___len__) (defScope s_Shelf___len__) .none kV17 dc17 pm17 an17 cd17 ct17), sl17⟩) (c17 : PySem.W.codeIn K cd17 "Shelf.__len__" = true) (k17 : PySem.W.keepIn K (.ref f17) = true)
    (a18 : PySem.W.findIn K (.ref fC) "let_go" = some (some (.ref f18))) (i18 : PySem.W.isFn K (.ref f18) = true)
    (l18 : K.lookup f18 = some ⟨oc18, od18, .func (PySem.W.fnOf "let_go" "Shelf.let_go" (defArgs s_Shelf_let_go) (defBody s_Shelf_let_go) (defScope s_Shelf_let_go) .none kV18 dc18 pm18 an18 cd18 ct18), sl18⟩) (c18 : PySem.W.codeIn K cd18 "Shelf.let_go" = true) (k18 : PySem.W.keepIn K (.ref f18) = true)
    (a19 : PySem.W.findIn K (.ref fC) "parts" = some (some (.ref f19))) (i19 : PySem.W.isFn K (.ref f19) = true)
    (l19 : K.lookup f19 = some ⟨oc19, od19, .func (PySem.W.fnOf "parts" "Shelf.parts" (defArgs s_Shelf_parts) (defBody s_Shelf_parts) (defScope s_Shelf_parts) .none kV19 dc19 pm19 an19 cd19 ct19), sl19⟩) (c19 : PySem.W.codeIn K cd19 "Shelf.parts" = true) (k19 : PySem.W.keepIn K (.ref f19) = true)
    (a20 : PySem.W.findIn K (.ref fC) "put_parts" = some (some (.ref f20))) (i20 : PySem.W.isFn K (.ref f20) = true)
    (l20 : K.lookup f20 = some ⟨oc20, od20, .func (PySem.W.fnOf "put_parts" "Shelf.put_parts" (defArgs s_Shelf_put_parts) (defBody s_Shelf_put_parts) (defScope s_Shelf_put_parts) .none kV20 dc20 pm20 an20 cd20 ct20), sl20⟩) (c20 : PySem.W.codeIn K cd20 "Shelf.put_parts" = true) (k20 : PySem.W.keepIn K (.ref f20) = true)
    (a21 : PySem.W.findIn K (.ref fC) "twin" = some (some (.ref f21))) (i21 : PySem.W.isFn K (.ref f21) = true)
    (l21 : K.lookup f21 = some ⟨oc21, od21, .func (PySem.W.fnOf "twin" "Shelf.twin" (defArgs s_Shelf_twin) (defBody s_Shelf_twin) (defScope s_Shelf_twin) .none kV21 dc21 pm21 an21 cd21 ct21), sl21⟩) (c21 : PySem.W.codeIn K cd21 "Shelf.twin" = true) (k21 : PySem.W.keepIn K (.ref f21) = true)
    (a22 : PySem.W.nsIn K mainGlobals "_law_begun" = some (some (.ref f22)))
    (l22 : K.lookup f22 = some ⟨oc22, od22, .func (PySem.W.fnOf "_law_begun" "_law_begun" (defArgs s_l_begun) (defBody s_l_begun) (defScope s_l_begun) .none kV22 dc22 pm22 an22 cd22 ct22), sl22⟩) (c22 : PySem.W.codeIn K cd22 "_law_begun" = true) (k22 : PySem.W.keepIn K (.ref f22) = true)
    (a23 : PySem.W.nsIn K mainGlobals "_law_take" = some (some (.ref f23)))
    (l23 : K.lookup f23 = some ⟨oc23, od23, .func (PySem.W.fnOf "_law_take" "_law_take" (defArgs s_l_take) (defBody s_l_take) (defScope s_l_take) .none kV23 dc23 pm23 an23 cd23 ct23), sl23⟩) (c23 : PySem.W.codeIn K cd23 "_law_take" = true) (k23 : PySem.W.keepIn K (.ref f23) = true)
    (a24 : PySem.W.nsIn K mainGlobals "_law_key" = some (some (.ref f24)))
    (l24 : K.lookup f24 = some ⟨oc24, od24, .func (PySem.W.fnOf "_law_key" "_law_key" (defArgs s_l_key) (defBody s_l_key) (defScope s_l_key) .none kV24 dc24 pm24 an24 cd24 ct24), sl24⟩) (c24 : PySem.W.codeIn K cd24 "_law_key" = true) (k24 : PySem.W.keepIn K (.ref f24) = true)
    (a25 : PySem.W.nsIn K mainGlobals "_law_worth" = some (some (.ref f25)))
    (l25 : K.lookup f25 = some ⟨oc25, od25, .func (PySem.W.fnOf "_law_worth" "_law_worth" (defArgs s_l_worth) (defBody s_l_worth) (defScope s_l_worth) .none kV25 dc25 pm25 an25 cd25 ct25), sl25⟩) (c25 : PySem.W.codeIn K cd25 "_law_worth" = true) (k25 : PySem.W.keepIn K (.ref f25) = true)
    (a26 : PySem.W.nsIn K mainGlobals "_law_again" = some (some (.ref f26)))
    (l26 : K.lookup f26 = some ⟨oc26, od26, .func (PySem.W.fnOf "_law_again" "_law_again" (defArgs s_l_again) (defBody s_l_again) (defScope s_l_again) .none kV26 dc26 pm26 an26 cd26 ct26), sl26⟩) (c26 : PySem.W.codeIn K cd26 "_law_again" = true) (k26 : PySem.W.keepIn K (.ref f26) = true)
    (a27 : PySem.W.nsIn K mainGlobals "_law_all" = some (some (.ref f27)))
    (l27 : K.lookup f27 = some ⟨oc27, od27, .func (PySem.W.fnOf "_law_all" "_law_all" (defArgs s_l_all) (defBody s_l_all) (defScope s_l_all) .none kV27 dc27 pm27 an27 cd27 ct27), sl27⟩) (c27 : PySem.W.codeIn K cd27 "_law_all" = true) (k27 : PySem.W.keepIn K (.ref f27) = true)
    (a28 : PySem.W.nsIn K mainGlobals "law" = some (some (.ref f28)))
    (l28 : K.lookup f28 = some ⟨oc28, od28, .func (PySem.W.fnOf "law" "law" (defArgs s_law) (defBody s_law) (defScope s_law) .none kV28 dc28 pm28 an28 cd28 ct28), sl28⟩) (c28 : PySem.W.codeIn K cd28 "law" = true) (k28 : PySem.W.keepIn K (.ref f28) = true)
    (z_max : PySem.W.nsIn K mainGlobals "max" = some none)
    (z_min : PySem.W.nsIn K mainGlobals "min" = some none)
    (z_len : PySem.W.nsIn K mainGlobals "len" = some none)
    (z_int : PySem.W.nsIn K mainGlobals "int" = some none)
    (z_range : PySem.W.nsIn K mainGlobals "range" = some none)
    (z_isinstance : PySem.W.nsIn K mainGlobals "isinstance" = some none)
    (z_bool : PySem.W.nsIn K mainGlobals "bool" = some none)
    (z_tuple : PySem.W.nsIn K mainGlobals "tuple" = some none)
    (z_all : PySem.W.nsIn K mainGlobals "all" = some none)
    (z_repr : PySem.W.nsIn K mainGlobals "repr" = some none)
    (z_list : PySem.W.nsIn K mainGlobals "list" = some none)
    (z_str : PySem.W.nsIn K mainGlobals "str" = some none)
    (z_sorted : PySem.W.nsIn K mainGlobals "sorted" = some none)
    (z_sum : PySem.W.nsIn K mainGlobals "sum" = some none)
    (z_dict : PySem.W.nsIn K mainGlobals "dict" = some none)
    : ∃ fd : FuncData, (∀ (s : Shared) (v : Value), BindsTo s fd ⟨[v], []⟩ [("_law_script", v)]) ∧ ∀ base : Heap, K.In base → base.Ns mainGlobals mg → FnG l.prog w K mg base 9 fa fd ["_law_script"] (spLaw K) := by
  have e := hfa.symm.trans (PySem.W.mg_of X G a28)
  cases e
  have F0 := fun_mk (st := s_is_whole) l0 c0 k0
  have b0 := F0.binds (ps := ["thing"]) fun _ _ _ _ _ _ us hl => match us, hl with | [_], _ => rfl
  have F1 := fun_mk (st := s_is_row_of_whole) l1 c1 k1
  have b1 := F1.binds (ps := ["thing", "least", "most"]) fun _ _ _ _ _ _ us hl => match us, hl with | [_, _, _], _ => rfl
  have F2 := fun_mk (st := s_is_stamp) l2 c2 k2
  have b2 := F2.binds (ps := ["thing"]) fun _ _ _ _ _ _ us hl => match us, hl with | [_], _ => rfl
  have F3 := fun_mk (st := s_is_key) l3 c3 k3
  have b3 := F3.binds (ps := ["thing"]) fun _ _ _ _ _ _ us hl => match us, hl with | [_], _ => rfl
  have F4 := fun_mk (st := s_is_worth) l4 c4 k4
  have b4 := F4.binds (ps := ["thing"]) fun _ _ _ _ _ _ us hl => match us, hl with | [_], _ => rfl
  have F5 := fun_mk (st := s_refuse_no_key) l5 c5 k5
  have b5 := F5.binds (ps := ["thing"]) fun _ _ _ _ _ _ us hl => match us, hl with | [_], _ => rfl
  have F6 := fun_mk (st := s_refuse_no_time) l6 c6 k6
  have b6 := F6.binds (ps := ["thing"]) fun _ _ _ _ _ _ us hl => match us, hl with | [_], _ => rfl
  have F7 := fun_mk (st := s_many_up_to) l7 c7 k7
  have b7 := F7.binds (ps := ["row", "time"]) fun _ _ _ _ _ _ us hl => match us, hl with | [_, _], _ => rfl
  have F8 := fun_mk (st := s_Shelf___init__) l8 c8 k8
  have b8 := F8.binds (ps := ["self"]) fun _ _ _ _ _ _ us hl => match us, hl with | [_], _ => rfl
  have F9 := fun_mk (st := s_Shelf_row_of) l9 c9 k9
  have b9 := F9.binds (ps := ["self", "key"]) fun _ _ _ _ _ _ us hl => match us, hl with | [_, _], _ => rfl
  have F10 := fun_mk (st := s_Shelf_make_own) l10 c10 k10
  have b10 := F10.binds (ps := ["self"]) fun _ _ _ _ _ _ us hl => match us, hl with | [_], _ => rfl
  have F11 := fun_mk (st := s_Shelf_put) l11 c11 k11
  have b11 := F11.binds (ps := ["self", "key", "stamp", "worth"]) fun _ _ _ _ _ _ us hl => match us, hl with | [_, _, _, _], _ => rfl
  have F12 := fun_mk (st := s_Shelf_versions) l12 c12 k12
  have b12 := F12.binds (ps := ["self", "key"]) fun _ _ _ _ _ _ us hl => match us, hl with | [_, _], _ => rfl
  have F13 := fun_mk (st := s_Shelf_all_keys) l13 c13 k13
  have b13 := F13.binds (ps := ["self"]) fun _ _ _ _ _ _ us hl => match us, hl with | [_], _ => rfl
  have F14 := fun_mk (st := s_Shelf_newest) l14 c14 k14
  have b14 := F14.binds (ps := ["self", "key"]) fun _ _ _ _ _ _ us hl => match us, hl with | [_, _], _ => rfl
  have F15 := fun_mk (st := s_Shelf_refuse_gone) l15 c15 k15
  have b15 := F15.binds (ps := ["self", "time"]) fun _ _ _ _ _ _ us hl => match us, hl with | [_, _], _ => rfl
  have F16 := fun_mk (st := s_Shelf_at) l16 c16 k16
  have b16 := F16.binds (ps := ["self", "key", "time"]) fun _ _ _ _ _ _ us hl => match us, hl with | [_, _, _], _ => rfl
  have F17 := fun_mk (st := s_Shelf___len__) l17 c17 k17
  have b17 := F17.binds (ps := ["self"]) fun _ _ _ _ _ _ us hl => match us, hl with | [_], _ => rfl
  have F18 := fun_mk (st := s_Shelf_let_go) l18 c18 k18
  have b18 := F18.binds (ps := ["self", "time"]) fun _ _ _ _ _ _ us hl => match us, hl with | [_, _], _ => rfl
  have F19 := fun_mk (st := s_Shelf_parts) l19 c19 k19
  have b19 := F19.binds (ps := ["self"]) fun _ _ _ _ _ _ us hl => match us, hl with | [_], _ => rfl
  have F20 := fun_mk (st := s_Shelf_put_parts) l20 c20 k20
  have b20 := F20.binds (ps := ["self", "parts"]) fun _ _ _ _ _ _ us hl => match us, hl with | [_, _], _ => rfl
  have F21 := fun_mk (st := s_Shelf_twin) l21 c21 k21
  have b21 := F21.binds (ps := ["self"]) fun _ _ _ _ _ _ us hl => match us, hl with | [_], _ => rfl
  have F22 := fun_mk (st := s_l_begun) l22 c22 k22
  have b22 := F22.binds (ps := ["_law_script", "_law_k"]) fun _ _ _ _ _ _ us hl => match us, hl with | [_, _], _ => rfl
  have F23 := fun_mk (st := s_l_take) l23 c23 k23
  have b23 := F23.binds (ps := ["_law_state", "_law_many"]) fun _ _ _ _ _ _ us hl => match us, hl with | [_, _], _ => rfl
  have F24 := fun_mk (st := s_l_key) l24 c24 k24
  have b24 := F24.binds (ps := ["_law_state"]) fun _ _ _ _ _ _ us hl => match us, hl with | [_], _ => rfl
  have F25 := fun_mk (st := s_l_worth) l25 c25 k25
  have b25 := F25.binds (ps := ["_law_state"]) fun _ _ _ _ _ _ us hl => match us, hl with | [_], _ => rfl
  have F26 := fun_mk (st := s_l_again) l26 c26 k26
  have b26 := F26.binds (ps := ["_law_shelf", "_law_seen"]) fun _ _ _ _ _ _ us hl => match us, hl with | [_, _], _ => rfl
  have F27 := fun_mk (st := s_l_all) l27 c27 k27
  have b27 := F27.binds (ps := ["_law_shelf"]) fun _ _ _ _ _ _ us hl => match us, hl with | [_], _ => rfl
  have F28 := fun_mk (st := s_law) l28 c28 k28
  have b28 := F28.binds (ps := ["_law_script"]) fun _ _ _ _ _ _ us hl => match us, hl with | [_], _ => rfl
  let a : Nat → Addr := fun i => match i with | 0 => f0 | 1 => f1 | 2 => f2 | 3 => f3 | 4 => f4 | 5 => f5 | 6 => f6 | 7 => f7 | 8 => f8 | 9 => f9 | 10 => f10 | 11 => f11 | 12 => f12 | 13 => f13 | 14 => f14 | 15 => f15 | 16 => f16 | 17 => f17 | 18 => f18 | 19 => f19 | 20 => f20 | 21 => f21 | 22 => f22 | 23 => f23 | 24 => f24 | 25 => f25 | 26 => f26 | 27 => f27 | 28 => fa | 29 => fC | _ => 0
  let d : Nat → FuncData := fun i => match i with | 0 => (PySem.W.fnOf "is_whole" "is_whole" (defArgs s_is_whole) (defBody s_is_whole) (defScope s_is_whole) .none kV0 dc0 pm0 an0 cd0 ct0) | 1 => (PySem.W.fnOf "is_row_of_whole" "is_row_of_whole" (defArgs s_is_row_of_whole) (defBody s_is_row_of_whole) (defScope s_is_row_of_whole) .none kV1 dc1 pm1 an1 cd1 ct1) | 2 => (PySem.W.fnOf "is_stamp" "is_stamp" (defArgs s_is_stamp) (defBody s_is_stamp) (defScope s_is_stamp) .none kV2 dc2 pm2 an2 cd2 ct2) | 3 => (PySem.W.fnOf "is_key" "is_key" (defArgs s_is_key) (defBody s_is_key) (defScope s_is_key) .none kV3 dc3 pm3 an3 cd3 ct3) | 4 => (PySem.W.fnOf "is_worth" "is_worth" (defArgs s_is_worth) (defBody s_is_worth) (defScope s_is_worth) .none kV4 dc4 pm4 an4 cd4 ct4) | 5 => (PySem.W.fnOf "refuse_no_key" "refuse_no_key" (defArgs s_refuse_no_key) (defBody s_refuse_no_key) (defScope s_refuse_no_key) .none kV5 dc5 pm5 an5 cd5 ct5) | 6 => (PySem.W.fnOf "refuse_no_time" "refuse_no_time" (defArgs s_refuse_no_time) (defBody s_refuse_no_time) (defScope s_refuse_no_time) .none kV6 dc6 pm6 an6 cd6 ct6) | 7 => (PySem.W.fnOf "many_up_to" "many_up_to" (defArgs s_many_up_to) (defBody s_many_up_to) (defScope s_many_up_to) .none kV7 dc7 pm7 an7 cd7 ct7) | 8 => (PySem.W.fnOf "__init__" "Shelf.__init__" (defArgs s_Shelf___init__) (defBody s_Shelf___init__) (defScope s_Shelf___init__) .none kV8 dc8 pm8 an8 cd8 ct8) | 9 => (PySem.W.fnOf "row_of" "Shelf.row_of" (defArgs s_Shelf_row_of) (defBody s_Shelf_row_of) (defScope s_Shelf_row_of) .none kV9 dc9 pm9 an9 cd9 ct9) | 10 => (PySem.W.fnOf "make_own" "Shelf.make_own" (defArgs s_Shelf_make_own) (defBody s_Shelf_make_own) (defScope s_Shelf_make_own) .none kV10 dc10 pm10 an10 cd10 ct10) | 11 => (PySem.W.fnOf "put" "Shelf.put" (defArgs s_Shelf_put) (defBody s_Shelf_put) (defScope s_Shelf_put) .none kV11 dc11 pm11 an11 cd11 ct11) | 12 => (PySem.W.fnOf "versions" "Shelf.versions" (defArgs s_Shelf_versions) (defBody s_Shelf_versions) (defScope s_Shelf_versions) .none kV12 dc12 pm12 an12 cd12 ct12) | 13 => (PySem.W.fnOf "all_keys" "Shelf.all_keys" (defArgs s_Shelf_all_keys) (defBody s_Shelf_all_keys) (defScope s_Shelf_all_keys) .none kV13 dc13 pm13 an13 cd13 ct13) | 14 => (PySem.W.fnOf "newest" "Shelf.newest" (defArgs s_Shelf_newest) (defBody s_Shelf_newest) (defScope s_Shelf_newest) .none kV14 dc14 pm14 an14 cd14 ct14) | 15 => (PySem.W.fnOf "refuse_gone" "Shelf.refuse_gone" (defArgs s_Shelf_refuse_gone) (defBody s_Shelf_refuse_gone) (defScope s_Shelf_refuse_gone) .none kV15 dc15 pm15 an15 cd15 ct15) | 16 => (PySem.W.fnOf "at" "Shelf.at" (defArgs s_Shelf_at) (defBody s_Shelf_at) (defScope s_Shelf_at) .none kV16 dc16 pm16 an16 cd16 ct16) | 17 => (PySem.W.fnOf "__len__" "Shelf.__len__" (defArgs s_Shelf___len__) (defBody s_Shelf___len__) (defScope s_Shelf___len__) .none kV17 dc17 pm17 an17 cd17 ct17) | 18 => (PySem.W.fnOf "let_go" "Shelf.let_go" (defArgs s_Shelf_let_go) (defBody s_Shelf_let_go) (defScope s_Shelf_let_go) .none kV18 dc18 pm18 an18 cd18 ct18) | 19 => (PySem.W.fnOf "parts" "Shelf.parts" (defArgs s_Shelf_parts) (defBody s_Shelf_parts) (defScope s_Shelf_parts) .none kV19 dc19 pm19 an19 cd19 ct19) | 20 => (PySem.W.fnOf "put_parts" "Shelf.put_parts" (defArgs s_Shelf_put_parts) (defBody s_Shelf_put_parts) (defScope s_Shelf_put_parts) .none kV20 dc20 pm20 an20 cd20 ct20) | 21 => (PySem.W.fnOf "twin" "Shelf.twin" (defArgs s_Shelf_twin) (defBody s_Shelf_twin) (defScope s_Shelf_twin) .none kV21 dc21 pm21 an21 cd21 ct21) | 22 => (PySem.W.fnOf "_law_begun" "_law_begun" (defArgs s_l_begun) (defBody s_l_begun) (defScope s_l_begun) .none kV22 dc22 pm22 an22 cd22 ct22) | 23 => (PySem.W.fnOf "_law_take" "_law_take" (defArgs s_l_take) (defBody s_l_take) (defScope s_l_take) .none kV23 dc23 pm23 an23 cd23 ct23) | 24 => (PySem.W.fnOf "_law_key" "_law_key" (defArgs s_l_key) (defBody s_l_key) (defScope s_l_key) .none kV24 dc24 pm24 an24 cd24 ct24) | 25 => (PySem.W.fnOf "_law_worth" "_law_worth" (defArgs s_l_worth) (defBody s_l_worth) (defScope s_l_worth) .none kV25 dc25 pm25 an25 cd25 ct25) | 26 => (PySem.W.fnOf "_law_again" "_law_again" (defArgs s_l_again) (defBody s_l_again) (defScope s_l_again) .none kV26 dc26 pm26 an26 cd26 ct26) | 27 => (PySem.W.fnOf "_law_all" "_law_all" (defArgs s_l_all) (defBody s_l_all) (defScope s_l_all) .none kV27 dc27 pm27 an27 cd27 ct27) | 28 => (PySem.W.fnOf "law" "law" (defArgs s_law) (defBody s_law) (defScope s_law) .none kV28 dc28 pm28 an28 cd28 ct28) | _ => (PySem.W.fnOf "law" "law" (defArgs s_law) (defBody s_law) (defScope s_law) .none kV28 dc28 pm28 an28 cd28 ct28)
  have T : Txt K mg a d := ⟨PySem.W.mg_of X G a0, F0, b0, PySem.W.mg_of X G a1, F1, b1, PySem.W.mg_of X G a2, F2, b2, PySem.W.mg_of X G a3, F3, b3, PySem.W.mg_of X G a4, F4, b4, PySem.W.mg_of X G a5, F5, b5, PySem.W.mg_of X G a6, F6, b6, PySem.W.mg_of X G a7, F7, b7, F8, b8, ⟨mk, a8, i8, kc⟩, F9, b9, ⟨a9, i9, k9⟩, F10, b10, ⟨a10, i10, k10⟩, F11, b11, ⟨a11, i11, k11⟩, F12, b12, ⟨a12, i12, k12⟩, F13, b13, ⟨a13, i13, k13⟩, F14, b14, ⟨a14, i14, k14⟩, F15, b15, ⟨a15, i15, k15⟩, F16, b16, ⟨a16, i16, k16⟩, F17, b17, ⟨a17, i17, k17⟩, F18, b18, ⟨a18, i18, k18⟩, F19, b19, ⟨a19, i19, k19⟩, F20, b20, ⟨a20, i20, k20⟩, F21, b21, ⟨a21, i21, k21⟩, PySem.W.mg_of X G a22, F22, b22, PySem.W.mg_of X G a23, F23, b23, PySem.W.mg_of X G a24, F24, b24, PySem.W.mg_of X G a25, F25, b25, PySem.W.mg_of X G a26, F26, b26, PySem.W.mg_of X G a27, F27, b27, PySem.W.mg_of X G a28, F28, b28, PySem.W.mg_of X G aC, ⟨pg, hd, po, sa⟩, nf_rows, nf_let_go_to, nf_lent, nf_own_rows, nf___bool__, ⟨_, PySem.W.mg_of X G g30⟩, ⟨_, PySem.W.mg_of X G g31⟩, ⟨_, PySem.W.mg_of X G g32⟩, PySem.W.mg_none_of X G z_max, PySem.W.mg_none_of X G z_min, PySem.W.mg_none_of X G z_len, PySem.W.mg_none_of X G z_int, PySem.W.mg_none_of X G z_range, PySem.W.mg_none_of X G z_isinstance, PySem.W.mg_none_of X G z_bool, PySem.W.mg_none_of X G z_tuple, PySem.W.mg_none_of X G z_all, PySem.W.mg_none_of X G z_repr, PySem.W.mg_none_of X G z_list, PySem.W.mg_none_of X G z_str, PySem.W.mg_none_of X G z_sorted, PySem.W.mg_none_of X G z_sum, PySem.W.mg_none_of X G z_dict⟩
  exact ⟨(PySem.W.fnOf "law" "law" (defArgs s_law) (defBody s_law) (defScope s_law) .none kV28 dc28 pm28 an28 cd28 ct28), fun s v => .of_eq rfl, fun base _ _ => ok_law T⟩
theorem walk {l : PySem.W.OpenLaw} {q : Program} {loose : List Str} {XP : (Str → Option Value) → Heap → Prop} {YP : World → Heap → Prop} {d : DefRec} {K : Params → PySem.W.Frag} (hn : l.most = some 63) (hdf : d.params.defaults = [])
    (hY : ∀ (w : World) (h : Heap), YP w h → (K w.params).In h)
    (F : ∀ (w : World) (mg : Str → Option Value) (fa : Addr) (h : Heap), (K w.params).In h → h.Ns mainGlobals mg → mg d.name = some (.ref fa) →
      ∃ fd : FuncData, (∀ (s : Shared) (u : Value), BindsTo s fd ⟨[u], []⟩ [("_law_script", u)]) ∧ ∀ base : Heap, (K w.params).In base → base.Ns mainGlobals mg → FnG l.prog w (K w.params) mg base 9 fa fd ["_law_script"] (spLaw (K w.params))) :
    PySem.W.WalkO q loose XP YP l.row.toRowW d [] (fun f vs => PySem.call f vs) :=
  walkG (n := 63) (k := 9) (x := "_law_script") (sp := fun w => (spLaw (K w.params))) hn (by decide) hdf ⟨rfl, by decide, by decide⟩ hY F (fun _ _ a ns hl _ _ hS => ⟨a, ns, rfl, hS, hl, fun _ => rfl⟩)
end M

open PySem PySem.W PyProof.Rows in
set_option maxRecDepth 100000 in
set_option maxHeartbeats 0 in
theorem PySem.Challenge.cw_stampedwait_k17_whole_what_was_read_stay_holds : PySem.Challenge.rw_stampedwait_k17_whole_what_was_read_stay.Holds := by
  w_on; o_law; k_head; (case hw => w_witness2)
  k_fill
  refine M.walk (l := PySem.Challenge.rw_stampedwait_k17_whole_what_was_read_stay) rfl rfl (fun w h Y => PySem.W.kIn_of Y) ?F
  case F =>
    intro w mg fa h KX G hmg
    refine' M.all_mk KX G hmg ?g30 ?g31 ?g32 ?aC ?pg ?hd ?po ?sa ?mk ?kc ?nf_rows ?nf_let_go_to ?nf_lent ?nf_own_rows ?nf___bool__ ?a0 ?l0 ?c0 ?k0 ?a1 ?l1 ?c1 ?k1 ?a2 ?l2 ?c2 ?k2 ?a3 ?l3 ?c3 ?k3 ?a4 ?l4 ?c4 ?k4 ?a5 ?l5 ?c5 ?k5 ?a6 ?l6 ?c6 ?k6 ?a7 ?l7 ?c7 ?k7 ?a8 ?i8 ?l8 ?c8 ?k8 ?a9 ?i9 ?l9 ?c9 ?k9 ?a10 ?i10 ?l10 ?c10 ?k10 ?a11 ?i11 ?l11 ?c11 ?k11 ?a12 ?i12 ?l12 ?c12 ?k12 ?a13 ?i13 ?l13 ?c13 ?k13 ?a14 ?i14 ?l14 ?c14 ?k14 ?a15 ?i15 ?l15 ?c15 ?k15 ?a16 ?i16 ?l16 ?c16 ?k16 ?a17 ?i17 ?l17 ?c17 ?k17 ?a18 ?i18 ?l18 ?c18 ?k18 ?a19 ?i19 ?l19 ?c19 ?k19 ?a20 ?i20 ?l20 ?c20 ?k20 ?a21 ?i21 ?l21 ?c21 ?k21 ?a22 ?l22 ?c22 ?k22 ?a23 ?l23 ?c23 ?k23 ?a24 ?l24 ?c24 ?k24 ?a25 ?l25 ?c25 ?k25 ?a26 ?l26 ?c26 ?k26 ?a27 ?l27 ?c27 ?k27 ?a28 ?l28 ?c28 ?k28 ?z_max ?z_min ?z_len ?z_int ?z_range ?z_isinstance ?z_bool ?z_tuple ?z_all ?z_repr ?z_list ?z_str ?z_sorted ?z_sum ?z_dict
    (case g30 => k_is)
    (case g31 => k_is)
    (case g32 => k_is)
    (case aC => k_is)
    (case pg => k_is)
    (case hd => k_is)
    (case po => k_is)
    (case sa => k_is)
    (case mk => k_is)
    (case kc => k_is)
    (case nf_rows => k_is)
    (case nf_let_go_to => k_is)
    (case nf_lent => k_is)
    (case nf_own_rows => k_is)
    (case nf___bool__ => k_is)
    (case a0 => k_is)
    (case l0 => k_is)
    (case c0 => k_is)
    (case k0 => k_is)
    (case a1 => k_is)
    (case l1 => k_is)
    (case c1 => k_is)
    (case k1 => k_is)
    (case a2 => k_is)
    (case l2 => k_is)
    (case c2 => k_is)
    (case k2 => k_is)
    (case a3 => k_is)
    (case l3 => k_is)
    (case c3 => k_is)
    (case k3 => k_is)
    (case a4 => k_is)
    (case l4 => k_is)
    (case c4 => k_is)
    (case k4 => k_is)
    (case a5 => k_is)
    (case l5 => k_is)
    (case c5 => k_is)
    (case k5 => k_is)
    (case a6 => k_is)
    (case l6 => k_is)
    (case c6 => k_is)
    (case k6 => k_is)
    (case a7 => k_is)
    (case l7 => k_is)
    (case c7 => k_is)
    (case k7 => k_is)
    (case a8 => k_is)
    (case i8 => k_is)
    (case l8 => k_is)
    (case c8 => k_is)
    (case k8 => k_is)
    (case a9 => k_is)
    (case i9 => k_is)
    (case l9 => k_is)
    (case c9 => k_is)
    (case k9 => k_is)
    (case a10 => k_is)
    (case i10 => k_is)
    (case l10 => k_is)
    (case c10 => k_is)
    (case k10 => k_is)
    (case a11 => k_is)
    (case i11 => k_is)
    (case l11 => k_is)
    (case c11 => k_is)
    (case k11 => k_is)
    (case a12 => k_is)
    (case i12 => k_is)
    (case l12 => k_is)
    (case c12 => k_is)
    (case k12 => k_is)
    (case a13 => k_is)
    (case i13 => k_is)
    (case l13 => k_is)
    (case c13 => k_is)
    (case k13 => k_is)
    (case a14 => k_is)
    (case i14 => k_is)
    (case l14 => k_is)
    (case c14 => k_is)
    (case k14 => k_is)
    (case a15 => k_is)
    (case i15 => k_is)
    (case l15 => k_is)
    (case c15 => k_is)
    (case k15 => k_is)
    (case a16 => k_is)
    (case i16 => k_is)
    (case l16 => k_is)
    (case c16 => k_is)
    (case k16 => k_is)
    (case a17 => k_is)
    (case i17 => k_is)
    (case l17 => k_is)
    (case c17 => k_is)
    (case k17 => k_is)
    (case a18 => k_is)
    (case i18 => k_is)
    (case l18 => k_is)
    (case c18 => k_is)
    (case k18 => k_is)
    (case a19 => k_is)
    (case i19 => k_is)
    (case l19 => k_is)
    (case c19 => k_is)
    (case k19 => k_is)
    (case a20 => k_is)
    (case i20 => k_is)
    (case l20 => k_is)
    (case c20 => k_is)
    (case k20 => k_is)
    (case a21 => k_is)
    (case i21 => k_is)
    (case l21 => k_is)
    (case c21 => k_is)
    (case k21 => k_is)
    (case a22 => k_is)
    (case l22 => k_is)
    (case c22 => k_is)
    (case k22 => k_is)
    (case a23 => k_is)
    (case l23 => k_is)
    (case c23 => k_is)
    (case k23 => k_is)
    (case a24 => k_is)
    (case l24 => k_is)
    (case c24 => k_is)
    (case k24 => k_is)
    (case a25 => k_is)
    (case l25 => k_is)
    (case c25 => k_is)
    (case k25 => k_is)
    (case a26 => k_is)
    (case l26 => k_is)
    (case c26 => k_is)
    (case k26 => k_is)
    (case a27 => k_is)
    (case l27 => k_is)
    (case c27 => k_is)
    (case k27 => k_is)
    (case a28 => k_is)
    (case l28 => k_is)
    (case c28 => k_is)
    (case k28 => k_is)
    (case z_max => k_is)
    (case z_min => k_is)
    (case z_len => k_is)
    (case z_int => k_is)
    (case z_range => k_is)
    (case z_isinstance => k_is)
    (case z_bool => k_is)
    (case z_tuple => k_is)
    (case z_all => k_is)
    (case z_repr => k_is)
    (case z_list => k_is)
    (case z_str => k_is)
    (case z_sorted => k_is)
    (case z_sum => k_is)
    (case z_dict => k_is)
